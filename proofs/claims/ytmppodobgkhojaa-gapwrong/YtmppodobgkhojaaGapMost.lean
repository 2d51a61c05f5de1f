/-
  Layer 8: the longest gap: its contract.
-/
import Derived.Test.YtmppodobgkhojaaGapEach
import Derived.Test.YtmppodobgkhojaaListGo
namespace Go.Proofs.Ytmppodobgkhojaa
open Go.ChangeShapes Go.WideShapes Go.ChangeAt Go.RowKit Go.Shelf
set_option linter.unusedVariables false
attribute [local go_sem] Oper.semAt_some

/-- The longest of gaps. -/
def mostL : List Gp → Int
  | [] => 0
  | g :: r => max (g.e - g.s) (mostL r)
theorem most_snoc (l : List Gp) (g : Gp) : mostL (l ++ [g]) = max (mostL l) (max (g.e - g.s) 0) := by
  induction l with
  | nil => simp [mostL]; omega
  | cons b l ih => simp only [List.cons_append, mostL, ih]; omega
def mostG (l : List GG) : Int := mostL (l.map (·.1))
theorem mostG_snoc (l : List GG) (x : GG) : mostG (l ++ [x]) = max (mostG l) (x.1.e - x.1.s) := by
  have := x.2.lt
  unfold mostG
  rw [List.map_append, List.map_singleton, most_snoc]; omega
theorem most_bound (l : List GG) : 0 ≤ mostG l ∧ mostG l ≤ 2031616 := by
  unfold mostG
  induction l with
  | nil => simp [mostL]
  | cons a l ih =>
    have := a.2.lo; have := a.2.lt; have := a.2.hi
    simp only [List.map_cons, mostL]
    omega

set_option maxRecDepth 100000 in
set_option maxHeartbeats 4000000 in
theorem largest_any (A : Option Addr) (l : List Ar) (cap : Nat) (hl : l.length ≤ 100000) (w : World) (hA : Areas w.heap.size w A l) :
    Calls Try.prog 16 #[.slice A l.length cap] w fun e w' => e = .returned (.int .i64 (mostL (gapsL l))) ∧ Below w.heap.size w w' := by
  refine (callsIn_wide (n := 5)).1 ?_
  have hro : Fence.wide.round = none := rfl
  have fE : Fence.wide.fn 28 := trivial
  refine callsIn_of_wp_marks Try.func16 rfl trivial ?_ hro
  simp only [Try.ntmps16, List.size_toArray, List.length_cons, List.length_nil, Nat.reduceAdd, Nat.reduceSub, Array.replicate_succ, Array.replicate_zero, List.push_toArray, List.append_toArray, List.nil_append, List.cons_append]
  gi_wp2_with (gi_at_call 28; refine (each_in _ _ _ _).mono ?_; rintro e w' ⟨rfl, rfl⟩)
  have bS : Whole ((w.alloc (.cells #[.int .i64 0] 2)).alloc (.cells #[.slice A l.length cap] 22)) w.heap.size 2 #[.int .i64 0] := (Whole.new w 2 _).alloc _
  have bN : Whole ((w.alloc (.cells #[.int .i64 0] 2)).alloc (.cells #[.slice A l.length cap] 22)) (w.heap.size + 1) 22 #[.slice A l.length cap] := by
    have := Whole.new (w.alloc (.cells #[.int .i64 0] 2)) 22 #[.slice A l.length cap]; rwa [World.size_alloc] at this
  have hB0 := below_new2 w (.cells #[.int .i64 0] 2) (.cells #[.slice A l.length cap] 22)
  have hsz : ((w.alloc (.cells #[.int .i64 0] 2)).alloc (.cells #[.slice A l.length cap] 22)).heap.size = w.heap.size + 2 := by simp
  generalize (w.alloc (.cells #[.int .i64 0] 2)).alloc (.cells #[.slice A l.length cap] 22) = W0 at *
  refine wpIn_rangeFunc_ownH hro (by omega) (gf := 41) (lb := #[.pointer (some ⟨w.heap.size + 1, 0, none⟩)]) rfl trivial (enters_of Try.func41 (by kernel_rfl) rfl)
    (each_stops (w.heap.size + 1) w.heap.size cap A l hl W0 (by omega) (by omega) (bN.cell 0) (hA.below hB0)) KpA.trans (KpA.put (by omega)) (Below.refl _ _) (fun _ => rfl)
    (fun pre W => Whole W w.heap.size 2 #[.int .i64 (mostG pre)] ∧ Below w.heap.size w W)
    (fun _ _ _ => False)
    (OwnFrom.and (Own.from (whole_own _ _ _) _) (ownFrom_below (Nat.le_refl _) (by omega)))
    (fun _ _ _ _ _ hs _ _ => hs)
    ⟨bS, hB0⟩
    (fun x a' W => ∃ Bx, w.heap.size < Bx ∧ Whole W Bx 29 x.1.cells ∧ a' = { tmps := #[.slice A l.length cap, undef, .int .i64 0, .pointer (some ⟨w.heap.size, 0, none⟩), .pointer (some ⟨Bx, 0, none⟩), .slice A l.length cap, .func (.func 41) #[] #[.pointer (some ⟨w.heap.size + 1, 0, none⟩)], x.1.v, undef, undef, undef, undef, undef, undef, undef, undef], defers := [] })
    (fun x a' _ X Y row hs hg hr => by obtain ⟨Bx, h1, h2, h3⟩ := hs; exact ⟨Bx, h1, whole_own Bx _ (fun _ : Unit => _) () X Y row h2 hg (fun r e => (hr r e).2), h3⟩)
    ?assign ?body ?done ?stop
  case assign =>
    rintro l2 pre ⟨⟨x0, x1⟩, hx⟩ W K ⟨bS1, hB1⟩ hK
    simp only [Gp.v]
    gi_wp2
    exact hK _ _ ((KeepsOthers.alloc _ _).from _) (KpA.still hB1.size (below_new W _)) ⟨bS1.alloc _, hB1.alloc hB1.size _⟩ ⟨W.heap.size, bS1.lt, Whole.new W _ _, rfl⟩
  case body =>
    rintro l2 pre x a' W hlw hrec ⟨bS1, hB1⟩ ⟨Bx, hBx, bX, rfl⟩ hlt
    have cS := bS1.cell 0
    have fS := bS1.frozen 0
    have c0 := bX.cell 0
    have c1 := bX.cell 1
    have nx := And.intro x.2.lo (And.intro x.2.lt x.2.hi)
    have hb := most_bound pre
    have E1 := Lib.hid (mostG_snoc pre x)
    generalize hs : mostG pre = s at *
    clear hA hs
    simp [Gp.cells] at cS c0 c1
    gi_wp2
    all_goals (
      refine ⟨(KeepsOthers.setCell _ _ _).from _, KpA.set bS1 (by decide) (Nat.le_refl _) _ _, ?_, hB1.setCell (p := ⟨w.heap.size, 0, none⟩) (Nat.le_refl _) _⟩
      rw [E1.out]
      first | rw [Int.max_eq_right (by omega)] | rw [Int.max_eq_left (by omega)]
      exact bS1.put 0 _)
  case done =>
    rintro D ys W hD hys ⟨bS1, hB1⟩ hK
    have cS := bS1.cell 0
    unfold mostG at cS
    rw [hys] at cS
    simp at cS
    gi_wp2
    refine ⟨by simp, .inl ⟨_, _, rfl, run_takeDeferred hK, ?_⟩⟩
    exact ⟨_, results_tmp rfl _ _ _, rfl, hB1.trans (belowK_b (w := w) (Nat.le_refl _) W D _ _ (by omega) hK rfl rfl)⟩
  case stop =>
    rintro D c pre W _ _ h _
    exact h.elim
end Go.Proofs.Ytmppodobgkhojaa
