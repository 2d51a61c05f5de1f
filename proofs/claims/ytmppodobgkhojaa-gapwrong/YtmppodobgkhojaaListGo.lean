/-
  Layer 7: the loops over a list: a contract for each call.
-/
import Derived.Test.YtmppodobgkhojaaListRightDo
import Derived.Test.YtmppodobgkhojaaOwnRow
namespace Go.Proofs.Ytmppodobgkhojaa
open Go.ChangeShapes Go.WideShapes Go.ChangeAt Go.RowKit Go.Shelf
set_option linter.unusedVariables false
attribute [local go_sem] Oper.semAt_some

/-- The variable of a round, in a block of its own. -/
theorem area_own (B : Nat) (a : Ar) : Own (fun (_ : Unit) W => ArIn W B a) := fun s X Y row hs hg hrow =>
  Whole.grown hs hg (fun e' => by obtain ⟨o, ho, hc⟩ := hrow B e'.symm; rw [show X.heap[B]? = _ from hs] at ho; cases ho; cases hc)

theorem sum_snoc (l : List Ar) (a : Ar) : sumL (l ++ [a]) = sumL l + (a.e - a.s) := by
  induction l with
  | nil => simp [sumL]
  | cons b l ih => simp only [List.cons_append, sumL, ih]; omega

/-- Areas that are formed. -/
abbrev FAr := { a : Ar // Formed a }
theorem sum_bound (l : List FAr) : 0 ≤ sumL (l.map (·.1)) ∧ sumL (l.map (·.1)) ≤ 2097152 * l.length := by
  induction l with
  | nil => simp [sumL]
  | cons a l ih =>
    have := formed_num a.2
    simp only [List.map_cons, sumL, List.length_cons]
    push_cast
    omega
/-- A box that holds a number. -/
theorem whole_own {β : Type} (B : Nat) (t : TypeId) (f : β → Array Value) : Own (fun s W => Whole W B t (f s)) := fun s X Y row hs hg hrow =>
  Whole.grown hs hg (fun e' => by obtain ⟨o, ho, hc⟩ := hrow B e'.symm; rw [show X.heap[B]? = _ from hs] at ho; cases ho; cases hc)

set_option maxRecDepth 100000 in
set_option maxHeartbeats 4000000 in
theorem length_any (A : Option Addr) (l : List FAr) (cap : Nat) (hl : l.length ≤ 100000) (w : World) (hA : Areas w.heap.size w A (l.map (·.1))) :
    Calls Try.prog 26 #[.slice A l.length cap] w fun e w' => e = .returned (.int .i64 (sumL (l.map (·.1)))) ∧ Below w.heap.size w w' := by
  refine (callsIn_wide (n := 5)).1 ?_
  have hro : Fence.wide.round = none := rfl
  have f42 : Fence.wide.fn 39 := trivial
  have f49 : Fence.wide.fn 51 := trivial
  refine callsIn_of_wp_marks Try.func26 rfl trivial ?_ hro
  simp only [Try.ntmps26, List.size_toArray, List.length_cons, List.length_nil, Nat.reduceAdd, Nat.reduceSub, Array.replicate_succ, Array.replicate_zero, List.push_toArray, List.append_toArray, List.nil_append, List.cons_append]
  gi_wp2_with (gi_at_call 39; refine (values_in Fence.wide 4 f42 hro _ _ _ _).mono ?_; rintro e w' ⟨rfl, rfl⟩)
  have bS : Whole ((w.alloc (.cells #[.int .i64 0] 2)).alloc (.cells #[.slice A l.length cap] 22)) w.heap.size 2 #[.int .i64 0] := (Whole.new w 2 _).alloc _
  have bN : Whole ((w.alloc (.cells #[.int .i64 0] 2)).alloc (.cells #[.slice A l.length cap] 22)) (w.heap.size + 1) 22 #[.slice A l.length cap] := by
    have := Whole.new (w.alloc (.cells #[.int .i64 0] 2)) 22 #[.slice A l.length cap]; rwa [World.size_alloc] at this
  have hB0 := below_new2 w (.cells #[.int .i64 0] 2) (.cells #[.slice A l.length cap] 22)
  have hsz : ((w.alloc (.cells #[.int .i64 0] 2)).alloc (.cells #[.slice A l.length cap] 22)).heap.size = w.heap.size + 2 := by simp
  generalize (w.alloc (.cells #[.int .i64 0] 2)).alloc (.cells #[.slice A l.length cap] 22) = W0 at *
  refine wpIn_rangeFunc_ownH hro (by omega) (gf := 51) (lb := #[.pointer (some ⟨w.heap.size + 1, 0, none⟩)]) rfl f49 (enters_of Try.func51 (by kernel_rfl) rfl)
    (values_stops (fun a : FAr => a.1) Fence.wide 4 f49 hro (by omega) (w.heap.size + 1) w.heap.size cap A l hl W0 (by omega) (by omega) (bN.cell 0) (hA.below hB0)) belowK_t (belowK_b (by omega)) (Below.refl _ _) (fun _ => rfl)
    (fun pre W => Whole W w.heap.size 2 #[.int .i64 (sumL (pre.map (·.1)))] ∧ Below w.heap.size w W)
    (fun _ _ _ => False)
    (OwnFrom.and (Own.from (whole_own _ _ _) _) (ownFrom_below (Nat.le_refl _) (by omega)))
    (fun _ _ _ _ _ hs _ _ => hs)
    ⟨bS, hB0⟩
    (fun x a' W => ∃ Bx, w.heap.size < Bx ∧ ArIn W Bx x.1 ∧ a' = { tmps := #[.slice A l.length cap, undef, .int .i64 0, .pointer (some ⟨w.heap.size, 0, none⟩), .pointer (some ⟨Bx, 0, none⟩), .slice A l.length cap, .func (.func 51) #[] #[.pointer (some ⟨w.heap.size + 1, 0, none⟩)], x.1.v, undef, undef, undef, undef, undef, undef, undef, undef], defers := [] })
    (fun x a' _ X Y row hs hg hr => by obtain ⟨Bx, h1, h2, h3⟩ := hs; exact ⟨Bx, h1, area_own Bx x.1 () X Y row h2 hg (fun r e => (hr r e).2), h3⟩)
    ?assign ?body ?done ?stop
  case assign =>
    rintro l2 pre ⟨⟨x0, x1, x2, x3, x4, x5⟩, hx⟩ W K ⟨bS1, hB1⟩ hK
    simp only [Ar.v]
    gi_wp2
    exact hK _ _ ((KeepsOthers.alloc _ _).from _) ((Below.refl _ W).alloc hB1.size _) ⟨bS1.alloc _, hB1.alloc hB1.size _⟩ ⟨W.heap.size, bS1.lt, Whole.new W _ _, rfl⟩
  case body =>
    rintro l2 pre x a' W hlw hrec ⟨bS1, hB1⟩ ⟨Bx, hBx, bX, rfl⟩ hlt
    have cS := bS1.cell 0
    have fS := bS1.frozen 0
    obtain ⟨c0, c1, c2, c3, c4, c5⟩ := bX.cs
    have nx := formed_num x.2
    have hb := sum_bound pre
    have e1 : sumL ((pre ++ [x]).map (·.1)) = sumL (pre.map (·.1)) + (x.1.e - x.1.s) := by rw [List.map_append, List.map_singleton, sum_snoc]
    generalize sumL (pre.map (·.1)) = s at *
    have E1 := Lib.hid e1
    clear e1 hA
    simp at cS
    gi_wp2
    refine ⟨(KeepsOthers.setCell _ _ _).from _, (Below.refl w.heap.size W).setCell (p := ⟨w.heap.size, 0, none⟩) (Nat.le_refl _) _, ?_, hB1.setCell (p := ⟨w.heap.size, 0, none⟩) (Nat.le_refl _) _⟩
    rw [E1.out]
    exact bS1.put 0 _
  case done =>
    rintro D ys W hD rfl ⟨bS1, hB1⟩ hK
    have cS := bS1.cell 0
    simp at cS
    gi_wp2
    refine ⟨by simp, .inl ⟨_, _, rfl, run_takeDeferred hK, ?_⟩⟩
    exact ⟨_, results_tmp rfl _ _ _, rfl, hB1.trans (belowK_b (w := w) (Nat.le_refl _) W D _ _ (by omega) hK rfl rfl)⟩
  case stop =>
    rintro D c pre W _ _ h _
    exact h.elim

/-! Lists of our own. -/
def Ar.cl (a : Ar) : List Value := [.int .i64 a.s, .int .i64 a.e, .int .i64 a.p, .bool a.sh, .int .i64 a.bk, .int .i64 a.off]
def cls (l : List Ar) : List Value := l.flatMap Ar.cl
theorem cls_app (l l' : List Ar) : cls (l ++ l') = cls l ++ cls l' := by simp [cls]
theorem cls_len (l : List Ar) : (cls l).length = l.length * 6 := by
  induction l with
  | nil => rfl
  | cons a l ih => simp only [cls, List.flatMap_cons, List.length_append, List.length_cons] at *; rw [ih]; simp [Ar.cl]; omega
theorem cls_one (l : List Ar) : ∀ u ∈ cls l, u.oneCell' = true := by
  intro u hu
  obtain ⟨a, _, hu⟩ := List.mem_flatMap.1 hu
  simp [Ar.cl] at hu
  rcases hu with rfl | rfl | rfl | rfl | rfl | rfl <;> rfl
theorem cls_at : ∀ (l : List Ar) (j : Nat) (h : j < l.length) (i : Nat), i < 6 → (cls l)[j * 6 + i]? = (Ar.cl l[j])[i]?
  | a :: l, 0, _, i, hi => by
    simp only [cls, List.flatMap_cons, Nat.zero_mul, Nat.zero_add, List.getElem_cons_zero]
    rw [List.getElem?_append_left (by simp [Ar.cl]; omega)]
  | a :: l, j + 1, h, i, hi => by
    have := cls_at l j (by simpa using h) i hi
    simp only [cls, List.flatMap_cons, List.getElem_cons_succ] at *
    rw [List.getElem?_append_right (by simp [Ar.cl]; omega), ← this]
    congr 1
    simp [Ar.cl]; omega
/-- A slice in memory of our own, from B on, that holds areas. -/
def Mine (B : Nat) (w : World) (v : Value) (l : List Ar) : Prop := w.ownsRow B 35 6 v l.length (cls l)
section
variable {B : Nat} {w w' : World} {v : Value} {l : List Ar}
theorem Mine.nil (B : Nat) (w : World) : Mine B w (.slice none 0 0) [] := World.ownsRow_nil w B _ _
theorem Mine.is (h : Mine B w v l) : ∃ A c, v = .slice A l.length c := own_slice h
theorem Mine.still (h : Mine B w v l) (hb : Below w.heap.size w w') : Mine B w' v l := own_still h hb
theorem Mine.base {B' : Nat} (h : Mine B w v l) (hb : B' ≤ B) : Mine B' w v l := own_base h hb
theorem Mine.areas {A : Option Addr} {n c : Nat} (h : Mine B w (.slice A n c) l) : Areas w.heap.size w A l := by
  cases l with
  | nil => exact .inl rfl
  | cons a l =>
    rcases h.2 with ⟨_, h0⟩ | ⟨g, cap, cur, hv, hb, hh, _⟩
    · simp at h0
    · injection hv with h1
      subst h1
      have hc := World.ownsRow.cells h (g := g) (by simp [Value.ownBlock])
      refine .inr ⟨g, 0, rfl, Whole.lt (t := 35) hh, fun j hj => ?_⟩
      have key : ∀ i u, i < 6 → (Ar.cl (a :: l)[j])[i]? = some u → w.cell? ⟨g, 0 + j * 6 + i, none⟩ = some u := fun i u hi hu => by
        have := hc (j * 6 + i) u (by rw [cls_at _ j hj i hi]; exact hu)
        rw [Addr.add_lit] at this
        rw [Nat.add_assoc]; exact this
      exact ⟨key 0 _ (by omega) rfl, key 1 _ (by omega) rfl, key 2 _ (by omega) rfl, key 3 _ (by omega) rfl, key 4 _ (by omega) rfl, key 5 _ (by omega) rfl⟩
theorem Mine.only {S : Nat → Prop} (h : Mine B w v l) (ho : Only S w w') (hS : ∀ k, v.ownBlock = some k → ¬ S k) : Mine B w' v l := own_only h ho hS
theorem Mine.lt (h : Mine B w v l) : ∀ k, v.ownBlock = some k → B ≤ k ∧ k < w.heap.size := World.ownsRow.lt h
end

/-- What append asks of the type. -/
theorem area_info : (Try.prog.info? 35).map (fun i => (i.zero, i.size, i.bytes)) = some (some Ar.nil.v, 6, 48) := by kernel_rfl

theorem new6 (w : World) (a : Ar) (t : TypeId) : ∀ j u, (Ar.cl a)[j]? = some u → (w.alloc (.cells a.cells t)).cell? ((⟨w.heap.size, 0, none⟩ : Addr).add j) = some u := by
  intro j u hu
  have h := Whole.new w t a.cells
  have := h.cell j
  rw [Addr.add_lit, Nat.zero_add, this]
  simpa [Ar.cells, Ar.cl] using hu

theorem mine_more {B : Nat} {w : World} {v : Value} {l l' : List Ar} {n : Nat} (hn : n = l'.length) (h : w.ownsRow B 35 6 v (l.length + n) (cls l ++ cls l')) : Mine B w v (l ++ l') := by
  subst hn
  unfold Mine
  rw [List.length_append, cls_app]; exact h
theorem cls_single (a : Ar) : cls [a] = Ar.cl a := by simp [cls]
theorem cl_one (a : Ar) : ∀ u ∈ Ar.cl a, u.oneCell' = true := by rw [← cls_single]; exact cls_one _
/-- What append leaves alone. -/
theorem only_grown {S : Nat → Prop} {w w' w'' : World} {v : Value} (h : Only S w w') (hg : w'.grownBy w'' v.ownBlock) (hS : ∀ k, v.ownBlock = some k → S k) : Only S w w'' :=
  h.grown hg (fun k hk => .inl (hS k hk))

set_option maxHeartbeats 2000000 in
theorem add_any (B : Nat) (v : Value) (l : List Ar) (a : Ar) (lo hi : Int) (w : World) (hB : B ≤ w.heap.size) (hl : l.length ≤ 100000) (hv : Mine B w v l) :
    Calls Try.prog 49 #[v, a.v, .int .i64 lo, .int .i64 hi] w fun e w' => ∃ v', e = .returned v' ∧ Mine B w' v' (l ++ partL a lo hi) ∧ Only (fun k => v.ownBlock = some k) w w' := by
  obtain ⟨A, c, rfl⟩ := hv.is
  have X := Lib.hid (part_any a lo hi)
  obtain ⟨i0, hi0, hz0, hz1, hz2⟩ := info_parts area_info
  have HI : Hid (Try.prog.info? 35 = some i0) := Lib.hid hi0
  have H0 : Hid (i0.zero = some Ar.nil.v) := Lib.hid hz0
  have H1 : Hid (i0.size = 6) := Lib.hid hz1
  have H2 : Hid (i0.bytes = 48) := Lib.hid hz2
  clear hi0 hz0 hz1 hz2
  have HV := Lib.hid hv
  clear hv
  generalize hb : a.part lo hi = b at *
  have HB := Lib.hid hb
  clear hb
  by_cases hp : PartA a lo hi
  · rw [if_pos hp] at X
    have HP := Lib.hid (show partL a lo hi = [b] by unfold partL; rw [if_pos hp, HB.out])
    rw [HP.out]
    clear hp
    obtain ⟨a0, a1, a2, a3, a4, a5⟩ := a
    obtain ⟨b0, b1, b2, b3, b4, b5⟩ := b
    simp only [Ar.v] at X ⊢
    go_enter Try.func49, Try.ntmps49
    go_wp2_with fail
    refine (X.out _).mono ?_
    rintro e w1 ⟨rfl, hb1⟩
    have B1 := Lib.hid (below_then (below_new w _) hb1 (Nat.le_refl _))
    clear hb1
    have V1 := Lib.hid (HV.out.still B1.out)
    have S1 := Lib.hid B1.out.size
    go_wp2_with (at_builtin; refine wpList_append_own _ rfl (.tmp 19) (.tmp 21) _ rfl B 35 i0 _ 6 48 Try.underlying22 HI.out H0.out H1.out H2.out rfl (by omega) _ l.length _ rfl (World.ownsRow.alloc (World.ownsRow.alloc V1.out _) _) ⟨w1.heap.size + 1, 0, none⟩ 1 1 (Ar.cl ⟨b0, b1, b2, b3, b4, b5⟩) rfl rfl (by have := new6 (w1.alloc (.cells (Ar.cells ⟨b0, b1, b2, b3, b4, b5⟩) 35)) ⟨b0, b1, b2, b3, b4, b5⟩ 35; rwa [World.size_alloc] at this) (cl_one _) (by simp only [maxLen]; omega) (by omega) (by have := S1.out; simp; omega) ?_; intro v' w2 hown' hg' _hnil; have HO := Lib.hid hown'; have HG := Lib.hid hg'; clear hown' hg' _hnil)
    go_ret
    refine ⟨v', rfl, mine_more (l' := [_]) rfl (by rw [cls_single]; exact HO.out), ?_⟩
    exact only_grown (((Only.of_below B1.out _).alloc _).alloc _) HG.out (fun k hk => hk)
  · rw [if_neg hp] at X
    have HP := Lib.hid (show partL a lo hi = [] by unfold partL; rw [if_neg hp])
    rw [HP.out, List.append_nil]
    clear hp
    obtain ⟨a0, a1, a2, a3, a4, a5⟩ := a
    simp only [Ar.v, Ar.nil] at X ⊢
    go_enter Try.func49, Try.ntmps49
    go_wp2_with fail
    refine (X.out _).mono ?_
    rintro e w1 ⟨rfl, hb1⟩
    have B1 := Lib.hid (below_then (below_new w _) hb1 (Nat.le_refl _))
    clear hb1
    have V1 := Lib.hid (HV.out.still B1.out)
    go_wp2_with fail
    go_ret
    exact ⟨_, rfl, World.ownsRow.alloc V1.out _, (Only.of_below B1.out _).alloc _⟩
end Go.Proofs.Ytmppodobgkhojaa
