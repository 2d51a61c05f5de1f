/-
  Layer 8: the least and the greatest address with room, and whether there is room at one: a contract for each call.
-/
import Derived.Test.YtmppodobgkhojaaGapRooms
namespace Go.Proofs.Ytmppodobgkhojaa
open Go.ChangeShapes Go.WideShapes Go.ChangeAt Go.RowKit Go.Shelf
set_option linter.unusedVariables false
attribute [local go_sem] Oper.semAt_some

/-- The least address, and whether there is one. -/
def lowOf : List GG → Int × Bool
  | [] => (0, false)
  | x :: _ => (x.1.s, true)
/-- The greatest one. -/
def highOf (size : Int) (l : List GG) : Int × Bool := match l.getLast? with
  | none => (0, false)
  | some x => (x.1.e - size, true)
theorem high_snoc (size : Int) (l : List GG) (x : GG) : highOf size (l ++ [x]) = (x.1.e - size, true) := by simp [highOf]
/-- Two variables of a call: a number, and whether it is one. -/
structure Duo (w W : World) (n : Int) (ok : Bool) : Prop where
  bel : Below w.heap.size w W
  n : Whole W w.heap.size 2 #[.int .i64 n]
  ok : Whole W (w.heap.size + 1) 4 #[.bool ok]
theorem Duo.only {w W W' : World} {n : Int} {ok : Bool} {B : Nat} (h : Duo w W n ok) (ho : Only (fun k => B ≤ k) W W') (hB : w.heap.size + 2 ≤ B) : Duo w W' n ok :=
  ⟨h.bel.trans (ho.below (fun k hk => by omega) h.bel.size), h.n.only ho (by omega), h.ok.only ho (by omega)⟩

theorem Duo.set {w W : World} {n : Int} {ok : Bool} (h : Duo w W n ok) (n' : Int) (ok' : Bool) : Duo w ((W.setCell ⟨w.heap.size, 0, none⟩ (.int .i64 n')).setCell ⟨w.heap.size + 1, 0, none⟩ (.bool ok')) n' ok' :=
  ⟨(h.bel.setCell (p := ⟨w.heap.size, 0, none⟩) (Nat.le_refl _) _).setCell (p := ⟨w.heap.size + 1, 0, none⟩) (by simp) _, (h.n.put 0 _).far (by simp) _, (h.ok.far (by simp) _).put 0 _⟩
theorem Duo.kc {w W : World} {n : Int} {ok : Bool} (h : Duo w W n ok) {n₁ : Nat} (hn : w.heap.size + 2 ≤ n₁) (u v : Value) : Kc w.heap.size n₁ W ((W.setCell ⟨w.heap.size, 0, none⟩ u).setCell ⟨w.heap.size + 1, 0, none⟩ v) :=
  (Kc.set h.n (by decide) (Nat.le_refl _) (by omega) 0 u).trans (Kc.set (h.ok.far (by simp) _) (by decide) (by omega) (by omega) 0 v)
theorem Duo.deaf {w : World} {n : Int} {ok : Bool} {W : World} {D : Nat} {o o' : Obj} (h : Duo w W n ok) (hD : w.heap.size + 2 ≤ D) : Duo w (W.putObj D o') n ok := h.only (only_put W o' hD) (Nat.le_refl _)
/-- Nothing was told; something was. -/
def LowI (w : World) (pre : List GG) (W : World) : Prop := pre = [] ∧ Duo w W 0 false
def LowX (w : World) (pre : List GG) (W : World) : Prop := ∃ x, pre = [x] ∧ Duo w W x.1.s true
theorem duo_results {fn : Func} {p q : Tmp} (h : fn.results = #[.cell p 2, .cell q 4]) (tmps : Array Value) (w : World) (a b : Nat) (n : Int) (ok : Bool) (hp : tmps.getD p undef = .pointer (some ⟨a, 0, none⟩)) (hq : tmps.getD q undef = .pointer (some ⟨b, 0, none⟩))
    (ha : w.cell? ⟨a, 0, none⟩ = some (.int .i64 n)) (hb : w.cell? ⟨b, 0, none⟩ = some (.bool ok)) : (results fn tmps).run Try.prog w = .ok (.tuple #[.int .i64 n, .bool ok]) w := by
  have hp' : tmps[p]?.getD undef = .pointer (some ⟨a, 0, none⟩) := by simpa using hp
  have hq' : tmps[q]?.getD undef = .pointer (some ⟨b, 0, none⟩) := by simpa using hq
  simp [results, h, hp', hq', asAddr, loadVar, go_sem, ha, hb, Result.andThen]

/-- What a call with these two variables leaves. -/
theorem duo_leaves {w W : World} {n : Int} {ok : Bool} {D : Nat} (h : Duo w W n ok) (hD : w.heap.size + 2 ≤ D) (o : Obj) {fn : Func} {p q : Tmp} (hf : fn.results = #[.cell p 2, .cell q 4]) {tmps : Array Value} (hp : tmps.getD p undef = .pointer (some ⟨w.heap.size, 0, none⟩)) (hq : tmps.getD q undef = .pointer (some ⟨w.heap.size + 1, 0, none⟩)) :
    (results fn tmps).run Try.prog (W.putObj D o) = .ok (.tuple #[.int .i64 n, .bool ok]) (W.putObj D o) := by
  have h2 : Duo w (W.putObj D o) n ok := h.only (only_put W o hD) (Nat.le_refl _)
  have c1 := h2.n.cell 0
  have c2 := h2.ok.cell 0
  exact duo_results hf tmps _ _ _ n ok hp hq (by simpa using c1) (by simpa using c2)
theorem duo_below {w W : World} {n : Int} {ok : Bool} {D : Nat} (h : Duo w W n ok) (hD : w.heap.size + 2 ≤ D) (o : Obj) : Below w.heap.size w (W.putObj D o) := (h.only (only_put W o hD) (Nat.le_refl _)).bel

set_option maxRecDepth 100000 in
set_option maxHeartbeats 4000000 in
theorem lowest_any (A : Option Addr) (l : List Ar) (cap : Nat) (lo hi size : Int) (hl : l.length ≤ 10000) (w : World) (hA : Areas w.heap.size w A l) :
    Calls Try.prog 15 #[.slice A l.length cap, .int .i64 lo, .int .i64 hi, .int .i64 size] w fun e w' => e = .returned (.tuple #[.int .i64 (lowOf (roomsL lo hi size l)).1, .bool (lowOf (roomsL lo hi size l)).2]) ∧ Below w.heap.size w w' := by
  refine (callsIn_wide (n := 5)).1 ?_
  have hro : Fence.wide.round = none := rfl
  have fE : Fence.wide.fn 29 := trivial
  refine callsIn_of_wp_marks Try.func15 rfl trivial ?_ hro
  simp only [Try.ntmps15, List.size_toArray, List.length_cons, List.length_nil, Nat.reduceAdd, Nat.reduceSub, Array.replicate_succ, Array.replicate_zero, List.push_toArray, List.append_toArray, List.nil_append, List.cons_append]
  gi_wp2_with (gi_at_call 29; refine (rooms_in _ _ _ _ _ _ _).mono ?_; rintro e w1 ⟨rfl, hb1, hs1, hC1⟩)
  simp only [World.size_alloc] at hb1 hs1 hC1
  have D0 : Duo w w1 0 false := by
    have h2 := below_new2 w (.cells #[.int .i64 0] 2) (.cells #[.bool false] 4)
    refine ⟨h2.trans (hb1.mono (by omega)), ((Whole.new w 2 #[.int .i64 0]).alloc _).below hb1 (by omega), ?_⟩
    have := Whole.new (w.alloc (.cells #[.int .i64 0] 2)) 4 #[.bool false]
    rw [World.size_alloc] at this
    exact this.below hb1 (by omega)
  clear hb1
  refine range_own (gf := 42) (lb := #[.pointer (some ⟨w.heap.size + 1 + 1 + 3, 0, none⟩), .pointer (some ⟨w.heap.size + 1 + 1, 0, none⟩), .pointer (some ⟨w.heap.size + 1 + 1 + 1, 0, none⟩), .pointer (some ⟨w.heap.size + 1 + 1 + 2, 0, none⟩)]) rfl (enters_of Try.func42 (by kernel_rfl) rfl)
    (rooms_stops (w.heap.size + 1 + 1) w.heap.size cap A l lo hi size hl w1 (by omega) hC1 (hA.below D0.bel)) (Below.refl _ _) (by omega) (by omega)
    (LowI w)
    (LowX w)
    (fun s X Y hs ho => ⟨hs.1, hs.2.only ho (by omega)⟩)
    (fun s X Y hs ho => by obtain ⟨x, h1, h2⟩ := hs; exact ⟨x, h1, h2.only ho (by omega)⟩)
    ⟨rfl, D0⟩
    (fun x a' W => ∃ Bx, Whole W Bx 29 x.1.cells ∧ a' = { tmps := #[.slice A l.length cap, .int .i64 lo, .int .i64 hi, .int .i64 size, undef, undef, undef, undef, .pointer (some ⟨w.heap.size, 0, none⟩), .pointer (some ⟨w.heap.size + 1, 0, none⟩), .pointer (some ⟨Bx, 0, none⟩), .slice A l.length cap, .int .i64 lo, .int .i64 hi, .int .i64 size, .func (.func 42) #[] #[.pointer (some ⟨w.heap.size + 1 + 1 + 3, 0, none⟩), .pointer (some ⟨w.heap.size + 1 + 1, 0, none⟩), .pointer (some ⟨w.heap.size + 1 + 1 + 1, 0, none⟩), .pointer (some ⟨w.heap.size + 1 + 1 + 2, 0, none⟩)], x.1.v, undef, undef], defers := [] })
    (fun x a' _ X Y row hs hg hr => by obtain ⟨Bx, h2, h3⟩ := hs; exact ⟨Bx, whole_own Bx _ (fun _ : Unit => _) () X Y row h2 hg (fun r e => (hr r e).2), h3⟩)
    ?assign ?body ?done ?stop
  case assign =>
    rintro l2 pre ⟨⟨x0, x1⟩, hx⟩ W K ⟨rfl, hD⟩ hK
    simp only [Gp.v]
    gi_wp2
    exact hK _ _ (below_new W _) ⟨rfl, hD.only (only_still (below_new W _)) (Nat.le_refl _)⟩ ⟨W.heap.size, Whole.new W _ _, rfl⟩
  case body =>
    rintro l2 pre ⟨⟨x0, x1⟩, hx⟩ a' W ⟨rfl, hD⟩ ⟨Bx, bX, rfl⟩ hlt
    have c0 := bX.cell 0
    have cN := hD.n.cell 0
    have cO := hD.ok.cell 0
    have fN := hD.n.frozen 0
    have fO := hD.ok.frozen 0
    have HD := Lib.hid hD
    simp [Gp.cells] at c0 cN cO
    simp only [Gp.v]
    clear hA bX hD D0 hC1
    gi_wp2
    exact ⟨HD.out.kc (by omega) _ _, _, rfl, HD.out.set _ _⟩
  case done =>
    rintro D ys W hD hys ⟨hnil, hI⟩ hK
    have HY : Hid (roomsL lo hi size l = []) := Lib.hid (hys.symm.trans hnil)
    have cN := hI.n.cell 0
    have cO := hI.ok.cell 0
    have fN := hI.n.frozen 0
    have fO := hI.ok.frozen 0
    have HI := Lib.hid hI
    have HK := Lib.hid hK
    simp at cN cO
    clear hI hA D0 hC1 hys hnil
    gi_wp2
    have HE := Lib.hid (HI.out.set 0 false)
    have K2 : Hid (((W.setCell ⟨w.heap.size, 0, none⟩ (.int .i64 0)).setCell ⟨w.heap.size + 1, 0, none⟩ (.bool false)).heap[D]? = some (.deferred (some []))) := Lib.hid (((KeepsOthers.setCell _ _ _).trans (KeepsOthers.setCell _ _ _)).same D _ HK.out rfl)
    refine ⟨by simp, .inl ⟨_, _, rfl, run_takeDeferred K2.out, ?_⟩⟩
    rw [HY.out]
    exact ⟨_, duo_leaves HE.out (by omega) _ rfl rfl rfl, rfl, duo_below HE.out (by omega) _⟩
  case stop =>
    rintro D pre W hD ⟨t, ht⟩ ⟨x, rfl, hI⟩ hK
    have HY : Hid (roomsL lo hi size l = x :: t) := Lib.hid (by rw [← ht]; rfl)
    have HI := Lib.hid hI
    have HK := Lib.hid hK
    clear hI hA D0 hC1 ht
    gi_wp2
    refine ⟨by simp, .inl ⟨_, _, rfl, run_takeDeferred HK.out, ?_⟩⟩
    rw [HY.out]
    exact ⟨_, duo_leaves HI.out (by omega) _ rfl rfl rfl, rfl, duo_below HI.out (by omega) _⟩
end Go.Proofs.Ytmppodobgkhojaa
