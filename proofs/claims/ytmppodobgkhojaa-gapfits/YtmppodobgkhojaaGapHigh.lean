/-
  Layer 8: the greatest address with room, and whether there is room at one: a contract for each call.
-/
import Derived.Test.YtmppodobgkhojaaGapPick
namespace Go.Proofs.Ytmppodobgkhojaa
open Go.ChangeShapes Go.WideShapes Go.ChangeAt Go.RowKit Go.Shelf
set_option linter.unusedVariables false
attribute [local go_sem] Oper.semAt_some

/-- Three variables of a call: a size, a number, and whether it is one. -/
structure Trio (w W : World) (size n : Int) (ok : Bool) : Prop where
  bel : Below w.heap.size w W
  sz : Whole W w.heap.size 2 #[.int .i64 size]
  n : Whole W (w.heap.size + 1) 2 #[.int .i64 n]
  ok : Whole W (w.heap.size + 1 + 1) 4 #[.bool ok]
theorem Trio.only {w W W' : World} {size n : Int} {ok : Bool} {B : Nat} (h : Trio w W size n ok) (ho : Only (fun k => B ≤ k) W W') (hB : w.heap.size + 3 ≤ B) : Trio w W' size n ok :=
  ⟨h.bel.trans (ho.below (fun k hk => by omega) h.bel.size), h.sz.only ho (by omega), h.n.only ho (by omega), h.ok.only ho (by omega)⟩
theorem Trio.set {w W : World} {size n : Int} {ok : Bool} (h : Trio w W size n ok) (n' : Int) (ok' : Bool) : Trio w ((W.setCell ⟨w.heap.size + 1, 0, none⟩ (.int .i64 n')).setCell ⟨w.heap.size + 1 + 1, 0, none⟩ (.bool ok')) size n' ok' :=
  ⟨(h.bel.setCell (p := ⟨w.heap.size + 1, 0, none⟩) (by simp) _).setCell (p := ⟨w.heap.size + 1 + 1, 0, none⟩) (by simp; omega) _, (h.sz.far (by simp) _).far (by simp; omega) _, (h.n.put 0 _).far (by simp) _, (h.ok.far (by simp) _).put 0 _⟩
theorem Trio.kc {w W : World} {size n : Int} {ok : Bool} (h : Trio w W size n ok) {n₁ : Nat} (hn : w.heap.size + 3 ≤ n₁) (u v : Value) : Kc w.heap.size n₁ W ((W.setCell ⟨w.heap.size + 1, 0, none⟩ u).setCell ⟨w.heap.size + 1 + 1, 0, none⟩ v) :=
  (Kc.set h.n (by decide) (by omega) (by omega) 0 u).trans (Kc.set (h.ok.far (by simp) _) (by decide) (by omega) (by omega) 0 v)
/-- The last one that was told. -/
def HighI (w : World) (size : Int) (pre : List GG) (W : World) : Prop := Trio w W size (highOf size pre).1 (highOf size pre).2
theorem high_none (size : Int) : highOf size [] = (0, false) := rfl

set_option maxRecDepth 100000 in
set_option maxHeartbeats 4000000 in
theorem highest_any (A : Option Addr) (l : List Ar) (cap : Nat) (lo hi size : Int) (hsz : size ≤ 9223372036854775807) (hl : l.length ≤ 10000) (w : World) (hA : Areas w.heap.size w A l) :
    Calls Try.prog 14 #[.slice A l.length cap, .int .i64 lo, .int .i64 hi, .int .i64 size] w fun e w' => e = .returned (.tuple #[.int .i64 (highOf size (roomsL lo hi size l)).1, .bool (highOf size (roomsL lo hi size l)).2]) ∧ Below w.heap.size w w' := by
  refine (callsIn_wide (n := 5)).1 ?_
  have hro : Fence.wide.round = none := rfl
  have fE : Fence.wide.fn 29 := trivial
  refine callsIn_of_wp_marks Try.func14 rfl trivial ?_ hro
  simp only [Try.ntmps14, List.size_toArray, List.length_cons, List.length_nil, Nat.reduceAdd, Nat.reduceSub, Array.replicate_succ, Array.replicate_zero, List.push_toArray, List.append_toArray, List.nil_append, List.cons_append]
  gi_wp2_with (gi_at_call 29; refine (rooms_in _ _ _ _ _ _ _).mono ?_; rintro e w1 ⟨rfl, hb1, hs1, hC1⟩)
  simp only [World.size_alloc] at hb1 hs1 hC1
  have bag := (((Bag.new w).add 2 #[.int .i64 size]).add 2 #[.int .i64 0]).add 4 #[.bool false]
  simp only [World.size_alloc] at bag
  have D0 : HighI w size [] w1 := ⟨bag.bel.trans (hb1.mono (by omega)), bag.v2.below hb1 (by omega), bag.v1.below hb1 (by omega), bag.v0.below hb1 (by omega)⟩
  clear hb1 bag
  refine range_own (gf := 42) (lb := #[.pointer (some ⟨w.heap.size + 1 + 1 + 1 + 3, 0, none⟩), .pointer (some ⟨w.heap.size + 1 + 1 + 1, 0, none⟩), .pointer (some ⟨w.heap.size + 1 + 1 + 1 + 1, 0, none⟩), .pointer (some ⟨w.heap.size + 1 + 1 + 1 + 2, 0, none⟩)]) rfl (enters_of Try.func42 (by kernel_rfl) rfl)
    (rooms_stops (w.heap.size + 1 + 1 + 1) w.heap.size cap A l lo hi size hl w1 (by omega) hC1 (hA.below (Trio.bel D0))) (Below.refl _ _) (by omega) (by omega)
    (HighI w size)
    (fun _ _ => False)
    (fun s X Y hs ho => Trio.only hs ho (by omega))
    (fun s X Y hs ho => hs)
    D0
    (fun x a' W => ∃ Bx, Whole W Bx 29 x.1.cells ∧ a' = { tmps := #[.slice A l.length cap, .int .i64 lo, .int .i64 hi, .int .i64 size, undef, undef, undef, .pointer (some ⟨w.heap.size, 0, none⟩), .int .i64 0, .bool false, .pointer (some ⟨w.heap.size + 1, 0, none⟩), .pointer (some ⟨w.heap.size + 1 + 1, 0, none⟩), .pointer (some ⟨Bx, 0, none⟩), .slice A l.length cap, .int .i64 lo, .int .i64 hi, .int .i64 size, .func (.func 42) #[] #[.pointer (some ⟨w.heap.size + 1 + 1 + 1 + 3, 0, none⟩), .pointer (some ⟨w.heap.size + 1 + 1 + 1, 0, none⟩), .pointer (some ⟨w.heap.size + 1 + 1 + 1 + 1, 0, none⟩), .pointer (some ⟨w.heap.size + 1 + 1 + 1 + 2, 0, none⟩)], x.1.v, undef, undef, undef, undef, undef, undef], defers := [] })
    (fun x a' _ X Y row hs hg hr => by obtain ⟨Bx, h2, h3⟩ := hs; exact ⟨Bx, whole_own Bx _ (fun _ : Unit => _) () X Y row h2 hg (fun r e => (hr r e).2), h3⟩)
    ?assign ?body ?done ?stop
  case assign =>
    rintro l2 pre ⟨⟨x0, x1⟩, hx⟩ W K hD hK
    simp only [Gp.v]
    gi_wp2
    exact hK _ _ (below_new W _) (Trio.only hD (only_still (below_new W _)) (Nat.le_refl _)) ⟨W.heap.size, Whole.new W _ _, rfl⟩
  case body =>
    rintro l2 pre ⟨⟨x0, x1⟩, hx⟩ a' W hD ⟨Bx, bX, rfl⟩ hlt
    have hs : 1 ≤ size := by
      by_cases h : 1 ≤ size
      · exact h
      · rw [if_neg h] at hlt; omega
    have c1 := bX.cell 1
    have cS := (Trio.sz hD).cell 0
    have cN := (Trio.n hD).cell 0
    have cO := (Trio.ok hD).cell 0
    have fN := (Trio.n hD).frozen 0
    have fO := (Trio.ok hD).frozen 0
    have hx1 := hx.hi
    have hx2 := hx.lo
    have hx3 := hx.lt
    have HE : Hid (highOf size (pre ++ [⟨⟨x0, x1⟩, hx⟩]) = (x1 - size, true)) := Lib.hid (high_snoc _ _ _)
    have HD := Lib.hid (show Trio w W size (highOf size pre).1 (highOf size pre).2 from hD)
    simp [Gp.cells] at c1 cS cN cO
    simp only [Gp.v]
    simp only at hx1 hx2 hx3
    clear hA bX hD D0 hC1 hlt
    gi_wp2
    refine ⟨HD.out.kc (by omega) _ _, ?_⟩
    unfold HighI
    rw [HE.out]
    exact HD.out.set _ _
  case done =>
    rintro D ys W hD rfl hI hK
    have hI2 : Trio w W size (highOf size (roomsL lo hi size l)).1 (highOf size (roomsL lo hi size l)).2 := hI
    obtain ⟨r0, r1, hr⟩ : ∃ r0 r1, highOf size (roomsL lo hi size l) = (r0, r1) := ⟨_, _, rfl⟩
    rw [hr] at hI2
    have HR := Lib.hid hr
    have cN := hI2.n.cell 0
    have cO := hI2.ok.cell 0
    have HI := Lib.hid hI2
    have HK := Lib.hid hK
    simp at cN cO
    clear hI hI2 hA D0 hC1 hr
    gi_wp2
    gi_region
    gi_wp2
    refine ⟨by simp, .inl ⟨_, _, rfl, run_takeDeferred (show W.drew.heap[D]? = _ from HK.out), ?_⟩⟩
    rw [HR.out]
    exact ⟨_, results_tmp2 rfl _ _ _, rfl, (below_drew HI.out.bel).trans (belowK_b (w := w) (Nat.le_refl _) W.drew D _ _ (by omega) (show W.drew.heap[D]? = _ from HK.out) rfl rfl)⟩
  case stop =>
    rintro D pre W hD _ h hK
    exact h.elim

set_option maxHeartbeats 1000000 in
theorem fits_any (A : Option Addr) (l : List Ar) (cap : Nat) (addr size : Int) (hl : l.length ≤ 10000) (w : World) (hA : Areas w.heap.size w A l) :
    Calls Try.prog 18 #[.slice A l.length cap, .int .i64 addr, .int .i64 size] w fun e w' => e = .returned (.bool ((lowOf (roomsL addr 2097152 size l)).2 && decide ((lowOf (roomsL addr 2097152 size l)).1 = addr))) ∧ Below w.heap.size w w' := by
  have X := Lib.hid (lowest_any A l cap addr 2097152 size hl w hA)
  clear hA
  generalize lowOf (roomsL addr 2097152 size l) = r at *
  obtain ⟨r0, r1⟩ := r
  generalize l.length = n at *
  simp only at X
  go_enter Try.func18, Try.ntmps18
  go_wp2_with fail
  refine X.out.mono ?_
  rintro e w1 ⟨rfl, hb⟩
  have B := Lib.hid hb
  clear hb X
  cases r1 with
  | false =>
    go_wp2_with fail
    go_ret
    exact ⟨says_bool (by simp), B.out⟩
  | true =>
    go_wp2_with fail
    go_ret
    exact ⟨says_bool (by rw [Bool.eq_iff_iff]; simp), B.out⟩
end Go.Proofs.Ytmppodobgkhojaa
