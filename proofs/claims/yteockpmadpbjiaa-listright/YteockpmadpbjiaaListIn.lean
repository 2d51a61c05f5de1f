/-
  Layer 7: what lies in a range, and what stays: a contract for each call.
-/
import Derived.Test.YteockpmadpbjiaaListGo
namespace Go.Proofs.Yteockpmadpbjiaa
open Go.ChangeShapes Go.WideShapes Go.ChangeAt Go.RowKit Go.Shelf
set_option linter.unusedVariables false
attribute [local go_sem] Oper.semAt_some

/-- A loop that gathers: its variables, and the list that it has so far, in the variable q. -/
structure Going (w W : World) (q : Nat) (bs : List (Nat × TypeId × Array Value)) (out : List Ar) : Prop where
  bag : Bag w W bs
  out : ∃ v, Whole W q 22 #[v] ∧ Mine w.heap.size W v out
  new : w.heap.size ≤ q
  kinds : ∀ x ∈ bs, x.2.1 ≠ 24 ∧ x.1 ≠ q

theorem whole_grown {W W' : World} {row : Option Nat} {b : Nat} {t : TypeId} {cs : Array Value} (h : Whole W b t cs) (hg : W.grownBy W' row) (hr : ∀ r, row = some r → ∃ o : Obj, W.heap[r]? = some o ∧ o.isCells = false) : Whole W' b t cs :=
  h.grown hg (fun e' => by obtain ⟨o, ho, hc⟩ := hr b e'.symm; rw [show W.heap[b]? = _ from h] at ho; cases ho; cases hc)
theorem mine_grown {B : Nat} {W W' : World} {row : Option Nat} {v : Value} {l : List Ar} (h : Mine B W v l) (hg : W.grownBy W' row) (hr : ∀ r, row = some r → ∃ o : Obj, W.heap[r]? = some o ∧ o.isCells = false) : Mine B W' v l := by
  refine World.ownsRow.kept h hg ?_
  rcases h.2 with ⟨rfl, _⟩ | ⟨g, cap, cur, rfl, _, hgb, _⟩
  · exact .inl rfl
  · refine .inr fun e' => ?_
    obtain ⟨o, ho, hc⟩ := hr g (by simpa [Value.ownBlock] using e'.symm)
    rw [hgb] at ho; cases ho; cases hc
theorem going_own {β : Type} {B : Nat} {w : World} {q : Nat} {bs : List (Nat × TypeId × Array Value)} (f : β → List Ar) (hB : w.heap.size ≤ B) : OwnFrom B (fun s W => Going w W q bs (f s)) := by
  rintro s X Y row ⟨⟨hb, hbel⟩, ⟨v, hv, hm⟩, hq, hk⟩ hg hr
  have hr' : ∀ r, row = some r → ∃ o : Obj, X.heap[r]? = some o ∧ o.isCells = false := fun r e => (hr r e).2
  exact ⟨⟨fun x hx => whole_grown (hb x hx) hg hr', hbel.grown hg hbel.size (fun k e => Nat.le_trans hB (hr k e).1)⟩, ⟨v, whole_grown hv hg hr', mine_grown hm hg hr'⟩, hq, hk⟩
/-- The variable of a round: it isn't the list's own memory. -/
def RoundVar (q : Nat) (W : World) (Bx : Nat) (x : Ar) : Prop := ArIn W Bx x ∧ ∃ v, Whole W q 22 #[v] ∧ v.ownBlock ≠ some Bx
theorem round_own {q : Nat} {X Y : World} {row : Option Nat} {Bx : Nat} {x : Ar} (h : RoundVar q X Bx x) (hg : X.grownBy Y row) (hr : ∀ r, row = some r → ∃ o : Obj, X.heap[r]? = some o ∧ o.isCells = false) : RoundVar q Y Bx x :=
  ⟨whole_grown h.1 hg hr, by obtain ⟨v, h1, h2⟩ := h.2; exact ⟨v, whole_grown h1 hg hr, h2⟩⟩
theorem whole_eq {W : World} {q : Nat} {t : TypeId} {v v' : Value} (h : Whole W q t #[v]) (h' : Whole W q t #[v']) : v = v' := by
  unfold Whole at h h'; rw [h] at h'; injection h' with h'; injection h' with h1; simpa using h1
section
variable {w W W1 : World} {q : Nat} {bs : List (Nat × TypeId × Array Value)} {out out' : List Ar} {v v' : Value}
theorem Going.alloc (h : Going w W q bs out) (o : Obj) : Going w (W.alloc o) q bs out := by
  obtain ⟨⟨hb, hbel⟩, ⟨v, hv, hm⟩, hq, hk⟩ := h
  exact ⟨⟨fun x hx => (hb x hx).alloc o, hbel.alloc hbel.size _⟩, ⟨v, hv.alloc o, World.ownsRow.alloc hm o⟩, hq, hk⟩
theorem Going.still (h : Going w W q bs out) (hb : Below W.heap.size W W1) : Going w W1 q bs out := by
  obtain ⟨hbag, ⟨v, hv, hm⟩, hq, hk⟩ := h
  exact ⟨hbag.still hb, ⟨v, hv.below hb hv.lt, hm.still hb⟩, hq, hk⟩
theorem Going.var (h : Going w W q bs out) (x : Ar) : RoundVar q (W.alloc (.cells x.cells 24)) W.heap.size x := by
  obtain ⟨_, ⟨v, hv, hm⟩, _, _⟩ := h
  refine ⟨Whole.new _ _ _, v, hv.alloc _, fun e => ?_⟩
  have := (hm.lt _ e).2
  omega
/-- What is left alone when the list turned. -/
theorem Going.apart (h : Going w W q bs out) (hv : Whole W q 22 #[v]) (ho : Only (fun k => v.ownBlock = some k) W W1) : Whole W1 q 22 #[v] ∧ (∀ x ∈ bs, Whole W1 x.1 x.2.1 x.2.2) ∧ Below w.heap.size W W1 ∧ KeepsOthers W W1 := by
  obtain ⟨⟨hb, hbel⟩, ⟨v2, hv2, hm⟩, hq, hk⟩ := h
  obtain rfl := whole_eq hv hv2
  refine ⟨hv.only ho (own_apart hm hv (by decide)), fun x hx => (hb x hx).only ho (own_apart hm (hb x hx) (Ne.symm (hk x hx).1)), ho.below (fun k hk => (hm.lt k hk).1) hbel.size, ⟨ho.size, fun k o hk hc => ?_⟩⟩
  refine (ho.block k (Array.getElem?_eq_some_iff.1 hk).1 (fun e => ?_)).trans hk
  rcases hm.2 with ⟨rfl, _⟩ | ⟨g, cap, cur, rfl, _, hgb, _⟩
  · simp [Value.ownBlock] at e
  · obtain rfl : g = k := by simpa [Value.ownBlock] using e
    rw [hgb] at hk; cases hk; cases hc
/-- The list is stored back. -/
theorem Going.put (h : Going w W q bs out) (hv : Whole W q 22 #[v]) (ho : Only (fun k => v.ownBlock = some k) W W1) (hm : Mine w.heap.size W1 v' out') :
    Going w (W1.setCell ⟨q, 0, none⟩ v') q bs out' ∧ KeepsOthers W (W1.setCell ⟨q, 0, none⟩ v') ∧ Below w.heap.size W (W1.setCell ⟨q, 0, none⟩ v') := by
  obtain ⟨h1, h2, h3, h4⟩ := h.apart hv ho
  refine ⟨⟨⟨fun x hx => (h2 x hx).far (h.kinds x hx).2 _, (h.bag.bel.trans h3).setCell (p := ⟨q, 0, none⟩) h.new _⟩, ⟨v', h1.put 0 v', own_far hm (own_apart hm h1 (by decide)) _⟩, h.new, h.kinds⟩, h4.trans (KeepsOthers.setCell _ _ _), h3.setCell (p := ⟨q, 0, none⟩) h.new _⟩
end

theorem inside_len (lo hi : Int) (l : List Ar) : (insideL lo hi l).length ≤ l.length := by
  induction l with
  | nil => simp [insideL]
  | cons a l ih =>
    have h1 : insideL lo hi (a :: l) = partL a lo hi ++ insideL lo hi l := by simp [insideL]
    have h2 : (partL a lo hi).length ≤ 1 := by unfold partL; split <;> simp
    rw [h1, List.length_append, List.length_cons]; omega

set_option maxRecDepth 100000 in
set_option maxHeartbeats 4000000 in
theorem inside_any (A : Option Addr) (l : List Ar) (cap : Nat) (lo hi : Int) (hl : l.length ≤ 10000) (w : World) (hA : Areas w.heap.size w A l) :
    Calls Try.prog 28 #[.slice A l.length cap, .int .i64 lo, .int .i64 hi] w fun e w' => ∃ v, e = .returned v ∧ Mine w.heap.size w' v (insideL lo hi l) ∧ Below w.heap.size w w' := by
  refine (callsIn_wide (n := 5)).1 ?_
  have hro : Fence.wide.round = none := rfl
  have f42 : Fence.wide.fn 42 := trivial
  have f49 : Fence.wide.fn 49 := trivial
  refine callsIn_of_wp_marks Try.func28 rfl trivial ?_ hro
  simp only [Try.ntmps28, List.size_toArray, List.length_cons, List.length_nil, Nat.reduceAdd, Nat.reduceSub, Array.replicate_succ, Array.replicate_zero, List.push_toArray, List.append_toArray, List.nil_append, List.cons_append]
  gi_wp2_with (gi_at_call 42; refine (values_in Fence.wide 4 f42 hro _ _ _ _).mono ?_; rintro e w' ⟨rfl, rfl⟩)
  have bag := ((((Bag.new w).add 2 #[.int .i64 lo]).add 2 #[.int .i64 hi]).add 22 #[.slice none 0 0]).add 22 #[.slice A l.length cap]
  simp only [World.size_alloc] at bag
  have hsz : ((((w.alloc (.cells #[.int .i64 lo] 2)).alloc (.cells #[.int .i64 hi] 2)).alloc (.cells #[.slice none 0 0] 22)).alloc (.cells #[.slice A l.length cap] 22)).heap.size = w.heap.size + 4 := by simp
  generalize (((w.alloc (.cells #[.int .i64 lo] 2)).alloc (.cells #[.int .i64 hi] 2)).alloc (.cells #[.slice none 0 0] 22)).alloc (.cells #[.slice A l.length cap] 22) = W0 at *
  have bN := bag.v0
  have hG : Going w W0 (w.heap.size + 1 + 1) [(w.heap.size + 1, 2, #[.int .i64 hi]), (w.heap.size, 2, #[.int .i64 lo])] [] :=
    ⟨bag.tail.tail, ⟨_, bag.v1, Mine.nil _ _⟩, by omega, fun x hx => by
      rcases List.mem_cons.1 hx with rfl | hx
      · exact ⟨(by simp), (by simp)⟩
      · obtain rfl := List.mem_singleton.1 hx
        exact ⟨(by simp), (by simp; omega)⟩⟩
  have hB0 := bag.bel
  clear bag
  refine wpIn_rangeFunc_ownH hro (by omega) (gf := 49) (lb := #[.pointer (some ⟨w.heap.size + 1 + 1 + 1, 0, none⟩)]) rfl f49 (enters_of Try.func49 (by kernel_rfl) rfl)
    (values_stops (fun a : Ar => a) Fence.wide 4 f49 hro (by omega) (w.heap.size + 1 + 1 + 1) w.heap.size cap A l (by omega) W0 (by omega) (by omega) (bN.cell 0) (by rw [List.map_id']; exact hA.below hB0)) belowK_t (belowK_b (by omega)) (Below.refl _ _) (fun _ => rfl)
    (fun pre W => Going w W (w.heap.size + 1 + 1) [(w.heap.size + 1, 2, #[.int .i64 hi]), (w.heap.size, 2, #[.int .i64 lo])] (insideL lo hi pre))
    (fun _ _ _ => False)
    (going_own _ (by omega))
    (fun _ _ _ _ _ hs _ _ => hs)
    hG
    (fun x a' W => ∃ Bx, RoundVar (w.heap.size + 1 + 1) W Bx x ∧ a' = { tmps := #[.slice A l.length cap, .int .i64 lo, .int .i64 hi, undef, .pointer (some ⟨w.heap.size, 0, none⟩), .pointer (some ⟨w.heap.size + 1, 0, none⟩), .slice none 0 0, .pointer (some ⟨w.heap.size + 1 + 1, 0, none⟩), .pointer (some ⟨Bx, 0, none⟩), .slice A l.length cap, .func (.func 49) #[] #[.pointer (some ⟨w.heap.size + 1 + 1 + 1, 0, none⟩)], x.v, undef, undef, undef, undef, undef, undef], defers := [] })
    (fun x a' _ X Y row hs hg hr => by obtain ⟨Bx, h2, h3⟩ := hs; exact ⟨Bx, round_own h2 hg (fun r e => (hr r e).2), h3⟩)
    ?assign ?body ?done ?stop
  case assign =>
    rintro l2 pre ⟨x0, x1, x2, x3, x4, x5⟩ W K hI hK
    simp only [Ar.v]
    gi_wp2
    exact hK _ _ ((KeepsOthers.alloc _ _).from _) ((Below.refl _ W).alloc hI.bag.bel.size _) (hI.alloc _) ⟨W.heap.size, hI.var ⟨x0, x1, x2, x3, x4, x5⟩, rfl⟩
  case body =>
    rintro l2 pre x a' W hlw hrec hI ⟨Bx, hRV, rfl⟩ hlt
    obtain ⟨v, hv, hm⟩ := hI.out
    have hlen : (insideL lo hi pre).length ≤ 100000 := by
      have : (insideL lo hi pre).length ≤ pre.length := inside_len lo hi pre
      omega
    have Y := Lib.hid (add_any w.heap.size v (insideL lo hi pre) x lo hi W hI.bag.bel.size hlen hm)
    have HI := Lib.hid hI
    have HV := Lib.hid hv
    have e1 : insideL lo hi (pre ++ [x]) = insideL lo hi pre ++ partL x lo hi := by simp [insideL]
    generalize insideL lo hi pre ++ partL x lo hi = out' at Y e1
    have E1 := Lib.hid e1
    obtain ⟨A1, c1, rfl⟩ := hm.is
    have cV := hv.cell 0
    have cH := hI.bag.v0.cell 0
    have cL := hI.bag.v1.cell 0
    obtain ⟨c0, c1, c2, c3, c4, c5⟩ := hRV.1.cs
    obtain ⟨x0, x1, x2, x3, x4, x5⟩ := x
    simp only [Ar.v] at c0 c1 c2 c3 c4 c5 Y ⊢
    simp at cV cH cL
    clear hA hI hv hm hRV e1 hlen
    generalize (insideL lo hi pre).length = m at *
    gi_wp2_with (refine ⟨trivial, ?_⟩; gi_at_call 44; refine (CallsIn.inRound l2 (callsIn_wide.2 Y.out)).mono ?_; rintro e W1 ⟨v', rfl, hm', ho⟩; obtain ⟨A2, k2, rfl⟩ := hm'.is; have HM := Lib.hid hm'; have HO := Lib.hid ho; have hW1 := (HI.out.apart HV.out ho).1; have cW := hW1.cell 0; have fW := hW1.frozen 0; clear hm' ho hW1)
    obtain ⟨g1, g2, g3⟩ := HI.out.put HV.out HO.out HM.out
    exact ⟨g2.from _, g3, (show Going _ _ _ _ _ from (by rw [E1.out]; exact g1))⟩
  case done =>
    rintro D ys W hD rfl hI hK
    obtain ⟨v, hv, hm⟩ := hI.out
    obtain ⟨A1, c1, rfl⟩ := hm.is
    have cV := hv.cell 0
    simp at cV
    gi_wp2
    refine ⟨by simp, .inl ⟨_, _, rfl, run_takeDeferred hK, ?_⟩⟩
    refine ⟨_, results_tmp rfl _ _ _, ?_⟩
    exact ⟨_, rfl, ownsRow_putObj hm _ hK rfl, hI.bag.bel.trans (belowK_b (w := w) (Nat.le_refl _) W D _ _ (by omega) hK rfl rfl)⟩
  case stop =>
    rintro D c pre W _ _ h _
    exact h.elim
end Go.Proofs.Yteockpmadpbjiaa
