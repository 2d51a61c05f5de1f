/-
  Layer 7: what stays of a list: a contract for the call.
-/
import Derived.Test.YtmppodobgkhojaaListIn
namespace Go.Proofs.Ytmppodobgkhojaa
open Go.ChangeShapes Go.WideShapes Go.ChangeAt Go.RowKit Go.Shelf
set_option linter.unusedVariables false
attribute [local go_sem] Oper.semAt_some

theorem outA_len (lo hi : Int) (a : Ar) : (outA lo hi a).length ≤ 2 := by
  have h : ∀ x y, (partL a x y).length ≤ 1 := fun x y => by unfold partL; split <;> simp
  unfold outA
  split
  · have := h a.s (a.part lo hi).s; have := h (a.part lo hi).e a.e; rw [List.length_append]; omega
  · simp
theorem outside_len (lo hi : Int) (l : List Ar) : (outsideL lo hi l).length ≤ 2 * l.length := by
  induction l with
  | nil => simp [outsideL]
  | cons a l ih =>
    have h1 : outsideL lo hi (a :: l) = outA lo hi a ++ outsideL lo hi l := by simp [outsideL]
    have h2 := outA_len lo hi a
    rw [h1, List.length_append, List.length_cons]; omega
theorem keeps_below {W W' : World} (h : Below W.heap.size W W') : KeepsOthers W W' := ⟨h.size, fun k o hk _ => (h.block k (Array.getElem?_eq_some_iff.1 hk).1).trans hk⟩

/-- A round, when the part is known. -/
structure Start (w W W2 : World) (q Bx qb : Nat) (bs : List (Nat × TypeId × Array Value)) (out : List Ar) (v : Value) (x b : Ar) : Prop where
  g : Going w W2 q bs out
  fv : Whole W2 q 22 #[v]
  fm : Mine w.heap.size W2 v out
  fx : ArIn W2 Bx x
  fb : ArIn W2 qb b
  nx : v.ownBlock ≠ some Bx
  nb : v.ownBlock ≠ some qb
  bel : Below W.heap.size W W2
theorem out_start {w W W1 : World} {q Bx : Nat} {bs : List (Nat × TypeId × Array Value)} {out : List Ar} {v : Value} {x : Ar} (h : Going w W q bs out) (hv : Whole W q 22 #[v]) (hm : Mine w.heap.size W v out) (hr : RoundVar q W Bx x) (hn : v.ownBlock ≠ some Bx) (hb : Below W.heap.size W W1) (b : Ar) :
    Start w W (W1.alloc (.cells b.cells 35)) q Bx W1.heap.size bs out v x b :=
  ⟨(h.still hb).alloc _, (hv.below hb hv.lt).alloc _, World.ownsRow.alloc (hm.still hb) _, Whole.alloc (hr.1.still hb (Whole.lt hr.1)) _, Whole.new _ _ _, hn, fun e => by have h1 := (hm.lt _ e).2; have h2 := hb.size; omega, hb.alloc hb.size _⟩
/-- The first piece is there, and stored. -/
theorem Start.next {w W W2 W3 : World} {q Bx qb : Nat} {bs : List (Nat × TypeId × Array Value)} {out out' : List Ar} {v v' : Value} {x b : Ar} (h : Start w W W2 q Bx qb bs out v x b) (hw : w.heap.size ≤ W.heap.size) (ho : Only (fun k => v.ownBlock = some k) W2 W3) (hm : Mine w.heap.size W3 v' out') :
    Whole W3 q 22 #[v] ∧ Going w (W3.setCell ⟨q, 0, none⟩ v') q bs out' ∧ KeepsOthers W (W3.setCell ⟨q, 0, none⟩ v') ∧ Below w.heap.size W (W3.setCell ⟨q, 0, none⟩ v') ∧ Whole (W3.setCell ⟨q, 0, none⟩ v') q 22 #[v'] ∧ Mine w.heap.size (W3.setCell ⟨q, 0, none⟩ v') v' out' ∧ ArIn (W3.setCell ⟨q, 0, none⟩ v') Bx x ∧ ArIn (W3.setCell ⟨q, 0, none⟩ v') qb b := by
  obtain ⟨g1, g2, g3⟩ := h.g.put h.fv ho hm
  obtain ⟨a1, a2, a3, a4⟩ := h.g.apart h.fv ho
  have hx : ArIn W3 Bx x := Whole.only h.fx ho h.nx
  have hb : ArIn W3 qb b := Whole.only h.fb ho h.nb
  exact ⟨a1, g1, (keeps_below h.bel).trans g2, (h.bel.mono hw).trans g3, a1.put 0 v', own_far hm (own_apart hm a1 (by decide)) _, Whole.far hx (Whole.apart hx a1 (by decide)) _, Whole.far hb (Whole.apart hb a1 (by decide)) _⟩

set_option maxRecDepth 100000 in
set_option maxHeartbeats 4000000 in
theorem outside_any (A : Option Addr) (l : List Ar) (cap : Nat) (lo hi : Int) (hl : l.length ≤ 10000) (w : World) (hA : Areas w.heap.size w A l) :
    Calls Try.prog 32 #[.slice A l.length cap, .int .i64 lo, .int .i64 hi] w fun e w' => ∃ v, e = .returned v ∧ Mine w.heap.size w' v (outsideL lo hi l) ∧ Below w.heap.size w w' := by
  refine (callsIn_wide (n := 5)).1 ?_
  have hro : Fence.wide.round = none := rfl
  have f42 : Fence.wide.fn 39 := trivial
  have f49 : Fence.wide.fn 51 := trivial
  obtain ⟨i0, hi0, hz0, hz1, hz2⟩ := info_parts area_info
  have HI0 : Hid (Try.prog.info? 35 = some i0) := Lib.hid hi0
  have H0 : Hid (i0.zero = some Ar.nil.v) := Lib.hid hz0
  have H1 : Hid (i0.size = 6) := Lib.hid hz1
  have H2 : Hid (i0.bytes = 48) := Lib.hid hz2
  clear hi0 hz0 hz1 hz2
  refine callsIn_of_wp_marks Try.func32 rfl trivial ?_ hro
  simp only [Try.ntmps32, List.size_toArray, List.length_cons, List.length_nil, Nat.reduceAdd, Nat.reduceSub, Array.replicate_succ, Array.replicate_zero, List.push_toArray, List.append_toArray, List.nil_append, List.cons_append]
  gi_wp2_with (gi_at_call 39; refine (values_in Fence.wide 4 f42 hro _ _ _ _).mono ?_; rintro e w' ⟨rfl, rfl⟩)
  have bag := ((((Bag.new w).add 2 #[.int .i64 lo]).add 2 #[.int .i64 hi]).add 22 #[.slice none 0 0]).add 22 #[.slice A l.length cap]
  simp only [World.size_alloc] at bag
  have hsz : ((((w.alloc (.cells #[.int .i64 lo] 2)).alloc (.cells #[.int .i64 hi] 2)).alloc (.cells #[.slice none 0 0] 22)).alloc (.cells #[.slice A l.length cap] 22)).heap.size = w.heap.size + 4 := by simp
  generalize (((w.alloc (.cells #[.int .i64 lo] 2)).alloc (.cells #[.int .i64 hi] 2)).alloc (.cells #[.slice none 0 0] 22)).alloc (.cells #[.slice A l.length cap] 22) = W0 at *
  have bN := bag.v0
  have hG : Going w W0 (w.heap.size + 1 + 1) [(w.heap.size + 1, 2, #[.int .i64 hi]), (w.heap.size, 2, #[.int .i64 lo])] [] :=
    ⟨bag.tail.tail, ⟨_, bag.v1, Mine.nil _ _⟩, by omega, fun x hx => by
      rcases List.mem_cons.1 hx with rfl | hx
      · exact ⟨(by simp), (by simp)⟩
      · obtain rfl := List.mem_singleton.1 hx
        exact ⟨(by simp), (by simp; omega)⟩⟩
  have hB0 := bag.bel
  clear bag
  refine wpIn_rangeFunc_ownH hro (by omega) (gf := 51) (lb := #[.pointer (some ⟨w.heap.size + 1 + 1 + 1, 0, none⟩)]) rfl f49 (enters_of Try.func51 (by kernel_rfl) rfl)
    (values_stops (fun a : Ar => a) Fence.wide 4 f49 hro (by omega) (w.heap.size + 1 + 1 + 1) w.heap.size cap A l (by omega) W0 (by omega) (by omega) (bN.cell 0) (by rw [List.map_id']; exact hA.below hB0)) belowK_t (belowK_b (by omega)) (Below.refl _ _) (fun _ => rfl)
    (fun pre W => Going w W (w.heap.size + 1 + 1) [(w.heap.size + 1, 2, #[.int .i64 hi]), (w.heap.size, 2, #[.int .i64 lo])] (outsideL lo hi pre))
    (fun _ _ _ => False)
    (going_own _ (by omega))
    (fun _ _ _ _ _ hs _ _ => hs)
    hG
    (fun x a' W => ∃ Bx, RoundVar (w.heap.size + 1 + 1) W Bx x ∧ a' = { tmps := #[.slice A l.length cap, .int .i64 lo, .int .i64 hi, undef, .pointer (some ⟨w.heap.size, 0, none⟩), .pointer (some ⟨w.heap.size + 1, 0, none⟩), .slice none 0 0, .pointer (some ⟨w.heap.size + 1 + 1, 0, none⟩), .pointer (some ⟨Bx, 0, none⟩), undef, undef, .slice A l.length cap, .func (.func 51) #[] #[.pointer (some ⟨w.heap.size + 1 + 1 + 1, 0, none⟩)], x.v, undef, undef, undef, undef, undef, undef, undef, undef, undef, undef, undef, undef, undef, undef, undef, undef, undef, undef, undef, undef, undef, undef, undef, undef, undef, undef, undef, undef], defers := [] })
    (fun x a' _ X Y row hs hg hr => by obtain ⟨Bx, h2, h3⟩ := hs; exact ⟨Bx, round_own h2 hg (fun r e => (hr r e).2), h3⟩)
    ?assign ?body ?done ?stop
  case assign =>
    rintro l2 pre ⟨x0, x1, x2, x3, x4, x5⟩ W K hI hK
    simp only [Ar.v]
    gi_wp2
    exact hK _ _ ((KeepsOthers.alloc _ _).from _) ((Below.refl _ W).alloc hI.bag.bel.size _) (hI.alloc _) ⟨W.heap.size, hI.var ⟨x0, x1, x2, x3, x4, x5⟩, rfl⟩
  case body =>
    rintro l2 pre x a' W hlw hrec hI ⟨Bx, hRV, rfl⟩ hlt
    obtain ⟨v, hv, hm⟩ := hI.out
    have hlen : (outsideL lo hi pre).length ≤ 20000 := by
      have := outside_len lo hi pre
      omega
    have X := Lib.hid (part_any x lo hi)
    have e1 : outsideL lo hi (pre ++ [x]) = outsideL lo hi pre ++ outA lo hi x := by simp [outsideL]
    have HI := Lib.hid hI
    have HV := Lib.hid hv
    have HRV := Lib.hid hRV
    have HM := Lib.hid hm
    have HN : Hid (v.ownBlock ≠ some Bx) := by obtain ⟨v2, h1, h2⟩ := hRV.2; obtain rfl := whole_eq hv h1; exact h2
    obtain ⟨A1, k1, rfl⟩ := hm.is
    have cV := hv.cell 0
    have cH := hI.bag.v0.cell 0
    have cL := hI.bag.v1.cell 0
    obtain ⟨c0, c1, c2, c3, c4, c5⟩ := hRV.1.cs
    simp at cV cH cL
    clear hA hI hv hm hRV
    generalize hb : x.part lo hi = b at *
    by_cases hp : PartA x lo hi
    · rw [if_pos hp] at X
      rw [outA, if_pos hp, hb, ← List.append_assoc] at e1
      have E1 := Lib.hid e1
      clear hp e1 hb
      obtain ⟨x0, x1, x2, x3, x4, x5⟩ := x
      obtain ⟨b0, b1, b2, b3, b4, b5⟩ := b
      simp only [Ar.v] at c0 c1 c2 c3 c4 c5 X ⊢
      have Y := Lib.hid (fun u L lo' hi' W' h1 h2 h3 => add_any w.heap.size u L ⟨x0, x1, x2, x3, x4, x5⟩ lo' hi' W' h1 h2 h3)
      gi_wp2_with (refine ⟨trivial, ?_⟩; gi_at_call 48; refine (CallsIn.inRound l2 (callsIn_wide.2 (X.out _))).mono ?_; rintro e W1 ⟨rfl, hb1⟩; clear X; have S1 := Lib.hid (out_start HI.out HV.out HM.out HRV.out HN.out hb1 ⟨b0, b1, b2, b3, b4, b5⟩); clear hb1 c0 c1 c2 c3 c4 c5 cV cH cL; have cV := S1.out.fv.cell 0; obtain ⟨c0, c1, c2, c3, c4, c5⟩ := S1.out.fx.cs; obtain ⟨d0, d1, d2, d3, d4, d5⟩ := S1.out.fb.cs; simp only [Ar.cells] at c0 c1 c2 c3 c4 c5 d0 d1 d2 d3 d4 d5 cV; simp at cV)
      have Y1 := Lib.hid (Y.out _ _ x0 b0 _ S1.out.g.bag.bel.size (by omega) S1.out.fm)
      have HW := Lib.hid HI.out.bag.bel.size
      have hl1 : (outsideL lo hi pre ++ partL ⟨x0, x1, x2, x3, x4, x5⟩ x0 b0).length ≤ 100000 := by
        have : (partL ⟨x0, x1, x2, x3, x4, x5⟩ x0 b0).length ≤ 1 := by unfold partL; split <;> simp
        rw [List.length_append]; omega
      generalize outsideL lo hi pre ++ partL ⟨x0, x1, x2, x3, x4, x5⟩ x0 b0 = o1 at Y1 E1 hl1
      simp only [Ar.v] at Y1
      generalize W1.heap.size = qb at *
      simp only [Ar.cells] at S1 Y1
      generalize W1.alloc _ = W2 at *
      gi_wp2_with (refine ⟨trivial, ?_⟩; gi_at_call 49; refine (CallsIn.inRound l2 (callsIn_wide.2 Y1.out)).mono ?_; clear Y1; rintro e W3 ⟨v', rfl, hm', ho⟩; obtain ⟨A2, k2, rfl⟩ := hm'.is; have N := Lib.hid (S1.out.next HW.out ho hm'); clear ho hm'; clear c0 c1 c2 c3 c4 c5 d0 d1 d2 d3 d4 d5 cV; have cV := N.out.1.cell 0; have fV := N.out.1.frozen 0; simp at cV; obtain ⟨c0, c1, c2, c3, c4, c5⟩ := N.out.2.2.2.2.2.2.1.cs; obtain ⟨d0, d1, d2, d3, d4, d5⟩ := N.out.2.2.2.2.2.2.2.cs; simp only at c0 c1 c2 c3 c4 c5 d0 d1 d2 d3 d4 d5; have cV2 := N.out.2.2.2.2.1.cell 0; simp at cV2)
      have NG := Lib.hid N.out.2.1
      have NK := Lib.hid N.out.2.2.1
      have NB := Lib.hid N.out.2.2.2.1
      have NV := Lib.hid N.out.2.2.2.2.1
      have Y2 := Lib.hid (Y.out _ o1 b1 x1 _ NG.out.bag.bel.size hl1 N.out.2.2.2.2.2.1)
      simp only [Ar.v] at Y2
      clear N S1 Y cV fV
      generalize W3.setCell _ _ = W4 at *
      refine ⟨trivial, ?_⟩
      refine (CallsIn.inRound l2 (callsIn_wide.2 Y2.out)).mono ?_
      rintro e W5 ⟨v'', rfl, hm', ho⟩
      obtain ⟨A3, k3, rfl⟩ := hm'.is
      have HM2 := Lib.hid hm'
      have HO := Lib.hid ho
      have hW5 := (NG.out.apart NV.out ho).1
      have cW := hW5.cell 0
      have fW := hW5.frozen 0
      simp at cW
      clear hm' ho hW5 c0 c1 c2 c3 c4 c5 d0 d1 d2 d3 d4 d5 cV2 Y2
      generalize ho2 : o1 ++ partL ⟨x0, x1, x2, x3, x4, x5⟩ b1 x1 = o2 at *
      clear ho2
      gi_wp2
      obtain ⟨g1, g2, g3⟩ := NG.out.put NV.out HO.out HM2.out
      exact ⟨(NK.out.trans g2).from _, NB.out.trans g3, (show Going _ _ _ _ _ from (by rw [E1.out]; exact g1))⟩
    · rw [if_neg hp] at X
      rw [outA, if_neg hp] at e1
      have E1 := Lib.hid e1
      clear hp e1 hb
      obtain ⟨x0, x1, x2, x3, x4, x5⟩ := x
      simp only [Ar.v, Ar.nil] at c0 c1 c2 c3 c4 c5 X ⊢
      have HW := Lib.hid HI.out.bag.bel.size
      gi_wp2_with (first | (gi_at_builtin; go_loud (refine wpListIn_append_own _ rfl (.tmp 23) (.tmp 25) _ rfl w.heap.size 35 i0 _ 6 48 Try.underlying22 HI0.out H0.out H1.out H2.out rfl (by omega) _ (outsideL lo hi pre).length _ rfl (World.ownsRow.alloc S1.out.fm _) ⟨W1.heap.size + 1, 0, none⟩ 1 1 (Ar.cl ⟨x0, x1, x2, x3, x4, x5⟩) rfl rfl (by have := new6 (W1.alloc (.cells Ar.nil.cells 35)) ⟨x0, x1, x2, x3, x4, x5⟩ 35; rwa [World.size_alloc] at this) (cl_one _) (by simp only [maxLen]; omega) (by omega) (by have := S1.out.g.bag.bel.size; simp only [World.size_alloc] at *; omega) ?_; intro v' W3 hown' hg' _hnil; obtain ⟨A2, k2, rfl⟩ := own_slice hown'; have N := Lib.hid (S1.out.next HW.out (only_grown ((Only.refl _ _).alloc _) hg' (fun k hk => hk)) (mine_more (l := outsideL lo hi pre) (l' := [⟨x0, x1, x2, x3, x4, x5⟩]) rfl (by rw [cls_single]; exact hown'))); clear hown' hg' _hnil c0 c1 c2 c3 c4 c5 cV; have cV := N.out.1.cell 0; have fV := N.out.1.frozen 0; simp at cV)) | (refine ⟨trivial, ?_⟩; gi_at_call 48; refine (CallsIn.inRound l2 (callsIn_wide.2 (X.out _))).mono ?_; rintro e W1 ⟨rfl, hb1⟩; clear X; have S1 := Lib.hid (out_start HI.out HV.out HM.out HRV.out HN.out hb1 Ar.nil); clear hb1 c0 c1 c2 c3 c4 c5 cV cH cL; have cV := S1.out.fv.cell 0; obtain ⟨c0, c1, c2, c3, c4, c5⟩ := S1.out.fx.cs; simp only [Ar.cells, Ar.nil] at c0 c1 c2 c3 c4 c5 cV; simp at cV))
      exact ⟨N.out.2.2.1.from _, N.out.2.2.2.1, (show Going _ _ _ _ _ from (by rw [E1.out]; exact N.out.2.1))⟩
  case done =>
    rintro D ys W hD rfl hI hK
    obtain ⟨v, hv, hm⟩ := hI.out
    obtain ⟨A1, c1, rfl⟩ := hm.is
    have cV := hv.cell 0
    simp at cV
    gi_wp2
    refine ⟨by simp, .inl ⟨_, _, rfl, run_takeDeferred hK, ?_⟩⟩
    refine ⟨_, results_tmp rfl _ _ _, ?_⟩
    exact ⟨_, rfl, ownsRow_putObj hm _ hK rfl, hI.bag.bel.trans (belowK_b (w := w) (Nat.le_refl _) W D _ _ (by omega) hK rfl rfl)⟩
  case stop =>
    rintro D c pre W _ _ h _
    exact h.elim
end Go.Proofs.Ytmppodobgkhojaa
