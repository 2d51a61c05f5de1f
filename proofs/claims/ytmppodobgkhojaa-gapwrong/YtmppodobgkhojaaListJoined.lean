/-
  Layer 7: areas that are joined in one pass: a contract for the call.
-/
import Derived.Test.YtmppodobgkhojaaListSort
namespace Go.Proofs.Ytmppodobgkhojaa
open Go.ChangeShapes Go.WideShapes Go.ChangeAt Go.RowKit Go.Shelf
set_option linter.unusedVariables false
attribute [local go_sem] Oper.semAt_some

theorem joinF_len (out : List Ar) (a : Ar) : (joinF out a).length ≤ out.length + 1 := by
  unfold joinF
  cases h : out.getLast? with
  | none => simp
  | some z =>
    have := last_split h
    simp only
    split
    · rw [List.length_append, List.length_dropLast]; simp
    · simp
theorem joinL_snoc (l : List Ar) (a : Ar) : joinL (l ++ [a]) = joinF (joinL l) a := by simp [joinL]
theorem joinL_len (l : List Ar) : (joinL l).length ≤ l.length := by
  have key : ∀ (r out : List Ar), (r.foldl joinF out).length ≤ out.length + r.length := by
    intro r
    induction r with
    | nil => intro out; simp
    | cons a r ih => intro out; have := ih (joinF out a); have := joinF_len out a; simp only [List.foldl_cons, List.length_cons]; omega
  simpa [joinL] using key l []
theorem below_of_drew {B : Nat} {W W' : World} (h : Below B W.drew W') : Below B W W' := ⟨h.os, h.tape, h.output, h.size, h.block⟩

/-- The last one ends elsewhere. -/
theorem Mine.end {B : Nat} {w : World} {g n c : Nat} {u : List Ar} {z : Ar} (h : Mine B w (.slice (some ⟨g, 0, none⟩) n c) (u ++ [z])) (x : Int) :
    Mine B (w.setCell ⟨g, u.length * 6 + 1, none⟩ (.int .i64 x)) (.slice (some ⟨g, 0, none⟩) n c) (u ++ [{ z with e := x }]) := by
  obtain ⟨hl, h2⟩ := h
  have hlen : (cls (u ++ [{ z with e := x }])).length = (cls (u ++ [z])).length := by rw [cls_len, cls_len]; simp
  refine ⟨by rw [hlen, hl]; simp, ?_⟩
  rcases h2 with ⟨h0, _⟩ | ⟨g', cap, cur, hv, hb, hh, h3, h4, h5, h6⟩
  · cases h0
  · have hv' := hv
    injection hv with h1
    injection h1 with h1
    injection h1 with h1
    subst h1
    refine .inr ⟨g, cap, cur.setIfInBounds (u.length * 6 + 1) (.int .i64 x), ?_, hb, Whole.put (t := 35) hh _ _, by simpa using h3, h4, by simpa using h5, ?_⟩
    · simpa using hv'
    · have e1 : (cls (u ++ [z])).set (u.length * 6 + 1) (.int .i64 x) = cls (u ++ [{ z with e := x }]) := by
        rw [cls_app, cls_app, List.set_append_right _ _ (by rw [cls_len]; omega), cls_len, show u.length * 6 + 1 - u.length * 6 = 1 by omega, cls_single, cls_single]
        rfl
      rw [← e1, ← h6]
      simp only [Array.toList_setIfInBounds, List.length_append, List.length_singleton]
      rw [List.take_set]

/-- A round, once the areas have been compared. -/
structure Turn (w W W2 : World) (q Bx : Nat) (bs : List (Nat × TypeId × Array Value)) (out : List Ar) (v : Value) (x : Ar) : Prop where
  g : Going w W2 q bs out
  fv : Whole W2 q 22 #[v]
  fm : Mine w.heap.size W2 v out
  fx : ArIn W2 Bx x
  bel : Below W.heap.size W W2
section
variable {w W W2 W3 : World} {q Bx : Nat} {bs : List (Nat × TypeId × Array Value)} {out out' : List Ar} {v v' : Value} {x : Ar}
theorem Turn.below (h : Going w W q bs out) (hv : Whole W q 22 #[v]) (hm : Mine w.heap.size W v out) (hx : ArIn W Bx x) (hb : Below W.heap.size W W2) : Turn w W W2 q Bx bs out v x :=
  ⟨h.still hb, hv.below hb hv.lt, hm.still hb, hx.still hb (Whole.lt hx), hb⟩
theorem Turn.put (h : Turn w W W2 q Bx bs out v x) (hw : w.heap.size ≤ W.heap.size) (ho : Only (fun k => v.ownBlock = some k) W2 W3) (hm : Mine w.heap.size W3 v' out') :
    Whole W3 q 22 #[v] ∧ Going w (W3.setCell ⟨q, 0, none⟩ v') q bs out' ∧ KeepsOthers W (W3.setCell ⟨q, 0, none⟩ v') ∧ Below w.heap.size W (W3.setCell ⟨q, 0, none⟩ v') := by
  obtain ⟨g1, g2, g3⟩ := h.g.put h.fv ho hm
  exact ⟨(h.g.apart h.fv ho).1, g1, (keeps_below h.bel).trans g2, (h.bel.mono hw).trans g3⟩
theorem Turn.end {g n c : Nat} {u : List Ar} {z : Ar} (h : Turn w W W2 q Bx bs (u ++ [z]) (.slice (some ⟨g, 0, none⟩) n c) x) (hw : w.heap.size ≤ W.heap.size) (y : Int) :
    Going w (W2.setCell ⟨g, u.length * 6 + 1, none⟩ (.int .i64 y)) q bs (u ++ [{ z with e := y }]) ∧ KeepsOthers W (W2.setCell ⟨g, u.length * 6 + 1, none⟩ (.int .i64 y)) ∧ Below w.heap.size W (W2.setCell ⟨g, u.length * 6 + 1, none⟩ (.int .i64 y)) := by
  have ho : Only (fun k => (Value.slice (some ⟨g, 0, none⟩) n c).ownBlock = some k) W2 (W2.setCell ⟨g, u.length * 6 + 1, none⟩ (.int .i64 y)) := (Only.refl _ _).setCell (.inl (by simp [Value.ownBlock])) _
  obtain ⟨a1, a2, a3, a4⟩ := h.g.apart h.fv ho
  exact ⟨⟨⟨a2, h.g.bag.bel.trans a3⟩, ⟨_, a1, h.fm.end y⟩, h.g.new, h.g.kinds⟩, (keeps_below h.bel).trans a4, (h.bel.mono hw).trans a3⟩
theorem turn_row {g n c : Nat} {u : List Ar} {z : Ar} (h : Turn w W W2 q Bx bs (u ++ [z]) (.slice (some ⟨g, 0, none⟩) n c) x) : W2.frozen? ⟨g, u.length * 6 + 1, none⟩ = false ∧ AreaAt W2 g (u.length * 6) z := by
  have hAr := h.fm.areas
  rcases h.fm.2 with ⟨h0, _⟩ | ⟨g', cap, cur, hv, hb, hh, _⟩
  · cases h0
  · injection hv with h1
    injection h1 with h1
    injection h1 with h1
    subst h1
    refine ⟨Whole.frozen (t := 35) hh _, ?_⟩
    rcases hAr with h0 | ⟨b, off, hb', _, hc⟩
    · simp at h0
    · injection hb' with hb'
      injection hb' with hb1 hb2
      subst hb1 hb2
      have := hc u.length (by simp)
      simpa using this
end

set_option maxRecDepth 100000 in
set_option maxHeartbeats 4000000 in
theorem joined_any (B : Nat) (A : Option Addr) (c : Nat) (l : List Ar) (w : World) (hm : Mine B w (.slice A l.length c) l) (hl : l.length ≤ 50000) :
    Calls Try.prog 31 #[.slice A l.length c] w fun e w' => ∃ v l', e = .returned v ∧ l.Perm l' ∧ l'.Pairwise (fun a b => a.s ≤ b.s) ∧ Mine w.heap.size w' v (joinL l') ∧ Only (fun k => (Value.slice A l.length c).ownBlock = some k) w w' := by
  refine (callsIn_wide (n := 5)).1 ?_
  have hro : Fence.wide.round = none := rfl
  have f40 : Fence.wide.fn 46 := trivial
  have f42 : Fence.wide.fn 39 := trivial
  have f49 : Fence.wide.fn 51 := trivial
  have f33 : Fence.wide.fn 37 := trivial
  have SO := Lib.hid (sort_any B A c l w hm (by omega))
  obtain ⟨i0, hi0, hz0, hz1, hz2⟩ := info_parts area_info
  have HI0 : Hid (Try.prog.info? 35 = some i0) := Lib.hid hi0
  have H0 : Hid (i0.zero = some Ar.nil.v) := Lib.hid hz0
  have H1 : Hid (i0.size = 6) := Lib.hid hz1
  have H2 : Hid (i0.bytes = 48) := Lib.hid hz2
  have hmix : Try.prog.follows .mixedOrders = true := by kernel_rfl
  clear hi0 hz0 hz1 hz2 hm
  have HLen : Hid (l.length = l.length) := Lib.hid rfl
  refine callsIn_of_wp_marks Try.func31 rfl trivial ?_ hro
  simp only [Try.ntmps31, List.size_toArray, List.length_cons, List.length_nil, Nat.reduceAdd, Nat.reduceSub, Array.replicate_succ, Array.replicate_zero, List.push_toArray, List.append_toArray, List.nil_append, List.cons_append]
  gi_wp2_with (first | (gi_at_call 46; refine (callsIn_wide.2 SO.out).mono ?_; rintro e w1 ⟨rfl, l', hp, hs, hA, ho⟩; clear SO; have HP := Lib.hid hp; have HS := Lib.hid hs; have HA := Lib.hid hA; have HO := Lib.hid ho; clear hp hs hA ho) | (gi_at_call 39; refine (values_in Fence.wide 4 f42 hro _ _ _ _).mono ?_; rintro e w' ⟨rfl, rfl⟩))
  have hl' : l.length = l'.length := HP.out.length_eq
  have hl3 : l'.length ≤ 50000 := by omega
  rw [hl'] at *
  clear hl'
  have bag := ((Bag.new w1).add 22 #[.slice none 0 0]).add 22 #[.slice A l'.length c]
  simp only [World.size_alloc] at bag
  have hsz : ((w1.alloc (.cells #[.slice none 0 0] 22)).alloc (.cells #[.slice A l'.length c] 22)).heap.size = w1.heap.size + 2 := by simp
  generalize (w1.alloc (.cells #[.slice none 0 0] 22)).alloc (.cells #[.slice A l'.length c] 22) = W0 at *
  have bN := bag.v0
  have hG : Going w1 W0 w1.heap.size [] [] := ⟨bag.tail.tail, ⟨_, bag.v1, Mine.nil _ _⟩, Nat.le_refl _, fun x hx => by cases hx⟩
  have hB0 := bag.bel
  clear bag
  refine wpIn_rangeFunc_ownH hro (by omega) (gf := 51) (lb := #[.pointer (some ⟨w1.heap.size + 1, 0, none⟩)]) rfl f49 (enters_of Try.func51 (by kernel_rfl) rfl)
    (values_stops (fun a : Ar => a) Fence.wide 4 f49 hro (by omega) (w1.heap.size + 1) w1.heap.size c A l' (by omega) W0 (by omega) (by omega) (bN.cell 0) (by rw [List.map_id']; exact HA.out.below hB0)) belowK_t (belowK_b (by omega)) (Below.refl _ _) (fun _ => rfl)
    (fun pre W => Going w1 W w1.heap.size [] (joinL pre))
    (fun _ _ _ => False)
    (going_own _ (by omega))
    (fun _ _ _ _ _ hs _ _ => hs)
    hG
    (fun x a' W => ∃ Bx, RoundVar w1.heap.size W Bx x ∧ a' = { tmps := #[.slice A l'.length c, undef, .slice none 0 0, .pointer (some ⟨w1.heap.size, 0, none⟩), .pointer (some ⟨Bx, 0, none⟩), undef, .slice A l'.length c, .tuple #[], .slice A l'.length c, .func (.func 51) #[] #[.pointer (some ⟨w1.heap.size + 1, 0, none⟩)], x.v, undef, undef, undef, undef, undef, undef, undef, undef, undef, undef, undef, undef, undef, undef, undef, undef, undef, undef, undef, undef, undef, undef, undef, undef], defers := [] })
    (fun x a' _ X Y row hs hg hr => by obtain ⟨Bx, h2, h3⟩ := hs; exact ⟨Bx, round_own h2 hg (fun r e => (hr r e).2), h3⟩)
    ?assign ?body ?done ?stop
  case assign =>
    rintro l2 pre ⟨x0, x1, x2, x3, x4, x5⟩ W K hI hK
    simp only [Ar.v]
    gi_wp2
    exact hK _ _ ((KeepsOthers.alloc _ _).from _) ((Below.refl _ W).alloc hI.bag.bel.size _) (hI.alloc _) ⟨W.heap.size, hI.var ⟨x0, x1, x2, x3, x4, x5⟩, rfl⟩
  case body =>
    rintro l2 pre x a' W hlw hrec hI ⟨Bx, hRV, rfl⟩ hlt
    obtain ⟨v, hv, hm⟩ := hI.out
    have hlen : (joinL pre).length ≤ 50000 := by
      have := joinL_len pre
      omega
    have HI := Lib.hid hI
    have HV := Lib.hid hv
    have HRV := Lib.hid hRV
    have HM := Lib.hid hm
    have e1 := joinL_snoc pre x
    unfold joinF at e1
    obtain ⟨A1, k1, rfl⟩ := hm.is
    have cV := hv.cell 0
    obtain ⟨c0, c1, c2, c3, c4, c5⟩ := hRV.1.cs
    simp at cV
    have hAr := hm.areas
    clear hI hv hm hRV hB0 bN hG
    cases hla : (joinL pre).getLast? with
    | none =>
      rw [hla] at e1
      simp only at e1
      have hnil : joinL pre = [] := List.getLast?_eq_none_iff.1 hla
      have E1 : Hid (joinL (pre ++ [x]) = [] ++ [x]) := Lib.hid e1
      rw [hnil] at HI HV HM cV
      clear hla e1 hAr hlen hnil
      obtain ⟨x0, x1, x2, x3, x4, x5⟩ := x
      simp only [Ar.v, List.length_nil] at c0 c1 c2 c3 c4 c5 cV HI HV HM ⊢
      have HW := Lib.hid HI.out.bag.bel.size
      have T1 := Lib.hid (fun W2 h => Turn.below (W2 := W2) HI.out HV.out HM.out HRV.out.1 h)
      gi_wp2_with fail
      gi_region_with_o (gi_at_call 37; fail)
      all_goals (
        have TT := Lib.hid (T1.out W.drew (below_drew (Below.refl _ _)))
        clear c0 c1 c2 c3 c4 c5 cV
        generalize W.drew = W2 at *
        obtain ⟨d0, d1, d2, d3, d4, d5⟩ := TT.out.fx.cs
        have dV := TT.out.fv.cell 0
        simp at dV
        simp only at d0 d1 d2 d3 d4 d5
        gi_wp2_with (gi_at_builtin; refine wpListIn_append_own _ rfl (.tmp 30) (.tmp 32) _ rfl w1.heap.size 35 i0 _ 6 48 Try.underlying22 HI0.out H0.out H1.out H2.out rfl (by omega) _ 0 _ rfl (World.ownsRow.alloc TT.out.fm _) ⟨W2.heap.size, 0, none⟩ 1 1 (Ar.cl ⟨x0, x1, x2, x3, x4, x5⟩) rfl rfl (new6 W2 ⟨x0, x1, x2, x3, x4, x5⟩ 35) (cl_one _) (by simp only [maxLen]; omega) (by omega) (by have := TT.out.g.bag.bel.size; simp only [World.size_alloc] at *; omega) ?_; intro v' W3 hown' hg' _hnil; obtain ⟨A2, k2, rfl⟩ := own_slice hown'; have N := Lib.hid (TT.out.put HW.out (only_grown ((Only.refl _ _).alloc _) hg' (fun k hk => hk)) (mine_more (l := []) (l' := [⟨x0, x1, x2, x3, x4, x5⟩]) rfl (by rw [cls_single]; exact hown'))); clear hown' hg' _hnil d0 d1 d2 d3 d4 d5 dV; have dV := N.out.1.cell 0; have fV := N.out.1.frozen 0; simp at dV)
        exact ⟨N.out.2.2.1.from _, N.out.2.2.2, (show Going _ _ _ _ _ from (by rw [E1.out]; exact N.out.2.1))⟩)
    | some z =>
      rw [hla] at e1
      simp only at e1
      have hsp := last_split hla
      generalize (joinL pre).dropLast = u at *
      rw [hsp] at e1 HI HV HM cV hAr hlen
      obtain ⟨g, rfl, hgz⟩ : ∃ g, A1 = some ⟨g, 0, none⟩ ∧ AreaAt W g (u.length * 6) z := by
        rcases HM.out.2 with ⟨_, h0⟩ | ⟨g, cap, cur, hv, hb, hh, _⟩
        · simp at h0
        · injection hv with h1
          subst h1
          refine ⟨g, rfl, ?_⟩
          rcases hAr with h0 | ⟨b, off, hb', _, hc⟩
          · simp at h0
          · injection hb' with hb'
            injection hb' with hb1 hb2
            subst hb1 hb2
            have := hc u.length (by simp)
            simpa using this
      have X := Lib.hid (goes_any z x)
      have HW := Lib.hid HI.out.bag.bel.size
      have T1 := Lib.hid (fun W2 h => Turn.below (W2 := W2) HI.out HV.out HM.out HRV.out.1 h)
      have FR : Hid (∀ W2, Turn w1 W W2 w1.heap.size Bx [] (u ++ [z]) (.slice (some ⟨g, 0, none⟩) (u ++ [z]).length k1) x → W2.frozen? ⟨g, u.length * 6 + 1, none⟩ = false ∧ AreaAt W2 g (u.length * 6) z) := Lib.hid (fun W2 h => turn_row h)
      obtain ⟨y0, y1, y2, y3, y4, y5⟩ := hgz
      rw [show (u ++ [z]).length = u.length + 1 by simp] at *
      by_cases hgo : GoesA z x
      · rw [if_pos hgo] at e1
        rw [decide_eq_true hgo] at X
        have E1 := Lib.hid e1
        clear hla e1 hAr hsp hgo
        obtain ⟨x0, x1, x2, x3, x4, x5⟩ := x
        obtain ⟨z0, z1, z2, z3, z4, z5⟩ := z
        simp only [Ar.v] at c0 c1 c2 c3 c4 c5 y0 y1 y2 y3 y4 y5 X ⊢
        gi_wp2_with fail
        gi_region_with_o (gi_at_call 37; refine (CallsIn.inRound l2 (callsIn_wide.2 (X.out _))).mono ?_; rintro e W2 ⟨rfl, hb2⟩)
        all_goals (
          have TT := Lib.hid (T1.out W2 (below_of_drew hb2))
          clear c0 c1 c2 c3 c4 c5 cV y0 y1 y2 y3 y4 y5 hb2
          obtain ⟨d0, d1, d2, d3, d4, d5⟩ := TT.out.fx.cs
          have dV := TT.out.fv.cell 0
          simp at dV
          simp only at d0 d1 d2 d3 d4 d5
          obtain ⟨fr, ⟨y0, y1, y2, y3, y4, y5⟩⟩ := FR.out W2 TT.out
          simp only at y0 y1 y2 y3 y4 y5
          gi_wp2_with fail
          obtain ⟨g1, g2, g3⟩ := TT.out.end HW.out x1
          exact ⟨g2.from _, g3, (show Going _ _ _ _ _ from (by rw [E1.out]; exact g1))⟩)
      · rw [if_neg hgo] at e1
        rw [decide_eq_false hgo] at X
        have E1 := Lib.hid e1
        clear hla e1 hAr hsp hgo
        obtain ⟨x0, x1, x2, x3, x4, x5⟩ := x
        obtain ⟨z0, z1, z2, z3, z4, z5⟩ := z
        simp only [Ar.v] at c0 c1 c2 c3 c4 c5 y0 y1 y2 y3 y4 y5 X ⊢
        gi_wp2_with fail
        gi_region_with_o (gi_at_call 37; refine (CallsIn.inRound l2 (callsIn_wide.2 (X.out _))).mono ?_; rintro e W2 ⟨rfl, hb2⟩)
        all_goals (
          have TT := Lib.hid (T1.out W2 (below_of_drew hb2))
          clear c0 c1 c2 c3 c4 c5 cV y0 y1 y2 y3 y4 y5 hb2
          obtain ⟨d0, d1, d2, d3, d4, d5⟩ := TT.out.fx.cs
          have dV := TT.out.fv.cell 0
          simp at dV
          simp only at d0 d1 d2 d3 d4 d5
          have MM : Hid (W2.ownsRow w1.heap.size 35 6 (.slice (some ⟨g, 0, none⟩) (u.length + 1) k1) (u.length + 1) (cls (u ++ [⟨z0, z1, z2, z3, z4, z5⟩]))) := Lib.hid (by have := TT.out.fm; unfold Mine at this; rwa [List.length_append] at this)
          gi_wp2_with (gi_at_builtin; refine wpListIn_append_own _ rfl (.tmp 30) (.tmp 32) _ rfl w1.heap.size 35 i0 _ 6 48 Try.underlying22 HI0.out H0.out H1.out H2.out rfl (by omega) _ (u.length + 1) _ rfl (World.ownsRow.alloc MM.out _) ⟨W2.heap.size, 0, none⟩ 1 1 (Ar.cl ⟨x0, x1, x2, x3, x4, x5⟩) rfl rfl (new6 W2 ⟨x0, x1, x2, x3, x4, x5⟩ 35) (cl_one _) (by simp only [maxLen]; omega) (by omega) (by have := TT.out.g.bag.bel.size; simp only [World.size_alloc] at *; omega) ?_; intro v' W3 hown' hg' _hnil; obtain ⟨A2, k2, rfl⟩ := own_slice hown'; have N := Lib.hid (TT.out.put HW.out (only_grown ((Only.refl _ _).alloc _) hg' (fun k hk => hk)) (mine_more (l := (u ++ [⟨z0, z1, z2, z3, z4, z5⟩])) (l' := [⟨x0, x1, x2, x3, x4, x5⟩]) rfl (by rw [cls_single, List.length_append]; exact hown'))); clear hown' hg' _hnil d0 d1 d2 d3 d4 d5 dV; have dV := N.out.1.cell 0; have fV := N.out.1.frozen 0; simp at dV)
          exact ⟨N.out.2.2.1.from _, N.out.2.2.2, (show Going _ _ _ _ _ from (by rw [E1.out]; exact N.out.2.1))⟩)
  case done =>
    rintro D ys W hD rfl hI hK
    obtain ⟨v, hv, hm⟩ := hI.out
    obtain ⟨A1, c1, rfl⟩ := hm.is
    have cV := hv.cell 0
    simp at cV
    gi_wp2
    refine ⟨by simp, .inl ⟨_, _, rfl, run_takeDeferred hK, ?_⟩⟩
    refine ⟨_, results_tmp rfl _ _ _, ?_⟩
    have hb := hI.bag.bel.trans (belowK_b (w := w1) (Nat.le_refl _) W D (.deferred (some [])) (.deferred none) (by omega) hK rfl rfl)
    exact ⟨_, _, rfl, HP.out, HS.out, Mine.base (ownsRow_putObj hm _ hK rfl) HO.out.size, HO.out.trans ((Only.of_below hb _).mono (fun _ _ h => h))⟩
  case stop =>
    rintro D c pre W _ _ h _
    exact h.elim
end Go.Proofs.Ytmppodobgkhojaa
