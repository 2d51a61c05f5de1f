/-
  Layer 16: the walk of the statement on formed nodes.
-/
import Derived.Test.YtiiclmaphiajmaaSeekThingsWalk
import Derived.Test.YtiiclmaphiajmaaPkWi
import Derived.BigQuiet
namespace Go.Proofs.Ytiiclmaphiajmaa
open Go.ChangeShapes Go.WideShapes Go.ChangeAt Go.RowKit
set_option linter.unusedVariables false

section
variable {n : Nd}
theorem first_ok (h : n.Counted) : entOk n.first = true ∧ entK n.first = n.ends.length ∧ entI n.first = n.inner := by
  obtain ⟨h1, h2⟩ := first_div n h
  have h3 := h.one
  have h4 := h.few
  have hm : n.first.tmod 16 = if n.inner then 2 else 1 := by
    have h0 : 0 ≤ n.first := by unfold Nd.first; cases n.inner <;> simp <;> omega
    rw [Int.tmod_eq_emod_of_nonneg h0]
    unfold Nd.first
    cases n.inner <;> simp <;> omega
  have hk : entOk n.first = true := by
    unfold entOk
    refine decide_eq_true ⟨by omega, by omega, ?_⟩
    rw [hm]
    cases n.inner
    · exact .inl rfl
    · exact .inr rfl
  refine ⟨hk, ?_, ?_⟩
  · unfold entK
    rw [hk, if_pos rfl, h1]
    omega
  · unfold entI
    rw [hk, h2]
    rfl
theorem pack_at (h : n.Counted) (i : Nat) (hi : i < n.ends.length) : nth (packN n) (2 + i) = nth n.ends i ∧ nth (packN n) (10 + i) = nth n.slots i := by
  have h4 := h.few
  rw [nth_pack h, nth_pack h]
  unfold wordN
  refine ⟨?_, ?_⟩
  · rw [if_neg (by omega), if_neg (by omega), if_pos (by omega), show 2 + i - 2 = i by omega]
  · rw [if_neg (by omega), if_neg (by omega), if_neg (by omega), if_pos (by omega), show 10 + i - 10 = i by omega]
theorem look_pack (h : n.Counted) (addr : Int) : (∀ i, i < n.ends.length → (∀ j, j < i → nth n.ends j ≤ addr) → addr < nth n.ends i → (lookW (packN n) addr).1 = (nth n.slots i, n.inner, true)) ∧
    ((∀ j, j < n.ends.length → nth n.ends j ≤ addr) → (lookW (packN n) addr).1 = (0, false, false)) := by
  obtain ⟨h1, h2, h3⟩ := first_ok h
  have h0 : nth (packN n) 0 = n.first := by rw [nth_pack h]; rfl
  have e : lookW (packN n) addr = lookFromW (packN n) addr n.inner n.ends.length 0 := by
    unfold lookW
    rw [h0, h1, h2, h3, if_pos rfl]
  have key1 : ∀ m i, i + m = n.ends.length → ∀ k, i ≤ k → k < n.ends.length → (∀ j, i ≤ j → j < k → nth n.ends j ≤ addr) → addr < nth n.ends k → (lookFromW (packN n) addr n.inner m i).1 = (nth n.slots k, n.inner, true) := by
    intro m
    induction m with
    | zero => intro i hi k hk1 hk2; omega
    | succ m ih =>
      intro i hi k hk1 hk2 hj hlt
      obtain ⟨p1, p2⟩ := pack_at h i (by omega)
      simp only [lookFromW]
      rw [p1, p2]
      by_cases hik : i = k
      · subst hik; rw [if_neg (by omega)]
      · rw [if_pos (hj i (Nat.le_refl _) (by omega))]
        exact ih (i + 1) (by omega) k (by omega) hk2 (fun j h1 h2 => hj j (by omega) h2) hlt
  have key2 : ∀ m i, i + m = n.ends.length → (∀ j, j < n.ends.length → nth n.ends j ≤ addr) → (lookFromW (packN n) addr n.inner m i).1 = (0, false, false) := by
    intro m
    induction m with
    | zero => intro i hi hj; rfl
    | succ m ih =>
      intro i hi hj
      obtain ⟨p1, p2⟩ := pack_at h i (by omega)
      simp only [lookFromW]
      rw [p1, if_pos (hj i (by omega))]
      exact ih (i + 1) (by omega) hj
  rw [e]
  exact ⟨fun i hi hj hlt => key1 _ 0 (by omega) i (by omega) hi (fun j _ h => hj j h) hlt, fun hj => key2 _ 0 (by omega) hj⟩
theorem nodeW_pack (h : NdF n) : nodeW (packN n) = (some n, 2 + 3 * n.ends.length) := by
  obtain ⟨h1, h2, h3⟩ := first_ok h.cnt
  have h0 : nth (packN n) 0 = n.first := by rw [nth_pack h.cnt]; rfl
  unfold nodeW
  rw [h0, h1, h2, if_pos rfl, un_pack h.cnt, if_pos h]
end

set_option maxHeartbeats 4000000 in
theorem seekNode_no {n : Nd} {x y z : Value} {addr : Int} (w : World) (h : NdIn w n x y z) (he : n.ends.length ≤ 9223372036854775807) (hs : n.slots.length ≤ 9223372036854775807) (hg : n.gaps.length ≤ 9223372036854775807) (hn : ¬ (n.ends.length ≤ 20 ∧ n.slots.length ≤ 20 ∧ n.gaps.length ≤ 20 ∧ NdF n)) :
    Calls Try.prog 6 #[n.val x y z, .int .i64 addr] w fun e w' => e = .returned (.bool true) ∧ Below w.heap.size w w' := by
  have hnot : ∀ (x : Bool) (w : World), (Op.unary .not (.bool x)).run Try.prog w = .ok (.bool (!x)) w := fun _ _ => rfl
  have G := Lib.hid ((Bag.new w).add 33 (n.cells x y z))
  have CF : Hid (n.ends.length ≤ 20 → n.slots.length ≤ 20 → n.gaps.length ≤ 20 → ∀ W, Below w.heap.size w W → Calls Try.prog 20 #[n.val x y z] W fun e w' => e = .returned (.bool false) ∧ Below W.heap.size W w') := Lib.hid (fun h1 h2 h3 W hb => refFormedN_c (h.still hb) (r := false) ⟨(fun e => by cases e), fun f => absurd ⟨h1, h2, h3, f⟩ hn⟩)
  obtain ⟨A, c, rfl⟩ := h.we.is
  obtain ⟨A', c', rfl⟩ := h.ws.is
  obtain ⟨A'', c'', rfl⟩ := h.wg.is
  clear h hn
  unfold Nd.val Nd.cells at *
  generalize n.ends.length = L1 at *
  generalize n.slots.length = L2 at *
  generalize n.gaps.length = L3 at *
  go_enter Try.func6, Try.ntmps6
  go_upto_region 1 with (fail)
  generalize w.alloc _ = wA at *
  go_wp2_with fail
  refine (seek_awake _).mono ?_
  rintro e w1 ⟨rfl, hb1⟩
  have G := Lib.hid (G.out.still hb1)
  clear hb1
  obtain ⟨d0, d1, d2, d3, d4⟩ := row5 G.out.v0
  have FIN : Hid (∀ W, Below w1.heap.size w1 W → Calls Try.prog 7 #[] W fun e w' => e = .returned (.bool true) ∧ Below w.heap.size w w') := Lib.hid (fun W hb => (seek_awake W).mono (fun e w' ⟨h1, h2⟩ => ⟨h1, below_then (below_then G.out.bel hb (Nat.le_refl _)) h2 (Nat.le_refl _)⟩))
  by_cases n1 : 20 < L1
  · have i1 : decide ((20 : Int) < (L1 : Int)) = true := decide_eq_true (by omega)
    clear G CF
    go_wp2_with fail
    refine (FIN.out _ (Below.refl _ _)).mono ?_
    rintro e w2 ⟨rfl, hb⟩
    have B := Lib.hid hb
    clear hb
    go_wp2_with fail
    go_ret
    exact ⟨rfl, B.out⟩
  · have i1 : decide ((20 : Int) < (L1 : Int)) = false := decide_eq_false (by omega)
    by_cases n2 : 20 < L2
    · have i2 : decide ((20 : Int) < (L2 : Int)) = true := decide_eq_true (by omega)
      clear G CF
      go_wp2_with fail
      refine (FIN.out _ (Below.refl _ _)).mono ?_
      rintro e w2 ⟨rfl, hb⟩
      have B := Lib.hid hb
      clear hb
      go_wp2_with fail
      go_ret
      exact ⟨rfl, B.out⟩
    · have i2 : decide ((20 : Int) < (L2 : Int)) = false := decide_eq_false (by omega)
      by_cases n3 : 20 < L3
      · have i3 : decide ((20 : Int) < (L3 : Int)) = true := decide_eq_true (by omega)
        clear G CF
        go_wp2_with fail
        refine (FIN.out _ (Below.refl _ _)).mono ?_
        rintro e w2 ⟨rfl, hb⟩
        have B := Lib.hid hb
        clear hb
        go_wp2_with fail
        go_ret
        exact ⟨rfl, B.out⟩
      · have i3 : decide ((20 : Int) < (L3 : Int)) = false := decide_eq_false (by omega)
        have CG := Lib.hid (CF.out (by omega) (by omega) (by omega) w1 G.out.bel)
        clear G CF
        go_wp2_with fail
        refine CG.out.mono ?_
        rintro e w2 ⟨rfl, hb⟩
        have FN := Lib.hid (FIN.out _ hb)
        clear hb CG FIN d0 d1 d2 d3 d4
        go_wp2_with fail
        refine FN.out.mono ?_
        rintro e w3 ⟨rfl, hb⟩
        have B := Lib.hid hb
        clear hb FN
        go_wp2_with fail
        go_ret
        exact ⟨rfl, B.out⟩

theorem Bag.moved {w wr w' : World} {l : List (Nat × TypeId × Array Value)} {w0 : World} {mb mg ab ag : Nat} (h : Bag w wr l) (hl : ∀ x ∈ l, x.1 < w0.heap.size) (ho : Only (fun k => CTwo mb mg k ∨ ArTwo ab ag k) wr w') (h0 : w.heap.size ≤ w0.heap.size) (h1 : w0.heap.size ≤ mb) (h2 : w0.heap.size ≤ mg) (h3 : w0.heap.size ≤ ab) (h4 : w0.heap.size ≤ ag) : Bag w w' l := by
  refine h.only ho (fun x hx => ?_) (fun k hk => ?_)
  · have := hl x hx
    rintro ((h5 | h5) | (h5 | h5)) <;> omega
  · rcases hk with (h5 | h5) | (h5 | h5) <;> omega
set_option maxRecDepth 4000 in
set_option maxHeartbeats 8000000 in
theorem seekNode_yes {n : Nd} {x y z : Value} {addr : Int} (w : World) (h : NdIn w n x y z) (hF : NdF n) (fs : Fits n.slots) :
    Calls Try.prog 6 #[n.val x y z, .int .i64 addr] w fun e w' => e = .returned (.bool true) ∧ Below w.heap.size w w' := by
  have hnot : ∀ (x : Bool) (w : World), (Op.unary .not (.bool x)).run Try.prog w = .ok (.bool (!x)) w := fun _ _ => rfl
  have G := Lib.hid ((Bag.new w).add 33 (n.cells x y z))
  have HIN := Lib.hid h
  have CF : Hid (∀ W, Below w.heap.size w W → Calls Try.prog 20 #[n.val x y z] W fun e w' => e = .returned (.bool true) ∧ Below W.heap.size W w') := Lib.hid (fun W hb => refFormedN_c (h.still hb) (r := true) ⟨fun _ => hF, fun _ => rfl⟩)
  have CP : Hid (∀ W, Below w.heap.size w W → Calls Try.prog 21 #[n.val x y z] W fun e w' => ∃ v', e = .returned v' ∧ Wds w' v' (packN n) ∧ Below W.heap.size W w') := Lib.hid (fun W hb => refPackN_c (h.still hb) hF.cnt)
  have HX := Lib.hid (pack_len hF.cnt)
  have HP := Lib.hid (fits_pack hF fs)
  have HK := Lib.hid (lookW_few (packN n) addr)
  have HL := Lib.hid (look_pack hF.cnt addr)
  have HN : Hid (nodeR (nodeW (packN n)).1 = ⟨0, false, true, Ar.nil, n⟩ ∧ (nodeW (packN n)).2 = 2 + 3 * n.ends.length) := Lib.hid (by rw [nodeW_pack hF]; exact ⟨rfl, rfl⟩)
  obtain ⟨A, c, rfl⟩ := h.we.is
  obtain ⟨A', c', rfl⟩ := h.ws.is
  obtain ⟨A'', c'', rfl⟩ := h.wg.is
  have CS : Hid (∀ W x' y' z', Below w.heap.size w W → NdIn W n x' y' z' → Calls Try.prog 16 #[n.val x' y' z', n.val (.slice A n.ends.length c) (.slice A' n.slots.length c') (.slice A'' n.gaps.length c'')] W fun e w' => e = .returned (.bool true) ∧ Below W.heap.size W w') := Lib.hid (fun W x' y' z' hb hi => sameN_c hi (h.still hb) (by have := hF.cnt.few; omega) (by have := hF.cnt.few; have := hF.cnt.sl; omega) (by have := hF.cnt.few; have := hF.cnt.gl; omega) (r := true) ⟨fun _ => rfl, fun _ => rfl⟩)
  have RD : Hid (∀ W, Below w.heap.size w W → ∀ i, i < n.ends.length → (∃ b off, A = some ⟨b, off, none⟩ ∧ W.cell? ⟨b, off + i, none⟩ = some (.int .i64 (nth n.ends i))) ∧ (∃ b off, A' = some ⟨b, off, none⟩ ∧ W.cell? ⟨b, off + i, none⟩ = some (.int .i64 (nth n.slots i)))) := Lib.hid (by
    intro W hb i hi
    have hsl := hF.cnt.sl
    obtain ⟨A1, c1, e1, _, k1⟩ := h.we
    obtain ⟨A2, c2, e2, _, k2⟩ := h.ws
    injection e1 with e1 _ _
    injection e2 with e2 _ _
    subst e1 e2
    obtain ⟨b1, o1, rfl, q1⟩ := k1 (by omega)
    obtain ⟨b2, o2, rfl, q2⟩ := k2 (by omega)
    refine ⟨⟨b1, o1, rfl, ?_⟩, ⟨b2, o2, rfl, ?_⟩⟩
    · have e := q1 i hi
      rw [hb.cell (p := ⟨b1, o1 + i, none⟩) (World.block_lt_of_cell? w _ e)]; exact e
    · have e := q2 i (by omega)
      rw [hb.cell (p := ⟨b2, o2 + i, none⟩) (World.block_lt_of_cell? w _ e)]; exact e)
  have h8 := hF.cnt.few
  have hsl := hF.cnt.sl
  have hgl := hF.cnt.gl
  have i1 : decide ((20 : Int) < (n.ends.length : Int)) = false := decide_eq_false (by omega)
  have i2 : decide ((20 : Int) < (n.slots.length : Int)) = false := decide_eq_false (by omega)
  have i3 : decide ((20 : Int) < (n.gaps.length : Int)) = false := decide_eq_false (by omega)
  have HSL := Lib.hid hsl
  clear h hF fs hsl hgl
  unfold Nd.val Nd.cells at *
  generalize packN n = pk at *
  generalize hr : lookW pk addr = r at *
  have HR := Lib.hid hr
  clear hr
  obtain ⟨⟨V, I, O⟩, kk⟩ := r
  obtain ⟨inner, lo, ends, slots, gaps⟩ := n
  simp only at *
  have HLE : Hid (ends.length = ends.length) := Lib.hid rfl
  generalize hL1 : ends.length = L1 at *
  generalize hL2 : slots.length = L2 at *
  generalize hL3 : gaps.length = L3 at *
  have HLL := Lib.hid (⟨hL1, hL2, hL3⟩ : _ ∧ _ ∧ _)
  clear hL1 hL2 hL3 HLE
  go_enter Try.func6, Try.ntmps6
  go_upto_region 1 with (fail)
  have GS : Hid (w.heap.size < (w.alloc (.cells #[.bool inner, .int .i64 lo, .slice A L1 c, .slice A' L2 c', .slice A'' L3 c''] 33)).heap.size) := Lib.hid (by simp)
  generalize w.alloc _ = wA at *
  go_wp2_with fail
  refine (seek_awake _).mono ?_
  rintro e w1 ⟨rfl, hb1⟩
  have G := Lib.hid (G.out.still hb1)
  have CG := Lib.hid (CF.out w1 G.out.bel)
  have GS := Lib.hid (Nat.lt_of_lt_of_le GS.out hb1.size)
  clear hb1 CF
  obtain ⟨d0, d1, d2, d3, d4⟩ := row5 G.out.v0
  go_wp2_with fail
  refine CG.out.mono ?_
  rintro e w2 ⟨rfl, hb⟩
  have G := Lib.hid (G.out.still hb)
  have GS := Lib.hid (Nat.lt_of_lt_of_le GS.out hb.size)
  clear hb CG d0 d1 d2 d3 d4
  have CQ := Lib.hid (CP.out w2 G.out.bel)
  obtain ⟨d0, d1, d2, d3, d4⟩ := row5 G.out.v0
  clear CP
  go_wp2_with fail
  refine CQ.out.mono ?_
  rintro e w3 ⟨v, rfl, hv, hb⟩
  obtain ⟨B, k, rfl⟩ := hv.is
  rw [HX.out] at hv ⊢
  have SL := Lib.hid (slots_one (wss_one hv) HX.out)
  have G := Lib.hid (G.out.still hb)
  have GS := Lib.hid (Nat.lt_of_lt_of_le GS.out hb.size)
  have hb2 := below_new w3 (.cells #[.slice B 28 k] 22)
  have G := Lib.hid (G.out.still hb2)
  have GS := Lib.hid (Nat.lt_of_lt_of_le GS.out hb2.size)
  clear hv hb hb2 CQ d0 d1 d2 d3 d4
  go_wp2_with fail
  refine SL.out.mono ?_
  rintro e w4 ⟨mb, mg, ab, ag, rfl, hm, ha, m1, m2, m3, m4, hb⟩
  have AL := Lib.hid (all_look (addr := addr) HX.out HP.out hm ha)
  have MM := Lib.hid (⟨m1, m2, m3, m4⟩ : _ ∧ _ ∧ _ ∧ _)
  have G := Lib.hid (G.out.still hb)
  clear hm ha m1 m2 m3 m4 hb SL
  rw [HR.out] at AL
  simp only at AL
  go_wp2_with fail
  refine AL.out.mono ?_
  rintro e w5 ⟨A1, c1, A2, c2, A3, c3, rfl, hm, ha, ho⟩
  have G := Lib.hid (G.out.moved (w0 := w3.alloc (.cells #[.slice B 28 k] 22)) (fun x hx => by simp at hx; rw [hx]; exact GS.out) ho (Nat.le_of_lt GS.out) MM.out.1 MM.out.2.1 MM.out.2.2.1 MM.out.2.2.2)
  have AN : Hid (∀ W, Below w5.heap.size w5 W → Calls Try.prog 10 #[.pointer (some ⟨mb, 0, none⟩), .agg #[.pointer (some ⟨ab, 0, none⟩), .int .i64 65537, .int .i64 0, .int .i64 2, .pointer none]] W (NodePost W mb mg ab ag ⟨inner, lo, ends, slots, gaps⟩ true (nodeW pk).2)) := Lib.hid (fun W hb => all_node HN.out.1 HX.out HP.out (cnt := 28 + (kk : Int)) (by have := HK.out; omega) (hm.only (Only.of_below hb (fun _ => False)) id id) (ha.still hb))
  have LT : Hid (mb < w5.heap.size ∧ mg < w5.heap.size ∧ ab < w5.heap.size ∧ ag < w5.heap.size) := Lib.hid ⟨hm.top.lt, hm.row.lt, ha.top.lt, ha.row.lt⟩
  clear hm ha ho AL
  go_upto_region 5 with (fail)
  have hb := below_new w5 (.cells #[.int .i64 V, .bool I, .bool O, .int .i64 0, .int .i64 0, .int .i64 0, .bool false, .int .i64 0, .int .i64 0, .bool false, .int .i64 0, .slice A1 0 c1, .slice A2 0 c2, .slice A3 0 c3] 35)
  have G := Lib.hid (G.out.add 35 #[.int .i64 V, .bool I, .bool O, .int .i64 0, .int .i64 0, .int .i64 0, .bool false, .int .i64 0, .int .i64 0, .bool false, .int .i64 0, .slice A1 0 c1, .slice A2 0 c2, .slice A3 0 c3])
  have AM := Lib.hid (AN.out _ hb)
  clear hb AN
  go_wp2_with fail
  refine AM.out.mono ?_
  rintro e w6 ⟨E1, k1, E2, k2, E3, k3, rfl, hn, ho⟩
  have G := Lib.hid (G.out.only ho (fun x hx => by
    have h1 := LT.out
    have h2 := MM.out
    have h3 := GS.out
    simp only [List.mem_cons, List.not_mem_nil, or_false] at hx
    rcases hx with rfl | rfl
    · rintro ((h5 | h5) | (h5 | h5)) <;> (simp only at h5; omega)
    · rintro ((h5 | h5) | (h5 | h5)) <;> (simp only at h5; omega)) (fun k hk => by
    have h2 := MM.out
    have h3 := GS.out
    rcases hk with (h5 | h5) | (h5 | h5) <;> omega))
  have N6 := Lib.hid hn
  clear hn ho AM MM GS LT
  simp only at N6
  rw [HLL.out.1, HLL.out.2.1, HLL.out.2.2] at N6 ⊢
  go_upto_region 6 with (fail)
  have hb := below_new w6 (.cells #[.int .i64 0, .bool false, .bool true, .int .i64 0, .int .i64 0, .int .i64 0, .bool false, .int .i64 0, .int .i64 0, .bool inner, .int .i64 lo, .slice E1 L1 k1, .slice E2 L2 k2, .slice E3 L3 k3] 35)
  have G := Lib.hid (G.out.add 35 #[.int .i64 0, .bool false, .bool true, .int .i64 0, .int .i64 0, .int .i64 0, .bool false, .int .i64 0, .int .i64 0, .bool inner, .int .i64 lo, .slice E1 L1 k1, .slice E2 L2 k2, .slice E3 L3 k3])
  have CT := Lib.hid (CS.out _ _ _ _ G.out.bel (N6.out.still hb))
  clear hb N6 CS
  obtain ⟨y0, y1, y2, y3, y4, y5, y6, y7, y8, y9, y10, y11, y12, y13⟩ := row14 G.out.v0
  obtain ⟨d0, d1, d2, d3, d4⟩ := row5 G.out.v2
  have hk10 : decide ((10 : Int) < (kk : Int)) = false := decide_eq_false (by have := HK.out; omega)
  go_wp2_with fail
  refine CT.out.mono ?_
  rintro e w7 ⟨rfl, hb⟩
  have G := Lib.hid (G.out.still hb)
  clear hb CT y0 y1 y2 y3 y4 y5 y6 y7 y8 y9 y10 y11 y12 y13 d0 d1 d2 d3 d4
  have RW := Lib.hid (RD.out w7 G.out.bel)
  clear RD
  go_wp2_with fail
  go_loopw [13] (fun iv wr => ∃ i : Nat, i ≤ L1 ∧ iv = .int .i64 i ∧ (∀ j, j < i → nth ends j ≤ addr) ∧ wr = w7) (fun iv _ => L1 - (intOf iv).toNat)
  case atStart => exact ⟨0, by omega, rfl, fun j hj => by omega, rfl⟩
  case round =>
    obtain ⟨i, hi, rfl, hj, rfl⟩ := hrel
    have HJ := Lib.hid hj
    clear hj
    obtain ⟨d0, d1, d2, d3, d4⟩ := row5 G.out.v2
    obtain ⟨z0, z1, z2, z3, z4, z5, z6, z7, z8, z9, z10, z11, z12, z13⟩ := row14 G.out.v1
    clear z3 z4 z5 z6 z7 z8 z9 z10 z11 z12 z13 d1 d4
    by_cases hlt : i < L1
    · obtain ⟨⟨b1, o1, hA1, r1⟩, ⟨b2, o2, hA2, r2⟩⟩ := RW.out i hlt
      subst hA1 hA2
      have hi2 : (i : Int) < (L1 : Int) := by omega
      have hi3 : (i : Int) < (L2 : Int) := by have := HSL.out; omega
      by_cases ha : addr < nth ends i
      · have e := HL.out.1 i hlt HJ.out ha
        injection e with e1 e2
        injection e2 with e2 e3
        subst e1 e2 e3
        have ha2 : decide (addr < nth ends i) = true := decide_eq_true ha
        clear HL HJ RW HK HR HN
        generalize nth ends i = en at *
        generalize nth slots i = sn at *
        have j1 : (sn == sn) = true := by simp
        have j2 : ∀ b : Bool, (b == b) = true := fun b => by simp
        have GB := Lib.hid G.out.bel
        clear G
        go_upto_region 12 with (fail)
        go_quiet (fail)
        go_wp2_with fail
        go_ret
        exact ⟨rfl, below_drewN GB.out _⟩
      · have ha2 : decide (addr < nth ends i) = false := decide_eq_false ha
        have HJ2 : Hid (∀ j, j < i + 1 → nth ends j ≤ addr) := Lib.hid (fun j hj => by
          by_cases hji : j = i
          · subst hji; omega
          · exact HJ.out j (by omega))
        clear HL HJ RW HK HR HN z0 z1 z2
        generalize nth ends i = en at *
        go_wp2_with fail
        go_roundw
        case rel => exact ⟨i + 1, by omega, by go_num, HJ2.out, trivial⟩
        case measure => simp [intOf]; omega
    · have hiL : i = L1 := by omega
      subst hiL
      have e := HL.out.2 HJ.out
      injection e with e1 e2
      injection e2 with e2 e3
      subst e1 e2 e3
      have GB := Lib.hid G.out.bel
      clear HL HJ RW HK HR HN G
      go_wp2_with fail
      go_ret
      exact ⟨rfl, GB.out⟩
theorem seekNode_any {n : Nd} {x y z : Value} {addr : Int} (w : World) (h : NdIn w n x y z) (he : n.ends.length ≤ 9223372036854775807) (hs : n.slots.length ≤ 9223372036854775807) (hg : n.gaps.length ≤ 9223372036854775807) (fs : Fits n.slots) :
    Calls Try.prog 6 #[n.val x y z, .int .i64 addr] w fun e w' => e = .returned (.bool true) ∧ Below w.heap.size w w' := by
  by_cases hF : NdF n
  · exact seekNode_yes w h hF fs
  · exact seekNode_no w h he hs hg (fun h => hF h.2.2.2)
end Go.Proofs.Ytiiclmaphiajmaa
