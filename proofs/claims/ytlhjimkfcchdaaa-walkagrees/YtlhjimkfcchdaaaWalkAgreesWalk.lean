/-
  In a leaf each address is found in the entry in which it is gone through: the law's walk.
-/
import Derived.Test.YtlhjimkfcchdaaaPkZe
import Derived.Test.YtlhjimkfcchdaaaPkWe
namespace Go.Proofs.Ytlhjimkfcchdaaa
open Go.ChangeShapes Go.WideShapes Go.ChangeAt Go.RowKit
set_option linter.unusedVariables false

/-! A leaf alone in a slot: what is found. -/
section
variable {n : Nd} {addr : Int}
theorem leaf_word (n : Nd) : wordsAt [packN n] 65537 = some (packN n) := by
  unfold wordsAt
  rw [if_neg (by simp)]
  rfl
theorem at_up (h : NdF n) (i j : Nat) (hij : i ≤ j) (hj : j ≤ n.ends.length) : n.at i ≤ n.at j := by
  induction j with
  | zero => have : i = 0 := by omega
            subst this; exact Int.le_refl _
  | succ j ih =>
    by_cases e : i = j + 1
    · subst e; exact Int.le_refl _
    · have h1 := ih (by omega) (by omega)
      have h2 := (h.ent j (by omega)).up
      have h3 : n.at (j + 1) = nth n.ends j := by unfold Nd.at; rw [if_neg (by omega)]; rfl
      omega
theorem leaf_in (h : NdF n) (hi : n.inner = false) (i : Nat) (hl : i < n.ends.length) (h1 : n.at i ≤ addr) (h2 : addr < nth n.ends i) : (findW [packN n] addr 8 65537).1 = (nth n.slots i, true) := by
  have e := (look_pack h.cnt addr).1 i hl (fun j hj => by
    have := at_up h (j + 1) i (by omega) (by omega)
    have h3 : n.at (j + 1) = nth n.ends j := by unfold Nd.at; rw [if_neg (by omega)]; rfl
    omega) h2
  unfold findW
  rw [leaf_word]
  simp only
  rw [e, hi]
  rfl
theorem leaf_out (h : NdF n) (hi : n.inner = false) (h0 : n.lo ≤ addr) (hn : ∀ i, i < n.ends.length → ¬ (n.at i ≤ addr ∧ addr < nth n.ends i)) : (findW [packN n] addr 8 65537).1.2 = false := by
  have key : ∀ i, i ≤ n.ends.length → n.at i ≤ addr := by
    intro i
    induction i with
    | zero => intro _; exact h0
    | succ i ih =>
      intro hl
      have h1 := ih (by omega)
      have h2 := hn i (by omega)
      have h3 : n.at (i + 1) = nth n.ends i := by unfold Nd.at; rw [if_neg (by omega)]; rfl
      omega
  have e := (look_pack h.cnt addr).2 (fun j hj => by
    have := key (j + 1) (by omega)
    have h3 : n.at (j + 1) = nth n.ends j := by unfold Nd.at; rw [if_neg (by omega)]; rfl
    omega)
  unfold findW
  rw [leaf_word]
  simp only
  rw [e]
  rfl
theorem leaf_ent (hc : n.slots.length = n.ends.length) (i : Nat) (hl : i < n.ends.length) : (leafE n.lo (n.ends.zip n.slots)).getD i ⟨0, 0, 0⟩ = ⟨n.at i, nth n.ends i, nth n.slots i⟩ := by
  have hz : ∀ k, k < n.ends.length → (n.ends.zip n.slots).getD k (0, 0) = (nth n.ends k, nth n.slots k) := fun k hk => by
    rw [List.getD_eq_getElem?_getD, List.getElem?_eq_getElem (by simp; omega), List.getElem_zip]
    unfold nth
    rw [List.getD_eq_getElem?_getD, List.getElem?_eq_getElem hk, List.getD_eq_getElem?_getD, List.getElem?_eq_getElem (by omega)]
    rfl
  rw [leafE_at _ _ _ (by simp; omega), hz i hl]
  unfold Nd.at
  by_cases h0 : i = 0
  · rw [if_pos h0, if_pos h0]
  · rw [if_neg h0, if_neg h0, hz (i - 1) (by omega)]
theorem leaf_len (hc : n.slots.length = n.ends.length) : (leafE n.lo (n.ends.zip n.slots)).length = n.ends.length := by rw [leafE_len]; simp [hc]
end

set_option maxHeartbeats 4000000 in
theorem walkAgrees_no {n : Nd} {x y z : Value} {addr : Int} (w : World) (h : NdIn w n x y z) (he : n.ends.length ≤ 9223372036854775807) (hs : n.slots.length ≤ 9223372036854775807) (hg : n.gaps.length ≤ 9223372036854775807) (hn : ¬ (n.ends.length ≤ 20 ∧ n.slots.length ≤ 20 ∧ n.gaps.length ≤ 20 ∧ n.inner = false ∧ NdF n)) :
    Calls Try.prog 5 #[n.val x y z, .int .i64 addr] w fun e w' => e = .returned (.bool true) ∧ Below w.heap.size w w' := by
  have hnot : ∀ (x : Bool) (w : World), (Op.unary .not (.bool x)).run Try.prog w = .ok (.bool (!x)) w := fun _ _ => rfl
  have G := Lib.hid ((Bag.new w).add 50 (n.cells x y z))
  have CF : Hid (n.ends.length ≤ 20 → n.slots.length ≤ 20 → n.gaps.length ≤ 20 → n.inner = false → ∀ W, Below w.heap.size w W → Calls Try.prog 15 #[n.val x y z] W fun e w' => e = .returned (.bool false) ∧ Below W.heap.size W w') := Lib.hid (fun h1 h2 h3 h4 W hb => refFormedN_c (h.still hb) (r := false) ⟨(fun e => by cases e), fun f => absurd ⟨h1, h2, h3, h4, f⟩ hn⟩)
  obtain ⟨A, c, rfl⟩ := h.we.is
  obtain ⟨A', c', rfl⟩ := h.ws.is
  obtain ⟨A'', c'', rfl⟩ := h.wg.is
  clear h hn
  unfold Nd.val Nd.cells at *
  generalize n.ends.length = L1 at *
  generalize n.slots.length = L2 at *
  generalize n.gaps.length = L3 at *
  go_enter Try.func5, Try.ntmps5
  go_upto_region 1 with (fail)
  generalize w.alloc _ = wA at *
  go_wp2_with fail
  refine (walk_awake _).mono ?_
  rintro e w1 ⟨rfl, hb1⟩
  have G := Lib.hid (G.out.still hb1)
  clear hb1
  obtain ⟨d0, d1, d2, d3, d4⟩ := row5 G.out.v0
  have FIN : Hid (∀ W, Below w1.heap.size w1 W → Calls Try.prog 7 #[] W fun e w' => e = .returned (.bool true) ∧ Below w.heap.size w w') := Lib.hid (fun W hb => (walk_awake W).mono (fun e w' ⟨h1, h2⟩ => ⟨h1, below_then (below_then G.out.bel hb (Nat.le_refl _)) h2 (Nat.le_refl _)⟩))
  by_cases n1 : 20 < L1
  · have i1 : decide ((20 : Int) < (L1 : Int)) = true := decide_eq_true (by omega)
    clear G CF
    go_wp2_with fail
    refine (FIN.out _ (Below.refl _ _)).mono ?_
    rintro e w2 ⟨rfl, hb⟩
    have B := Lib.hid hb
    clear hb
    go_wp2_with fail
    go_ret
    exact ⟨rfl, B.out⟩
  · have i1 : decide ((20 : Int) < (L1 : Int)) = false := decide_eq_false (by omega)
    by_cases n2 : 20 < L2
    · have i2 : decide ((20 : Int) < (L2 : Int)) = true := decide_eq_true (by omega)
      clear G CF
      go_wp2_with fail
      refine (FIN.out _ (Below.refl _ _)).mono ?_
      rintro e w2 ⟨rfl, hb⟩
      have B := Lib.hid hb
      clear hb
      go_wp2_with fail
      go_ret
      exact ⟨rfl, B.out⟩
    · have i2 : decide ((20 : Int) < (L2 : Int)) = false := decide_eq_false (by omega)
      by_cases n3 : 20 < L3
      · have i3 : decide ((20 : Int) < (L3 : Int)) = true := decide_eq_true (by omega)
        clear G CF
        go_wp2_with fail
        refine (FIN.out _ (Below.refl _ _)).mono ?_
        rintro e w2 ⟨rfl, hb⟩
        have B := Lib.hid hb
        clear hb
        go_wp2_with fail
        go_ret
        exact ⟨rfl, B.out⟩
      · have i3 : decide ((20 : Int) < (L3 : Int)) = false := decide_eq_false (by omega)
        cases hin : n.inner with
        | true =>
          rw [hin] at d0
          clear G CF
          go_wp2_with fail
          refine (FIN.out _ (Below.refl _ _)).mono ?_
          rintro e w2 ⟨rfl, hb⟩
          have B := Lib.hid hb
          clear hb
          go_wp2_with fail
          go_ret
          exact ⟨rfl, B.out⟩
        | false =>
          rw [hin] at d0
          have CG := Lib.hid (CF.out (by omega) (by omega) (by omega) hin w1 G.out.bel)
          rw [hin] at CG
          clear G CF
          go_wp2_with fail
          refine CG.out.mono ?_
          rintro e w2 ⟨rfl, hb⟩
          have FN := Lib.hid (FIN.out _ hb)
          clear hb CG FIN d0 d1 d2 d3 d4
          go_wp2_with fail
          refine FN.out.mono ?_
          rintro e w3 ⟨rfl, hb⟩
          have B := Lib.hid hb
          clear hb FN
          go_wp2_with fail
          go_ret
          exact ⟨rfl, B.out⟩

/-- Variables beside the memory and the arena. -/
theorem bag_goer {w wr w' : World} {l : List (Nat × TypeId × Array Value)} {mb mg ab ag : Nat} (h : Bag w wr l) (ho : Only (fun k => CTwo mb mg k ∨ ArTwo ab ag k) wr w') (hl : ∀ x ∈ l, ¬ (CTwo mb mg x.1 ∨ ArTwo ab ag x.1)) (hm : w.heap.size ≤ mb ∧ w.heap.size ≤ mg ∧ w.heap.size ≤ ab ∧ w.heap.size ≤ ag) : Bag w w' l := by
  refine h.only ho hl (fun k hk => ?_)
  rcases hk with (h5 | h5) | (h5 | h5) <;> omega
/-- What lies there while the entries are looked at. -/
structure AgAt (W : World) (qn qr qs L1 c1 L2 c2 L3 c3 : Nat) (X Y Z B1 B2 B3 B4 : Option Addr) (d1 d2 d3 d4 base : Nat) (lo H : Int) (O : Bool) (es : List En) : Prop where
  nv : Whole W qn 50 #[.bool false, .int .i64 lo, .slice X L1 c1, .slice Y L2 c2, .slice Z L3 c3]
  rv : Whole W qr 33 #[.int .i64 H, .bool O, .slice B1 0 d1, .slice B2 0 d2]
  sv : Whole W qs 33 #[.int .i64 0, .bool true, .slice B3 L1 d3, .slice B4 1 d4]
  me : Mes base W (.slice B3 L1 d3) es
  len : es.length = L1
theorem AgAt.still {W W' : World} {qn qr qs L1 c1 L2 c2 L3 c3 : Nat} {X Y Z B1 B2 B3 B4 : Option Addr} {d1 d2 d3 d4 base : Nat} {lo H : Int} {O : Bool} {es : List En} (h : AgAt W qn qr qs L1 c1 L2 c2 L3 c3 X Y Z B1 B2 B3 B4 d1 d2 d3 d4 base lo H O es) (hb : Below W.heap.size W W') : AgAt W' qn qr qs L1 c1 L2 c2 L3 c3 X Y Z B1 B2 B3 B4 d1 d2 d3 d4 base lo H O es :=
  ⟨h.nv.below hb h.nv.lt, h.rv.below hb h.rv.lt, h.sv.below hb h.sv.lt, h.me.still hb, h.len⟩
set_option maxRecDepth 4000 in
set_option maxHeartbeats 8000000 in
theorem walkAgrees_yes {n : Nd} {x y z : Value} {addr : Int} (w : World) (h : NdIn w n x y z) (hF : NdF n) (hi : n.inner = false) (fs : Fits n.slots) :
    Calls Try.prog 5 #[n.val x y z, .int .i64 addr] w fun e w' => e = .returned (.bool true) ∧ Below w.heap.size w w' := by
  have hnot : ∀ (x : Bool) (w : World), (Op.unary .not (.bool x)).run Try.prog w = .ok (.bool (!x)) w := fun _ _ => rfl
  have G := Lib.hid ((Bag.new w).add 50 (n.cells x y z))
  have CF : Hid (∀ W, Below w.heap.size w W → Calls Try.prog 15 #[n.val x y z] W fun e w' => e = .returned (.bool true) ∧ Below W.heap.size W w') := Lib.hid (fun W hb => refFormedN_c (h.still hb) (r := true) ⟨fun _ => hF, fun _ => rfl⟩)
  have CP : Hid (∀ W, Below w.heap.size w W → Calls Try.prog 16 #[n.val x y z] W fun e w' => ∃ v', e = .returned v' ∧ Wds w' v' (packN n) ∧ Below W.heap.size W w') := Lib.hid (fun W hb => refPackN_c (h.still hb) hF.cnt)
  have HX := Lib.hid (pack_len hF.cnt)
  have HP := Lib.hid (fits_pack hF fs)
  have HT := Lib.hid (thru_one hF hi)
  have HIN := Lib.hid (fun i hl h1 h2 => leaf_in (addr := addr) hF hi i hl h1 h2)
  have HOUT := Lib.hid (fun h0 hn => leaf_out (addr := addr) hF hi h0 hn)
  have HEN := Lib.hid (fun i hl => leaf_ent (n := n) hF.cnt.sl i hl)
  have HLN := Lib.hid (leaf_len (n := n) hF.cnt.sl)
  obtain ⟨A, c, rfl⟩ := h.we.is
  obtain ⟨A', c', rfl⟩ := h.ws.is
  obtain ⟨A'', c'', rfl⟩ := h.wg.is
  have h8 := hF.cnt.few
  have i1 : decide ((20 : Int) < (n.ends.length : Int)) = false := decide_eq_false (by omega)
  have i2 : decide ((20 : Int) < (n.slots.length : Int)) = false := decide_eq_false (by have := hF.cnt.sl; omega)
  have i3 : decide ((20 : Int) < (n.gaps.length : Int)) = false := decide_eq_false (by have := hF.cnt.gl; omega)
  clear h hF fs
  unfold Nd.val Nd.cells at *
  rw [hi] at G CF CP ⊢
  generalize leafE n.lo (n.ends.zip n.slots) = es at *
  generalize packN n = pk at *
  obtain ⟨fw, hfw⟩ : ∃ fw, findW [pk] addr 8 65537 = fw := ⟨_, rfl⟩
  rw [hfw] at HIN HOUT
  have HFW := Lib.hid hfw
  clear hfw
  obtain ⟨⟨fh, fo⟩, fk⟩ := fw
  obtain ⟨inner, lo, ends, slots, gaps⟩ := n
  simp only at *
  obtain ⟨L1, hL1⟩ : ∃ L1, ends.length = L1 := ⟨_, rfl⟩
  obtain ⟨L2, hL2⟩ : ∃ L2, slots.length = L2 := ⟨_, rfl⟩
  obtain ⟨L3, hL3⟩ : ∃ L3, gaps.length = L3 := ⟨_, rfl⟩
  rw [hL1] at G CF CP HT HIN HOUT HEN HLN i1 h8 ⊢
  rw [hL2] at G CF CP i2 ⊢
  rw [hL3] at G CF CP i3 ⊢
  clear hL1 hL2 hL3 hi
  go_enter Try.func5, Try.ntmps5
  go_upto_region 1 with (fail)
  have GS : Hid (w.heap.size < (w.alloc (.cells #[.bool false, .int .i64 lo, .slice A L1 c, .slice A' L2 c', .slice A'' L3 c''] 50)).heap.size) := Lib.hid (by simp)
  generalize w.alloc _ = wA at *
  obtain ⟨qn, hqn⟩ : ∃ qn, w.heap.size = qn := ⟨_, rfl⟩
  rw [hqn] at G GS ⊢
  have HQN := Lib.hid hqn
  clear hqn
  go_wp2_with fail
  refine (walk_awake _).mono ?_
  rintro e w1 ⟨rfl, hb1⟩
  have G := Lib.hid (G.out.still hb1)
  have CG := Lib.hid (CF.out w1 G.out.bel)
  have GS := Lib.hid (Nat.lt_of_lt_of_le GS.out hb1.size)
  clear hb1 CF
  obtain ⟨d0, d1, d2, d3, d4⟩ := row5 G.out.v0
  go_wp2_with fail
  refine CG.out.mono ?_
  rintro e w2 ⟨rfl, hb⟩
  have G := Lib.hid (G.out.still hb)
  have GS := Lib.hid (Nat.lt_of_lt_of_le GS.out hb.size)
  clear hb CG d0 d1 d2 d3 d4
  have CQ := Lib.hid (CP.out w2 G.out.bel)
  obtain ⟨d0, d1, d2, d3, d4⟩ := row5 G.out.v0
  clear CP
  go_wp2_with fail
  refine CQ.out.mono ?_
  rintro e w3 ⟨v, rfl, hv, hb⟩
  obtain ⟨B, k, rfl⟩ := hv.is
  rw [HX.out] at hv ⊢
  have SL := Lib.hid (slots_many (wss_one hv) (one28 HX.out) (by simp))
  have hb2 := below_new w3 (.cells #[.slice B 28 k] 31)
  have G := Lib.hid ((G.out.still hb).still hb2)
  have GS := Lib.hid (Nat.lt_of_lt_of_le (Nat.lt_of_lt_of_le GS.out hb.size) hb2.size)
  clear hv hb hb2 CQ d0 d1 d2 d3 d4
  go_wp2_with fail
  refine SL.out.mono ?_
  rintro e w4 ⟨mb, mg, ab, ag, rfl, hm, ha, m1, m2, m3, m4, hb⟩
  have AL := Lib.hid (alone_find (root := 65537) (addr := addr) (one28 HX.out) (one_fit HP.out) (by simp) hm ha (by omega))
  rw [HFW.out] at AL
  simp only at AL
  have MM : Hid (qn < mb ∧ qn < mg ∧ qn < ab ∧ qn < ag) := Lib.hid (by have := GS.out; omega)
  have MW : Hid (w.heap.size ≤ mb ∧ w.heap.size ≤ mg ∧ w.heap.size ≤ ab ∧ w.heap.size ≤ ag) := Lib.hid (by have := MM.out; have := HQN.out; omega)
  have G := Lib.hid (G.out.still hb)
  clear hm ha m1 m2 m3 m4 hb SL GS
  go_wp2_with fail
  refine AL.out.mono ?_
  rintro e w5 ⟨A1, c1, A2, c2, cnt', st', rfl, _, _, hm, hcn, ha, ho, _⟩
  have G := Lib.hid (bag_goer G.out ho (fun x hx => by
    have h1 := MM.out
    simp at hx
    subst hx
    simp only
    rintro ((h5 | h5) | (h5 | h5)) <;> omega) MW.out)
  have LT : Hid (mb < w5.heap.size ∧ mg < w5.heap.size ∧ ab < w5.heap.size ∧ ag < w5.heap.size) := Lib.hid ⟨hm.top.lt, hm.row.lt, ha.top.lt, ha.row.lt⟩
  have AN : Hid (∀ W, Below w5.heap.size w5 W → Calls Try.prog 11 #[.pointer (some ⟨mb, 0, none⟩), .agg #[.pointer (some ⟨ab, 0, none⟩), .int .i64 65537, .int .i64 0, .bool true, .pointer none]] W (ManyPost W mb mg ab ag [pk] cnt' st' ⟨0, true, es, [65537]⟩ (2 + 3 * L1) ((thru (fun h => cellOf 3 [pk].length h) 8 65537 ⟨[], []⟩).reads (manyM [pk] cnt')))) := Lib.hid (fun W hb => by
    have := alone_all (root := 65537) (addr := 0) (one28 HX.out) (one_fit HP.out) (by simp at hcn; omega) (hm.only (Only.of_below hb (fun _ => False)) id id) (ha.still hb) (by omega)
    rw [HT.out] at this
    exact this)
  clear hm ha ho AL hcn
  have hb := below_new w5 (.cells #[.int .i64 fh, .bool fo, .slice A1 0 c1, .slice A2 0 c2] 33)
  have G := Lib.hid (G.out.add 33 #[.int .i64 fh, .bool fo, .slice A1 0 c1, .slice A2 0 c2])
  have AM := Lib.hid (AN.out _ hb)
  clear hb AN
  simp only [List.length_nil]
  obtain ⟨qr, hqr⟩ : ∃ qr, w5.heap.size = qr := ⟨_, rfl⟩
  rw [hqr] at G LT
  go_upto_region 5 with (fail)
  generalize w5.alloc (.cells #[.int .i64 fh, .bool fo, .slice A1 0 c1, .slice A2 0 c2] 33) = wr at *
  go_wp2_with fail
  refine AM.out.mono ?_
  rintro e w6 ⟨B3, d3, B4, d4, cnt2, st2, rfl, hes, _, _, _, _, ho, _⟩
  have G := Lib.hid (bag_goer G.out ho (fun x hx => by
    have h1 := MM.out
    have h2 := LT.out
    simp only [List.mem_cons, List.not_mem_nil, or_false] at hx
    rcases hx with rfl | rfl
    · rintro ((h5 | h5) | (h5 | h5)) <;> (simp only at h5; omega)
    · rintro ((h5 | h5) | (h5 | h5)) <;> (simp only at h5; omega)) MW.out)
  have HES := Lib.hid hes
  clear ho AM hes MM MW LT
  simp only [List.length_cons, List.length_nil, Nat.zero_add] at HES ⊢
  rw [HLN.out] at HES ⊢
  have hb := below_new w6 (.cells #[.int .i64 0, .bool true, .slice B3 L1 d3, .slice B4 1 d4] 33)
  have G := Lib.hid (G.out.add 33 #[.int .i64 0, .bool true, .slice B3 L1 d3, .slice B4 1 d4])
  have AG : Hid (AgAt (w6.alloc (.cells #[.int .i64 0, .bool true, .slice B3 L1 d3, .slice B4 1 d4] 33)) qn qr w6.heap.size L1 c L2 c' L3 c'' A A' A'' A1 A2 B3 B4 c1 c2 d3 d4 wr.heap.size lo fh fo es) := Lib.hid ⟨G.out.v2, G.out.v1, G.out.v0, HES.out.still hb, HLN.out⟩
  have GB := Lib.hid G.out.bel
  clear hb G HES
  go_upto_region 6 with (fail)
  generalize w6.alloc (.cells #[.int .i64 0, .bool true, .slice B3 L1 d3, .slice B4 1 d4] 33) = w7 at *
  generalize w6.heap.size = qs at *
  obtain ⟨z0, z1, z2, z3⟩ := grow4 AG.out.sv
  obtain ⟨d0, d1, d2, d3', d4'⟩ := row5 AG.out.nv
  have jn : ((L1 : Int) != (L1 : Int)) = false := by simp
  go_wp2_with fail
  clear z0 z1 z2 z3 d0 d1 d2 d3' d4' jn
  have EB : Hid (∀ W, Below w7.heap.size w7 W → Below w.heap.size w W) := Lib.hid (fun W hb => below_then GB.out hb (Nat.le_refl _))
  go_loopw [13] (fun iv wr => ∃ i : Nat, i ≤ L1 ∧ iv = .int .i64 i ∧ Below w7.heap.size w7 wr ∧ ∀ j, j < i → ¬ (Nd.at ⟨inner, lo, ends, slots, gaps⟩ j ≤ addr ∧ addr < nth ends j)) (fun iv _ => L1 - (intOf iv).toNat)
  case atStart => exact ⟨0, by omega, rfl, Below.refl _ _, fun j hj => by omega⟩
  case round =>
    obtain ⟨i, hi, rfl, hb, hj⟩ := hrel
    have HB := Lib.hid hb
    have HJ := Lib.hid hj
    have A7 := Lib.hid (AG.out.still hb)
    clear hb hj
    obtain ⟨z0, z1, z2, z3⟩ := grow4 A7.out.sv
    have hi8 : (i : Int) ≤ 8 := by omega
    by_cases hlt : i < L1
    · have hltI : (i : Int) < (L1 : Int) := by omega
      have hes := A7.out.me
      have hE := HEN.out i hlt
      have hln := A7.out.len
      obtain ⟨g, cc, e, c0, c1', c2'⟩ := Mes.at hes i (by omega)
      rw [hln] at e
      injection e with e1 e2 e3
      subst e1 e3
      rw [hE] at c0 c1' c2'
      simp only at c0 c1' c2'
      clear hes hE hln e2
      have HI := Lib.hid (HIN.out i hlt)
      generalize hAT : Nd.at ⟨inner, lo, ends, slots, gaps⟩ i = AT at *
      have HAT := Lib.hid hAT
      generalize hEN : nth ends i = EN at *
      have HEE := Lib.hid hEN
      generalize nth slots i = SN at *
      clear hAT hEN
      have OB := Lib.hid (fun o => below_then HB.out (below_new wr o) (Nat.le_refl _))
      obtain ⟨y0, y1, y2, y3⟩ := grow4 A7.out.rv
      have x0 : (wr.alloc (.cells #[.int .i64 AT, .int .i64 EN, .int .i64 SN] 47)).cell? ⟨qr, 0, none⟩ = some (.int .i64 fh) := box_cell _ _ _ _ y0
      have x1 : (wr.alloc (.cells #[.int .i64 AT, .int .i64 EN, .int .i64 SN] 47)).cell? ⟨qr, 1, none⟩ = some (.bool fo) := box_cell _ _ _ _ y1
      clear y0 y1 y2 y3 A7
      by_cases hlo1 : AT ≤ addr
      · by_cases hhi1 : addr < EN
        · have e := HI.out hlo1 hhi1
          injection e with e1 e2
          subst e1 e2
          have FX := Lib.hid (fun o => EB.out _ (OB.out o))
          have jj : (fh == fh) = true := by simp
          clear HI HIN HOUT OB EB AG HB HJ GB HEE HAT HEN
          go_wp2_with fail
          go_ret
          exact ⟨rfl, FX.out _⟩
        · have NJ : Hid (∀ j, j < i + 1 → ¬ (Nd.at ⟨inner, lo, ends, slots, gaps⟩ j ≤ addr ∧ addr < nth ends j)) := Lib.hid (fun j hj => by
            by_cases e : j = i
            · subst e; rw [HAT.out, HEE.out]; exact fun hh => hhi1 hh.2
            · exact HJ.out j (by omega))
          clear HI HJ HB
          go_wp2_with fail
          go_roundw
          case rel => exact ⟨i + 1, by omega, by go_num, OB.out _, NJ.out⟩
          case measure => simp [intOf]; omega
      · have NJ : Hid (∀ j, j < i + 1 → ¬ (Nd.at ⟨inner, lo, ends, slots, gaps⟩ j ≤ addr ∧ addr < nth ends j)) := Lib.hid (fun j hj => by
          by_cases e : j = i
          · subst e; rw [HAT.out, HEE.out]; exact fun hh => hlo1 hh.1
          · exact HJ.out j (by omega))
        clear HI HJ HB
        go_wp2_with fail
        go_roundw
        case rel => exact ⟨i + 1, by omega, by go_num, OB.out _, NJ.out⟩
        case measure => simp [intOf]; omega
    · have hiL : i = L1 := by omega
      subst hiL
      obtain ⟨y0, y1, y2, y3⟩ := grow4 A7.out.rv
      obtain ⟨d0, d1, d2, d3', d4'⟩ := row5 A7.out.nv
      have FX := Lib.hid (EB.out _ HB.out)
      by_cases hlo1 : addr < lo
      · have j1 : decide (addr < lo) = true := decide_eq_true hlo1
        clear HIN HOUT EB AG HB HJ GB HEN A7
        cases fo with
        | true =>
          go_wp2_with fail
          go_ret
          exact ⟨rfl, FX.out⟩
        | false =>
          go_wp2_with fail
          go_ret
          exact ⟨rfl, FX.out⟩
      · have e := HOUT.out (by omega) (fun j hj => HJ.out j hj)
        subst e
        clear HIN HOUT EB AG HB HJ GB HEN A7
        go_wp2_with fail
        go_ret
        exact ⟨rfl, FX.out⟩
theorem walkAgrees_any {n : Nd} {x y z : Value} {addr : Int} (w : World) (h : NdIn w n x y z) (he : n.ends.length ≤ 9223372036854775807) (hs : n.slots.length ≤ 9223372036854775807) (hg : n.gaps.length ≤ 9223372036854775807) (fs : Fits n.slots) :
    Calls Try.prog 5 #[n.val x y z, .int .i64 addr] w fun e w' => e = .returned (.bool true) ∧ Below w.heap.size w w' := by
  by_cases hF : NdF n ∧ n.inner = false
  · exact walkAgrees_yes w h hF.1 hF.2 fs
  · exact walkAgrees_no w h he hs hg (fun h => hF ⟨h.2.2.2.2, h.2.2.2.1⟩)
end Go.Proofs.Ytlhjimkfcchdaaa
