/-
  Of whatever words in slots: a tree's entries and its nodes are the reference's, or there is none: the law's walk.
-/
import Derived.Test.YtlhjimkfcchdaaaWalkFindsWalk
import Derived.Test.YtlhjimkfcchdaaaPkZg
import Derived.Test.YtlhjimkfcchdaaaPkWa
namespace Go.Proofs.Ytlhjimkfcchdaaa
open Go.ChangeShapes Go.WideShapes Go.ChangeAt Go.RowKit
set_option linter.unusedVariables false

/-- A new tree. -/
theorem dn_new (w : World) (base : Nat) : DnAt (w.alloc (.cells #[.slice none 0 0, .slice none 0 0, .int .i64 0] 43)) base w.heap.size (.slice none 0 0) (.slice none 0 0) 0 ⟨[], []⟩ := ⟨Whole.new _ _ _, Mes.nil _ _, Mw.nil _ _⟩
theorem row3 {w : World} {q : Nat} {t : TypeId} {y0 y1 y2 : Value} (h : Whole w q t #[y0, y1, y2]) : w.cell? ⟨q, 0, none⟩ = some y0 ∧ w.cell? ⟨q, 1, none⟩ = some y1 ∧ w.cell? ⟨q, 2, none⟩ = some y2 := ⟨h.cell 0, h.cell 1, h.cell 2⟩
theorem mes_cell {base g c : Nat} {w : World} {l : List En} (h : Mes base w (.slice (some ⟨g, 0, none⟩) l.length c) l) (i : Nat) (hi : i < l.length) : w.cell? ⟨g, i * 3, none⟩ = some (.int .i64 (l.getD i ⟨0, 0, 0⟩).lo) ∧ w.cell? ⟨g, i * 3 + 1, none⟩ = some (.int .i64 (l.getD i ⟨0, 0, 0⟩).hi) ∧ w.cell? ⟨g, i * 3 + 2, none⟩ = some (.int .i64 (l.getD i ⟨0, 0, 0⟩).h) := by
  obtain ⟨g', c', e, h1, h2, h3⟩ := h.at i hi
  injection e with e1 _ _
  injection e1 with e1
  injection e1 with e1
  subst e1
  exact ⟨h1, h2, h3⟩
/-- What lies there while the entries are compared. -/
structure GoAt (W : World) (qr qt L c1 M c2 k1 k2 st b1 b2 : Nat) (A1 A2 E1 E2 : Option Addr) (es : List En) : Prop where
  rv : Whole W qr 33 #[.int .i64 0, .bool true, .slice A1 L c1, .slice A2 M c2]
  tv : Whole W qt 43 #[.slice E1 L k1, .slice E2 M k2, .int .i64 (st : Int)]
  e1 : Mes b1 W (.slice A1 L c1) es
  e2 : Mes b2 W (.slice E1 L k1) es
  len : es.length = L
theorem GoAt.still {W W' : World} {qr qt L c1 M c2 k1 k2 st b1 b2 : Nat} {A1 A2 E1 E2 : Option Addr} {es : List En} (h : GoAt W qr qt L c1 M c2 k1 k2 st b1 b2 A1 A2 E1 E2 es) (hb : Below W.heap.size W W') : GoAt W' qr qt L c1 M c2 k1 k2 st b1 b2 A1 A2 E1 E2 es :=
  ⟨h.rv.below hb h.rv.lt, h.tv.below hb h.tv.lt, h.e1.still hb, h.e2.still hb, h.len⟩
set_option maxRecDepth 4000 in
set_option maxHeartbeats 8000000 in
theorem walkGoes_any {v : Value} {ls : List (List Int)} {root : Int} (w : World) (h : Wss w v ls) (hf : ∀ i, i < ls.length → Fits (ls.getD i [])) (h1 : -9223372036854775808 ≤ root) (h2 : root ≤ 9223372036854775807) :
    Calls Try.prog 4 #[v, .int .i64 root] w fun e w' => e = .returned (.bool true) ∧ Below w.heap.size w w' := by
  have hnot : ∀ (x : Bool) (w : World), (Op.unary .not (.bool x)).run Try.prog w = .ok (.bool (!x)) w := fun _ _ => rfl
  obtain ⟨R, hR⟩ : ∃ R : Ending → World → Prop, (fun e w' => e = .returned (.bool true) ∧ Below w.heap.size w w') = R := ⟨_, rfl⟩
  rw [hR]
  have FIN : Hid (∀ W, Below w.heap.size w W → R (.returned (.bool true)) W) := Lib.hid (fun W hb => by rw [← hR]; exact ⟨rfl, hb⟩)
  clear hR
  have HW := Lib.hid h
  have HF := Lib.hid hf
  have HR := Lib.hid (And.intro h1 h2)
  obtain ⟨A, c, rfl, _, _⟩ := h
  generalize hn : ls.length = n at *
  have HN := Lib.hid hn
  clear hn hf h1 h2
  go_enter Try.func4, Try.ntmps4
  go_wp2_with fail
  refine (walk_awake _).mono ?_
  rintro e w1 ⟨rfl, hb1⟩
  have B1 := Lib.hid hb1
  have FC := Lib.hid (few17_c (HW.out.still hb1))
  clear hb1
  go_wp2_with fail
  refine FC.out.mono ?_
  rintro e w2 ⟨r, rfl, hr, rfl⟩
  have RR := Lib.hid hr
  clear hr FC
  cases r with
  | false =>
    clear RR HW HF
    go_wp2_with fail
    refine (walk_awake _).mono ?_
    rintro e w3 ⟨rfl, hb3⟩
    have FX := Lib.hid (FIN.out _ (below_then B1.out hb3 (Nat.le_refl _)))
    clear hb3 FIN B1
    go_wp2_with fail
    exact FX.out
  | true =>
    obtain ⟨q8, q60⟩ := RR.out rfl
    have WC := Lib.hid (words17_c (HW.out.still B1.out) q8 q60)
    have h8 : n ≤ 8 := by rw [← HN.out]; exact q8
    have HX28 := Lib.hid (map28 ls)
    have HXF := Lib.hid (map_fits (ls := ls) (by rw [HN.out]; exact HF.out))
    have HXN : Hid ((ls.map w28).length = n) := Lib.hid (by rw [List.length_map]; exact HN.out)
    clear RR HW HF q8 q60 HN
    generalize ls.map w28 = X at *
    go_wp2_with fail
    refine WC.out.mono ?_
    rintro e w3 ⟨v', rfl, hv, hb3⟩
    have B3 := Lib.hid (below_then B1.out hb3 (Nat.le_refl _))
    have HV := Lib.hid hv
    obtain ⟨A', c', rfl, _, _⟩ := hv
    have SL := Lib.hid (slots_many HV.out HX28.out (by rw [HXN.out]; omega))
    rw [HXN.out] at HV SL ⊢
    clear hb3 WC B1
    go_wp2_with fail
    refine SL.out.mono ?_
    rintro e w4 ⟨mb, mg, ab, ag, rfl, hm, ha, m1, m2, m3, m4, hb4⟩
    have AL := Lib.hid (alone_all (cnt := (28 * n : Nat)) (root := root) (addr := 0) HX28.out HXF.out (by omega) (by exact hm) (by rw [HXN.out]; exact ha) HR.out.2)
    have MM : Hid (w3.heap.size ≤ mb ∧ w3.heap.size ≤ mg ∧ w3.heap.size ≤ ab ∧ w3.heap.size ≤ ag) := Lib.hid ⟨m1, m2, m3, m4⟩
    have B4 := Lib.hid hb4
    clear hm ha m1 m2 m3 m4 hb4 SL
    go_wp2_with fail
    refine AL.out.mono ?_
    rintro e w5 ⟨A1, c1, A2, c2, cnt', st', rfl, hes, hns, _, _, _, ho, _⟩
    have B5 := Lib.hid (many_below B4.out ho MM.out)
    have HES := Lib.hid hes
    have HNS := Lib.hid hns
    have HSZ : Hid (w3.heap.size ≤ w4.heap.size) := Lib.hid B4.out.size
    clear ho AL B4 MM hes hns
    have DW : Hid (∀ sb w6, w3.heap.size ≤ sb → Below w3.heap.size w3 w6 → DnAt w6 w3.heap.size sb (.slice none 0 0) (.slice none 0 0) 0 ⟨[], []⟩ → Calls Try.prog 13 #[.pointer (some ⟨sb, 0, none⟩), .slice A' n c', .int .i64 root, .int .i64 8] w6 (DnPost w6 w3.heap.size sb (.slice none 0 0) (.slice none 0 0) ((thruW X 8 root ⟨[], []⟩).1, (thruW X 8 root ⟨[], []⟩).2))) := Lib.hid (fun sb w6 hsb hb hd => by
      have := down_c (sb := sb) HXN.out h8 HV.out HX28.out HXF.out hsb 8 (Nat.le_refl _) w6 _ _ ⟨[], []⟩ 0 root hb hd HR.out.1 HR.out.2 (by simp) (by simp) (by simp)
      rw [Nat.zero_add] at this
      exact this)
    clear HV HX28 HXF HXN
    generalize thruW X 8 root ⟨[], []⟩ = T at *
    obtain ⟨ans, st⟩ := T
    simp only at HES HNS
    cases ans with
    | none =>
      simp only [allR, Gr.nil, List.length_nil] at HES HNS ⊢
      have hb6 := below_new w5 (.cells #[.int .i64 0, .bool false, .slice A1 0 c1, .slice A2 0 c2] 33)
      have V6 := Whole.new w5 33 #[.int .i64 0, .bool false, .slice A1 0 c1, .slice A2 0 c2]
      have hb7 := below_new (w5.alloc (.cells #[.int .i64 0, .bool false, .slice A1 0 c1, .slice A2 0 c2] 33)) (.cells #[.slice none 0 0, .slice none 0 0, .int .i64 0] 43)
      have V7 := Lib.hid (V6.below hb7 V6.lt)
      have B7 := Lib.hid (below_then B5.out (below_then hb6 hb7 (Nat.le_refl _)) (Nat.le_refl _))
      have DC := Lib.hid (DW.out _ _ (by have := B5.out.size; simp; omega) B7.out (dn_new _ _))
      simp only [World.size_alloc] at DC
      have HNE : Hid (w5.heap.size ≠ w5.heap.size + 1) := Lib.hid (by omega)
      have HQT : Hid (w3.heap.size ≤ w5.heap.size + 1) := Lib.hid (by have := B5.out.size; omega)
      clear hb6 V6 hb7 DW HES HNS
      go_upto_region 7 with (fail)
      obtain ⟨wB, hwB⟩ : ∃ wB, (w5.alloc (.cells #[.int .i64 0, .bool false, .slice A1 0 c1, .slice A2 0 c2] 33)).alloc (.cells #[.slice none 0 0, .slice none 0 0, .int .i64 0] 43) = wB := ⟨_, rfl⟩
      rw [hwB] at V7 B7 DC ⊢
      clear hwB
      generalize w5.heap.size + 1 = qt at *
      generalize w5.heap.size = qr at *
      go_wp2_with fail
      refine DC.out.mono ?_
      rintro e w8 ⟨ev, nv, rfl, mo, tp, _⟩
      have B8 := Lib.hid (below_then B3.out (mo.below B7.out (fun k hk => by
        have h1 := HSZ.out
        rcases hk with rfl | hk | hk
        · have := HQT.out; omega
        · simp [Value.ownBlock] at hk
        · simp [Value.ownBlock] at hk)) (Nat.le_refl _))
      obtain ⟨z0, z1, z2, z3⟩ := grow4 (V7.out.only mo.only (fun hk => by
        rcases hk with hk | hk | hk
        · exact HNE.out hk
        · simp [Value.ownBlock] at hk
        · simp [Value.ownBlock] at hk))
      obtain ⟨t0, t1, t2⟩ := row3 tp
      have FX := Lib.hid (FIN.out _ B8.out)
      have jk : ((st : Int) != (st : Int)) = false := by simp
      clear mo tp DC B7 B8 V7 FIN B3 HR
      go_wp2_with fail
      exact FX.out
    | some s =>
      simp only [allR] at HES HNS ⊢
      obtain ⟨L, hL⟩ : ∃ L, s.es.length = L := ⟨_, rfl⟩
      obtain ⟨M, hM⟩ : ∃ M, s.ns.length = M := ⟨_, rfl⟩
      rw [hL] at HES ⊢
      rw [hM] at HNS ⊢
      have hb6 := below_new w5 (.cells #[.int .i64 0, .bool true, .slice A1 L c1, .slice A2 M c2] 33)
      have V6 := Whole.new w5 33 #[.int .i64 0, .bool true, .slice A1 L c1, .slice A2 M c2]
      have hb7 := below_new (w5.alloc (.cells #[.int .i64 0, .bool true, .slice A1 L c1, .slice A2 M c2] 33)) (.cells #[.slice none 0 0, .slice none 0 0, .int .i64 0] 43)
      have V7 := Lib.hid (V6.below hb7 V6.lt)
      have hb57 := below_then hb6 hb7 (Nat.le_refl _)
      have B7 := Lib.hid (below_then B5.out hb57 (Nat.le_refl _))
      have LTE := Lib.hid (fun k hk => (World.ownsRow.lt HES.out k hk).2)
      have LTN := Lib.hid (fun k hk => (World.ownsRow.lt HNS.out k hk).2)
      have HES := Lib.hid (HES.out.still hb57)
      have HNS := Lib.hid (HNS.out.still hb57)
      have DC := Lib.hid (DW.out _ _ (by have := B5.out.size; simp; omega) B7.out (dn_new _ _))
      simp only [World.size_alloc] at DC
      have HNE : Hid (w5.heap.size ≠ w5.heap.size + 1) := Lib.hid (by omega)
      have HQT : Hid (w3.heap.size ≤ w5.heap.size + 1) := Lib.hid (by have := B5.out.size; omega)
      have HLT : Hid (w5.heap.size < w5.heap.size + 1) := Lib.hid (by omega)
      clear hb6 V6 hb7 hb57 DW
      go_upto_region 7 with (fail)
      obtain ⟨wB, hwB⟩ : ∃ wB, (w5.alloc (.cells #[.int .i64 0, .bool true, .slice A1 L c1, .slice A2 M c2] 33)).alloc (.cells #[.slice none 0 0, .slice none 0 0, .int .i64 0] 43) = wB := ⟨_, rfl⟩
      rw [hwB] at V7 B7 DC HES HNS ⊢
      clear hwB
      generalize w5.heap.size + 1 = qt at *
      generalize w5.heap.size = qr at *
      go_wp2_with fail
      refine DC.out.mono ?_
      rintro e w8 ⟨ev, nv, rfl, mo, tp, se⟩
      obtain ⟨hse, h64, h8s, _⟩ := se s rfl
      have H64 := Lib.hid h64
      have HES8 : Hid (L ≤ 8 * s.ns.length) := Lib.hid (by rw [← hL]; exact h8s)
      obtain ⟨E1, k1, rfl⟩ := hse.es.is
      obtain ⟨E2, k2, rfl⟩ := own_slice hse.ns
      have hno : ∀ k, SnAll qt (.slice none 0 0) (.slice none 0 0) k → k = qt := fun k hk => by
        rcases hk with hk | hk | hk
        · exact hk
        · simp [Value.ownBlock] at hk
        · simp [Value.ownBlock] at hk
      have B8 := Lib.hid (below_then B3.out (mo.below B7.out (fun k hk => by
        have := hno k hk; have := HQT.out; omega)) (Nat.le_refl _))
      have g1 := hse.es
      have g2 := hse.ns
      unfold Mes at g1
      unfold Mw at g2
      have GA : Hid (GoAt w8 qr qt L c1 M c2 k1 k2 st w4.heap.size w3.heap.size A1 A2 E1 E2 s.es) := Lib.hid
        ⟨V7.out.only mo.only (fun hk => HNE.out (hno _ hk)), by have := hse.top; rw [hL, hM] at this; exact this, HES.out.only mo.only (fun k hk he => by have := hno k he; have := LTE.out k hk; have := HLT.out; omega), by have := hse.es; rw [hL] at this; exact this, hL⟩
      have CS : Hid (Calls Try.prog 14 #[.slice A2 M c2, .slice E2 M k2] w8 fun e w' => e = .returned (.bool true) ∧ Below w8.heap.size w8 w') := Lib.hid (by
        have q1 := (HNS.out.only mo.only (fun k hk he => by have := hno k he; have := LTN.out k hk; have := HLT.out; omega)).wds
        have q2 : Wds w8 (.slice E2 M k2) s.ns := by have := Mw.wds hse.ns; rw [hM] at this; exact this
        exact slSame_c q1 q2 (r := true) ⟨fun _ => rfl, fun _ => rfl⟩ (by omega))
      rw [hL, hM] at tp
      have HTP := Lib.hid tp
      clear g1 g2 hse mo tp se hno DC B7 V7 HES HNS LTE LTN HR
      obtain ⟨z0, z1, z2, z3⟩ := grow4 GA.out.rv
      obtain ⟨t0, t1, t2⟩ := row3 GA.out.tv
      have jk : ((st : Int) != (st : Int)) = false := by simp
      have jl : ((L : Int) != (L : Int)) = false := by simp
      go_wp2_with fail
      refine CS.out.mono ?_
      rintro e w9 ⟨rfl, hb9⟩
      have G9 := Lib.hid (GA.out.still hb9)
      have FX : Hid (∀ W, Below w9.heap.size w9 W → R (.returned (.bool true)) W) := Lib.hid (fun W hb => FIN.out _ (below_then (below_then B8.out hb9 (Nat.le_refl _)) hb (Nat.le_refl _)))
      clear hb9 CS GA z0 z1 z2 z3 t0 t1 t2 FIN B8 HTP jk jl
      go_wp2_with fail
      have HL8 : Hid (L ≤ 512) := Lib.hid (by have := HES8.out; have := H64.out; omega)
      go_loopw [13] (fun iv wr => ∃ i : Nat, i ≤ L ∧ iv = .int .i64 i ∧ Below w9.heap.size w9 wr) (fun iv _ => L - (intOf iv).toNat)
      case atStart => exact ⟨0, by omega, rfl, Below.refl _ _⟩
      case round =>
        obtain ⟨i, hi, rfl, hb⟩ := hrel
        have G7 := Lib.hid (G9.out.still hb)
        have FW := Lib.hid (FX.out _ hb)
        have hL8 : (L : Int) ≤ 512 := by have := HL8.out; omega
        have hi8 : (i : Int) ≤ 512 := by omega
        have DR : Hid (∀ q, Below w9.heap.size w9 (wr.drewN q)) := Lib.hid (fun q => below_drewN hb q)
        clear hb
        obtain ⟨z0, z1, z2, z3⟩ := grow4 G7.out.rv
        obtain ⟨t0, t1, t2⟩ := row3 G7.out.tv
        by_cases hlt : i < L
        · have hltI : (i : Int) < (L : Int) := by omega
          have hln := G7.out.len
          obtain ⟨g, cc, e, c0, c1', c2'⟩ := Mes.at G7.out.e1 i (by omega)
          rw [hln] at e
          injection e with e1 e2 e3
          subst e1 e3
          obtain ⟨g', cc', e', b0, b1', b2'⟩ := Mes.at G7.out.e2 i (by omega)
          rw [hln] at e'
          injection e' with e1' e2' e3'
          subst e1' e3'
          clear e2 e2' hln G7 FW
          generalize s.es.getD i ⟨0, 0, 0⟩ = en at *
          obtain ⟨x0, x1, x2⟩ := en
          simp only at c0 c1' c2' b0 b1' b2'
          go_upto_region 17 with (fail)
          go_quiet (fail)
          go_wp2_with fail
          go_roundw
          case rel => exact ⟨i + 1, by omega, by go_num, DR.out _⟩
          case measure => simp [intOf]; omega
        · have hiL : i = L := by omega
          subst hiL
          clear G7 DR
          go_wp2_with fail
          exact FW.out
end Go.Proofs.Ytlhjimkfcchdaaa
