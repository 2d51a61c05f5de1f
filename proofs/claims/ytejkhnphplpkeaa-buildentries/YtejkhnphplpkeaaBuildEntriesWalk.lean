/-
  Of all lists and handles the entries are the reference's, or none: the law's walk.
-/
import Derived.Test.YtejkhnphplpkeaaPkZv
import Derived.Test.YtejkhnphplpkeaaPkZz
import Derived.Test.YtejkhnphplpkeaaPkZi
import Derived.Test.YtejkhnphplpkeaaPkB
import Derived.BigQuiet
namespace Go.Proofs.Ytejkhnphplpkeaa
open Go.ChangeShapes Go.WideShapes Go.ChangeAt Go.RowKit Go.Shelf
set_option linter.unusedVariables false

set_option maxRecDepth 10000 in
set_option maxHeartbeats 8000000 in
theorem buildEntries_any {w : World} {v hv : Value} {l : List Ar} {hs : List Int} {right : Bool} (h : Holds w v l) (hh : Wds w hv hs) : Calls Try.prog 5 #[v, hv, .bool right] w fun e w' => e = .returned (.bool true) ∧ Below w.heap.size w w' := by
  have hnot : ∀ (x : Bool) (w : World), (Op.unary .not (.bool x)).run Try.prog w = .ok (.bool (!x)) w := fun _ _ => rfl
  obtain ⟨j0, hj0, hjz0, hjz1, hjz2⟩ := wentry_info'
  obtain ⟨R, hR⟩ : ∃ R : Ending → World → Prop, (fun e w' => e = .returned (.bool true) ∧ Below w.heap.size w w') = R := ⟨_, rfl⟩
  rw [hR]
  have FIN : Hid (∀ W, Below w.heap.size w W → R (.returned (.bool true)) W) := Lib.hid (fun W hb => by rw [← hR]; exact ⟨rfl, hb⟩)
  clear hR
  have HS := Lib.hid h
  have HW := Lib.hid hh
  obtain ⟨A, c, rfl, hc, _⟩ := h
  obtain ⟨A', c', rfl, hc', _⟩ := hh
  by_cases h40 : 40 < l.length
  · have j1 : (40 : Int) < (l.length : Int) := by omega
    clear HS HW
    generalize l.length = n at *
    generalize hs.length = m at *
    go_enter Try.func5, Try.ntmps5
    go_wp2_with fail
    refine (awake18_c _).mono ?_
    rintro e w1 ⟨rfl, hb1⟩
    have B1 := Lib.hid hb1
    clear hb1
    go_wp2_with fail
    refine (awake18_c _).mono ?_
    rintro e w2 ⟨rfl, hb2⟩
    have FX := Lib.hid (FIN.out _ (below_then B1.out hb2 (Nat.le_refl _)))
    clear hb2 B1 FIN
    go_wp2_with fail
    exact FX.out
  have j40 : decide ((40 : Int) < (l.length : Int)) = false := decide_eq_false (by omega)
  by_cases h60 : 60 < hs.length
  · have j1 : (60 : Int) < (hs.length : Int) := by omega
    clear HS HW
    generalize l.length = n at *
    generalize hs.length = m at *
    go_enter Try.func5, Try.ntmps5
    go_wp2_with fail
    refine (awake18_c _).mono ?_
    rintro e w1 ⟨rfl, hb1⟩
    have B1 := Lib.hid hb1
    clear hb1
    go_wp2_with fail
    refine (awake18_c _).mono ?_
    rintro e w2 ⟨rfl, hb2⟩
    have FX := Lib.hid (FIN.out _ (below_then B1.out hb2 (Nat.le_refl _)))
    clear hb2 B1 FIN
    go_wp2_with fail
    exact FX.out
  have j60 : decide ((60 : Int) < (hs.length : Int)) = false := decide_eq_false (by omega)
  have CS := Lib.hid (fun (W : World) (hW : Below w.heap.size w W) => some_c (HS.out.still hW) (by omega))
  have SM := Lib.hid (someL_may l).2
  obtain ⟨n, hn⟩ : ∃ n, l.length = n := ⟨_, rfl⟩
  obtain ⟨m, hm⟩ : ∃ m, hs.length = m := ⟨_, rfl⟩
  rw [hn] at h40 j40 hc HS CS ⊢
  rw [hm] at h60 j60 hc' HW ⊢
  have HN := Lib.hid hn
  have HMM := Lib.hid hm
  clear hn hm
  go_enter Try.func5, Try.ntmps5
  go_wp2_with fail
  refine (awake18_c _).mono ?_
  rintro e w1 ⟨rfl, hb1⟩
  have B1 := Lib.hid hb1
  clear hb1
  cases right
  case' false =>
    go_upto_region 7 with (fail)
    have X1 : Hid (Holds w1 (.slice A n c) l) := Lib.hid (HS.out.still B1.out)
    have H1 : Hid (Wds w1 (.slice A' m c') hs) := Lib.hid (HW.out.still B1.out)
    have xn : n ≤ 40 := by omega
    have hm60 : m ≤ 60 := by omega
    have XL : Hid (l.length = n) := HN
    have HLN : Hid (hs.length = m) := HMM
    clear HS HW CS SM HN HMM j40 j60 h40 h60
    obtain ⟨X, hX⟩ : ∃ X, l = X := ⟨_, rfl⟩
    obtain ⟨H, hH⟩ : ∃ H, hs = H := ⟨_, rfl⟩
    rw [hX] at X1 XL
    rw [hH] at H1 HLN
    obtain ⟨w3, hw3⟩ : ∃ W, w1 = W := ⟨_, rfl⟩
    rw [hw3] at X1 H1 B1 ⊢
    have B3 := Lib.hid B1.out
    clear hX hH hw3 B1
  case' true =>
    go_upto_region 6 with (refine (CS.out w1 B1.out).mono ?_; rintro e w2 ⟨vs, rfl, hmine, hb2⟩; obtain ⟨SA, sc, rfl⟩ := hmine.is; have B2 := Lib.hid (below_then B1.out hb2 (Nat.le_refl _)); have S2 := Lib.hid hmine.holds; clear hmine hb2)
    clear HS HW CS HN HMM j40 j60 h40 h60 B1
    obtain ⟨X, hX⟩ : ∃ X, someL l = X := ⟨_, rfl⟩
    rw [hX] at SM S2 ⊢
    clear hX hc hc'
    obtain ⟨n', hn'⟩ : ∃ n, X.length = n := ⟨_, rfl⟩
    rw [hn'] at SM S2 ⊢
    have XL := Lib.hid hn'
    have sm := SM.out
    have xn : n' ≤ 40 := by omega
    have hm60 : n' ≤ 60 := by omega
    have CH : Hid (∀ W, Calls Try.prog 11 #[.int .i64 1, .int .i64 (n' : Int)] W fun e w' => ∃ v, e = .returned v ∧ Mw W.heap.size w' v (handL 1 n') ∧ Below W.heap.size W w') := Lib.hid (fun W => handles_c 1 n' (by omega) (by omega) W)
    clear hn' SM sm
    go_upto_region 7 with (refine (CH.out w2).mono ?_; rintro e w3 ⟨hv3, rfl, hmw, hb3⟩; obtain ⟨HA, hcc, rfl⟩ := own_slice hmw; have B3 := Lib.hid (below_then B2.out hb3 (Nat.le_refl _)); have X1 := Lib.hid (S2.out.still hb3); have H1 := Lib.hid hmw.wds; have HLN := Lib.hid (handL_len 1 n'); clear hmw hb3)
    rw [HLN.out] at H1 ⊢
    clear B2 S2 CH
    obtain ⟨H, hH⟩ : ∃ H, handL 1 n' = H := ⟨_, rfl⟩
    rw [hH] at H1 HLN
    clear hH
  all_goals (
    have CE := Lib.hid (entries18_c X1.out H1.out (by rw [XL.out]; omega) (by rw [HLN.out]; omega))
    have CE2 := Lib.hid (fun (W : World) (hW : Below w3.heap.size w3 W) => refEntries_c (X1.out.still hW) (H1.out.still hW) (by rw [XL.out]; omega))
    by_cases ok : EntOk X H
    · have CM := Lib.hid (fun (W : World) (hW : Below w3.heap.size w3 W) => may18_c (X1.out.still hW) (H1.out.still hW) (by rw [XL.out]; omega) (by rw [HLN.out]; omega) (r := true) ⟨fun _ => ok, fun _ => rfl⟩)
      have hok := ok.2.1
      have EQ : Hid (((entsFrom 65536 (X.zip H)).length) ≤ 200) := Lib.hid (by
        have := (ents_len 65536 (X.zip H)).1
        have hx := XL.out
        rw [List.length_zip] at this
        omega)
      have CE3 := Lib.hid (fun (W : World) (hW : Below w3.heap.size w3 W) => CE2.out W hW hok)
      clear CE2 hok
      go_wp2_with fail
      refine CE.out.mono ?_
      intro e w4 ht
      obtain ⟨gv, rfl, hm4, hb4⟩ := ht.2 ok
      generalize entsFrom 65536 (X.zip H) = E at *
      obtain ⟨GA, gcap, rfl⟩ := own_slice hm4
      have M4 := Lib.hid hm4
      have B4 := Lib.hid hb4
      clear ht hm4 hb4 CE ok X1 H1
      obtain ⟨k, hk⟩ : ∃ k, E.length = k := ⟨_, rfl⟩
      rw [hk] at EQ M4 ⊢
      have KL := Lib.hid hk
      have k200 := EQ.out
      clear hk EQ
      go_wp2_with fail
      refine (CM.out w4 B4.out).mono ?_
      rintro e w5 ⟨rfl, hb5⟩
      have B5 := Lib.hid (below_then B4.out hb5 (Nat.le_refl _))
      have M5 := Lib.hid (own_still M4.out hb5)
      clear hb5 CM B4 M4
      go_wp2_with fail
      refine (CE3.out w5 B5.out).mono ?_
      rintro e w6 ⟨rv, rfl, hm6, hb6⟩
      obtain ⟨RA, rcap, rfl⟩ := own_slice hm6
      have B6 := Lib.hid (below_then B3.out (below_then B5.out hb6 (Nat.le_refl _)) (Nat.le_refl _))
      have M6 := Lib.hid (own_still M5.out hb6)
      have N6 := Lib.hid hm6
      rw [KL.out] at N6 ⊢
      clear hm6 hb6 CE3 B5 M5 B3
      have EV : Hid (∀ W, Below w6.heap.size w6 W → ∀ i, i < k → ∃ g u, GA = some ⟨g, 0, none⟩ ∧ RA = some ⟨u, 0, none⟩ ∧ W.cell? ⟨g, i * 3, none⟩ = some (.int .i64 (enAt E i).lo) ∧ W.cell? ⟨g, i * 3 + 1, none⟩ = some (.int .i64 (enAt E i).hi) ∧ W.cell? ⟨g, i * 3 + 2, none⟩ = some (.int .i64 (enAt E i).h) ∧ W.cell? ⟨u, i * 3, none⟩ = some (.int .i64 (enAt E i).lo) ∧ W.cell? ⟨u, i * 3 + 1, none⟩ = some (.int .i64 (enAt E i).hi) ∧ W.cell? ⟨u, i * 3 + 2, none⟩ = some (.int .i64 (enAt E i).h)) := Lib.hid (fun W hW i hi => by
        have m1 : Mes w3.heap.size W (.slice GA k gcap) E := own_still M6.out hW
        have m2 : Mes w5.heap.size W (.slice RA k rcap) E := own_still N6.out hW
        obtain ⟨g, c1, e1, a0, a1, a2⟩ := m1.at i (by rw [KL.out]; exact hi)
        obtain ⟨u, c2, e2, b0, b1, b2⟩ := m2.at i (by rw [KL.out]; exact hi)
        injection e1 with e1
        injection e2 with e2
        exact ⟨g, u, e1, e2, a0, a1, a2, b0, b1, b2⟩)
      have q0 : ((k : Int) != (k : Int)) = false := bne_self_eq_false _
      clear M6 N6
      go_wp2_with fail
      go_loopw [11] (fun iv wr => ∃ i : Nat, i ≤ k ∧ iv = .int .i64 i ∧ Below w6.heap.size w6 wr) (fun iv _ => k - (intOf iv).toNat)
      case atStart => exact ⟨0, by omega, rfl, Below.refl _ _⟩
      case round =>
        obtain ⟨i, hi, rfl, hb⟩ := hrel
        by_cases hlt : i < k
        · have j1 : (i : Int) < (k : Int) := by omega
          have i200 : (i : Int) ≤ 200 := by omega
          obtain ⟨g, u, rfl, rfl, a0, a1, a2, b0, b1, b2⟩ := EV.out wr hb i hlt
          have HB := Lib.hid (fun q => below_drewN hb q)
          generalize enAt E i = en at *
          obtain ⟨lo, hi', h⟩ := en
          simp only at a0 a1 a2 b0 b1 b2
          clear hb EV
          go_upto_region 16 with (fail)
          go_quiet (fail)
          go_wp2_with fail
          go_roundw
          case rel => exact ⟨i + 1, by omega, by go_num, HB.out _⟩
          case measure => simp [intOf]; omega
        · have e : i = k := by omega
          subst e
          have j1 : ¬ (i : Int) < (i : Int) := by omega
          have FX := Lib.hid (FIN.out _ (below_then B6.out hb (Nat.le_refl _)))
          clear EV B6 hb FIN
          go_wp2_with fail
          exact FX.out
    · have CM := Lib.hid (fun (W : World) (hW : Below w3.heap.size w3 W) => may18_c (X1.out.still hW) (H1.out.still hW) (by rw [XL.out]; omega) (by rw [HLN.out]; omega) (r := false) ⟨fun h => (by cases h), fun h => (ok h).elim⟩)
      clear CE2
      go_wp2_with fail
      refine CE.out.mono ?_
      intro e w4 ht
      obtain ⟨rfl, hb4⟩ := ht.1 ok
      have B4 := Lib.hid hb4
      clear ht hb4 CE ok X1 H1
      go_wp2_with fail
      refine (CM.out w4 B4.out).mono ?_
      rintro e w5 ⟨rfl, hb5⟩
      have FX := Lib.hid (FIN.out w5 (below_then B3.out (below_then B4.out hb5 (Nat.le_refl _)) (Nat.le_refl _)))
      clear hb5 CM B4 B3 FIN
      go_wp2_with fail
      exact FX.out)
end Go.Proofs.Ytejkhnphplpkeaa
