/-
  Layer 16: the walk of the statement on handles that aren't right.
-/
import Derived.Test.YtiiclmaphiajmaaSeekLooksWalk
import Derived.Deep.RegionHeld3
namespace Go.Proofs.Ytiiclmaphiajmaa
open Go.ChangeShapes Go.WideShapes Go.ChangeAt Go.RowKit
set_option linter.unusedVariables false

def staleCs : List Int := (fillTo [nul28, nul28].flatten (28 * 2)).set 3 7
theorem two_flat : [nul28, nul28].flatten.length = 56 := rfl
theorem staleCs_len : staleCs.length = 59 := by
  unfold staleCs
  rw [List.length_set, fillTo_len _ (by rw [two_flat]; omega), two_flat]
theorem staleCs_fits : Fits staleCs := by
  intro i hi
  have h59 : ∀ k, k < 59 → -9223372036854775808 ≤ nth staleCs k ∧ nth staleCs k ≤ 9223372036854775807 := by decide +kernel
  exact h59 i (by rw [staleCs_len] at hi; exact hi)
theorem two_right (h : Int) : rightB (wiOf 2 false).l h = (h == 65537 || h == 65538) := by
  by_cases h1 : h = 65537
  · subst h1
    exact wiOf_right (n := 2) false 0 (by omega)
  · by_cases h2 : h = 65538
    · subst h2
      exact wiOf_right (n := 2) false 1 (by omega)
    · have e : (h == 65537 || h == 65538) = false := by simp [h1, h2]
      rw [e]
      refine right_no (fun i hi hl => ?_)
      have hi2 : i < 2 := hi
      match i, hi2 with
      | 0, _ => exact fun e => h1 e.symm
      | 1, _ => exact fun e => h2 e.symm
/-- Where a word lies, in two slots. -/
theorem two_cell {h word : Int} (hr : h = 65537 ∨ h = 65538) (h0 : 0 ≤ word) (h1 : word < 28) : 3 ≤ cellOf 3 2 h word ∧ cellOf 3 2 h word < 59 := by
  have e1 : slotOf 65537 = 1 := by decide
  have e2 : slotOf 65538 = 2 := by decide
  unfold cellOf
  rcases hr with rfl | rfl
  · rw [e1, if_pos (by omega)]; omega
  · rw [e2, if_pos (by omega)]; omega
theorem word_rs (m : Mm) (c : Int → Int) (h word : Int) : (wordRs c h word).ans m = ⟨rdv m (c word), false, false, Ar.nil, Nd.nil⟩ ∧ (wordRs c h word).reads m = [(c word, h)] := by
  obtain ⟨g1, g2⟩ := rs_ans (wordP c h word) (fun v => ⟨v, false, false, Ar.nil, Nd.nil⟩) m
  unfold wordRs
  rw [g1, g2]
  exact ⟨rfl, rfl⟩
/-- Two slots of noughts, laid. -/
theorem slots_two {w : World} {s t q : Nat} (V : Whole w q 22 #[.slice (some ⟨s, 0, none⟩) 28 28, .slice (some ⟨t, 0, none⟩) 28 28]) (hs : Whole w s 2 (nums nul28)) (ht : Whole w t 2 (nums nul28)) : Calls Try.prog 9 #[.slice (some ⟨q, 0, none⟩) 2 2] w (SlotsPost w [nul28, nul28]) := by
  have ws := nums_wds hs (c := 28) (by rw [nul_len]; omega)
  have wt := nums_wds ht (c := 28) (by rw [nul_len]; omega)
  rw [nul_len] at ws wt
  refine slots_c ⟨_, 2, rfl, by simp, fun _ => ⟨q, 0, rfl, fun i hi => ?_⟩⟩ (fun i hi => ?_) (by simp) (by simp)
  · have hi2 : i < 2 := hi
    match i, hi2 with
    | 0, _ => exact ⟨_, V.cell 0, ws⟩
    | 1, _ => exact ⟨_, V.cell 1, wt⟩
  · have hi2 : i < 2 := hi
    match i, hi2 with
    | 0, _ => exact nul_len
    | 1, _ => exact nul_len
/-- What the statement's looker leaves. -/
def StalePost (w : World) (mb mg ab ag : Nat) (h word : Int) (e : Ending) (w' : World) : Prop :=
  ∃ (A1 : Option Addr) (c1 : Nat) (A2 : Option Addr) (c2 : Nat) (A3 : Option Addr) (c3 : Nat) (cnt : Int), e = .returned (.tuple #[.agg #[.int .i64 (rdv ⟨staleCs, 57⟩ (cellOf 3 2 h word)), .bool false, .bool false, .int .i64 0, .int .i64 0, .int .i64 0, .bool false, .int .i64 0, .int .i64 0, .bool false, .int .i64 0, .slice A1 0 c1, .slice A2 0 c2, .slice A3 0 c3], .int .i64 1, .bool true]) ∧
    MemAt w' mb mg staleCs cnt ∧ cnt ≤ 100 ∧ ArAt w' ab ag 3 (bornTo 2 2) (!(h == 65537 || h == 65538)) false ∧ Only (fun k => CTwo mb mg k ∨ ArTwo ab ag k) w w'
theorem all_word {w : World} {mb mg ab ag : Nat} {h word : Int} (hh : h ≤ 9223372036854775807) (M : MemAt w mb mg staleCs 57) (A : ArAt w ab ag 3 (bornTo 2 2) false false) :
    Calls Try.prog 10 #[.pointer (some ⟨mb, 0, none⟩), .agg #[.pointer (some ⟨ab, 0, none⟩), .int .i64 h, .int .i64 word, .int .i64 3, .pointer none]] w (StalePost w mb mg ab ag h word) := by
  obtain ⟨r1, r2⟩ := word_rs ⟨staleCs, 57⟩ (cellOf (wiOf 2 false).fst (wiOf 2 false).l.length h) h word
  refine (all_c (m := ⟨staleCs, 57⟩) (x := wiOf 2 false) M A (wiOf_ok 2 false) staleCs_fits (by simp) (by rw [r2]; simp) (by rw [r2]; simp) (looks_word (x := wiOf 2 false) h word hh)).mono ?_
  rintro e w' ⟨A1, c1, A2, c2, A3, c3, rfl, hn, hm, ha, ho⟩
  have hb := inbs_le ⟨staleCs, 57⟩ ((wordRs (cellOf (wiOf 2 false).fst (wiOf 2 false).l.length h) h word).reads ⟨staleCs, 57⟩)
  have hst : (evsW (wiOf 2 false) (((wordRs (cellOf (wiOf 2 false).fst (wiOf 2 false).l.length h) h word).reads ⟨staleCs, 57⟩).map fun q => .touch q.2)).st = !(h == 65537 || h == 65538) := by
    rw [r2, ← two_right]
    rfl
  rw [hst] at ha
  refine ⟨A1, c1, A2, c2, A3, c3, _, ?_, hm, ?_, ha, ho⟩
  · rw [r1, r2]; rfl
  · have e : ((⟨staleCs, 57⟩ : Mm)).cnt = 57 := rfl
    rw [r2] at hb ⊢
    simp only [List.length_cons, List.length_nil] at hb
    omega

set_option maxRecDepth 4000 in
set_option maxHeartbeats 8000000 in
theorem seekStale_any (h word : Int) (w : World) (hh : h ≤ 9223372036854775807) : Calls Try.prog 5 #[.int .i64 h, .int .i64 word] w fun e w' => e = .returned (.bool true) ∧ Below w.heap.size w w' := by
  have hnot : ∀ (x : Bool) (w : World), (Op.unary .not (.bool x)).run Try.prog w = .ok (.bool (!x)) w := fun _ _ => rfl
  have mk := make28
  go_enter Try.func5, Try.ntmps5
  go_wp2_with fail
  refine (seek_awake _).mono ?_
  rintro e w1 ⟨rfl, hb1⟩
  have B1 := Lib.hid hb1
  clear hb1
  go_upto_region 3 with (fail)
  have GZ := ((Bag.new w1).add 2 (nums nul28)).add 2 (nums nul28)
  rw [World.size_alloc] at GZ
  have GA := (GZ.add 22 #[.slice (some ⟨w1.heap.size, 0, none⟩) 28 28, .slice (some ⟨w1.heap.size + 1, 0, none⟩) 28 28]).drew
  have GB := (GZ.add 22 #[.slice (some ⟨w1.heap.size + 1, 0, none⟩) 28 28, .slice (some ⟨w1.heap.size, 0, none⟩) 28 28]).drew
  simp only [World.size_alloc] at GA GB
  have CA := Lib.hid (slots_two GA.v0 GA.v2 GA.v1)
  have CB := Lib.hid (slots_two GB.v0 GB.v1 GB.v2)
  have BA := Lib.hid GA.bel
  have BB := Lib.hid GB.bel
  clear GZ GA GB
  go_region_held3 (fun W => True ∧ True)
    (exact ⟨trivial, trivial⟩)
    (first
    | (go_at_call 9; (with_reducible refine CA.out.mono ?_); rintro e w3 ⟨mb, mg, ab, ag, rfl, hm, ha, m1, m2, m3, m4, hb3⟩; have B3 := Lib.hid (below_then (below_then B1.out BA.out (Nat.le_refl _)) hb3 (Nat.le_refl _)); have M0 : Hid (w.heap.size ≤ mb ∧ w.heap.size ≤ mg ∧ w.heap.size ≤ ab ∧ w.heap.size ≤ ag) := Lib.hid (by have h1 := B1.out.size; have h2 := BA.out.size; omega); have HM := Lib.hid hm; have HA := Lib.hid ha; clear hm ha m1 m2 m3 m4 hb3 CA CB BA BB B1)
    | (go_at_call 9; (with_reducible refine CB.out.mono ?_); rintro e w3 ⟨mb, mg, ab, ag, rfl, hm, ha, m1, m2, m3, m4, hb3⟩; have B3 := Lib.hid (below_then (below_then B1.out BB.out (Nat.le_refl _)) hb3 (Nat.le_refl _)); have M0 : Hid (w.heap.size ≤ mb ∧ w.heap.size ≤ mg ∧ w.heap.size ≤ ab ∧ w.heap.size ≤ ag) := Lib.hid (by have h1 := B1.out.size; have h2 := BB.out.size; omega); have HM := Lib.hid hm; have HA := Lib.hid ha; clear hm ha m1 m2 m3 m4 hb3 CA CB BA BB B1)
    | fail)
  all_goals
    have SV := Lib.hid (store_in 3 7 HM.out (by omega) (by rw [fillTo_len _ (by rw [two_flat]; simp), two_flat]; omega) (by simp))
    go_wp2_with fail
    refine SV.out.mono ?_
    rintro e w4 ⟨rfl, hm, ho⟩
    have HA := Lib.hid (HA.out.only ho (fun hk => mem_ar HM.out HA.out hk (.inl rfl)) (fun hk => mem_ar HM.out HA.out hk (.inr rfl)))
    have B4 : Hid (Below w.heap.size w w4) := Lib.hid (B3.out.trans (ho.below (fun k hk => by have := M0.out; rcases hk with rfl | rfl <;> omega) B3.out.size))
    have HM : Hid (MemAt w4 mb mg staleCs 57) := Lib.hid (by
      have e : ((28 * [nul28, nul28].length : Nat) : Int) + 1 = 57 := rfl
      rw [e] at hm
      exact hm)
    have AL := Lib.hid (all_word (word := word) hh HM.out HA.out)
    clear hm ho SV B3 HM HA
    go_wp2_with fail
    refine AL.out.mono ?_
    rintro e w5 ⟨A1, c1, A2, c2, A3, c3, cnt, rfl, hm, hcn, ha, ho⟩
    have B5 := Lib.hid (one_below B4.out ho M0.out.1 M0.out.2.1 M0.out.2.2.1 M0.out.2.2.2)
    have HM := Lib.hid hm
    have HA := Lib.hid ha
    clear hm ha ho AL B4
    go_upto_region 6 with (fail)
    have HB := below_new w5 (.cells #[.int .i64 (rdv ⟨staleCs, 57⟩ (cellOf 3 2 h word)), .bool false, .bool false, .int .i64 0, .int .i64 0, .int .i64 0, .bool false, .int .i64 0, .int .i64 0, .bool false, .int .i64 0, .slice A1 0 c1, .slice A2 0 c2, .slice A3 0 c3] 35)
    have V0 := Lib.hid (Whole.new w5 35 #[.int .i64 (rdv ⟨staleCs, 57⟩ (cellOf 3 2 h word)), .bool false, .bool false, .int .i64 0, .int .i64 0, .int .i64 0, .bool false, .int .i64 0, .int .i64 0, .bool false, .int .i64 0, .slice A1 0 c1, .slice A2 0 c2, .slice A3 0 c3])
    have B6 := Lib.hid (below_then B5.out HB (Nat.le_refl _))
    have HM := Lib.hid (HM.out.only (Only.of_below HB (fun _ => False)) id id)
    have HA := Lib.hid (HA.out.still HB)
    clear HB B5
    generalize hv : rdv ⟨staleCs, 57⟩ (cellOf 3 2 h word) = rv at *
    have HV := Lib.hid hv
    clear hv
    generalize hw6 : w5.alloc (.cells #[.int .i64 rv, .bool false, .bool false, .int .i64 0, .int .i64 0, .int .i64 0, .bool false, .int .i64 0, .int .i64 0, .bool false, .int .i64 0, .slice A1 0 c1, .slice A2 0 c2, .slice A3 0 c3] 35) = w6 at *
    generalize w5.heap.size = qr at *
    clear hw6
    by_cases hr : h = 65537 ∨ h = 65538
    · have er : (h == 65537 || h == 65538) = true := by rcases hr with rfl | rfl <;> rfl
      rw [er] at HA
      by_cases hw : 0 ≤ word ∧ word < 28
      · obtain ⟨t1, t2⟩ := two_cell hr hw.1 hw.2
        have n1 : decide (0 ≤ word) = true := decide_eq_true hw.1
        have n2 : decide (word < 28) = true := decide_eq_true hw.2
        have n3 : 0 ≤ word := hw.1
        have n4 : word < 28 := hw.2
        have CC := Lib.hid (cell_any h word HA.out hh)
        have eb : (bornTo 2 2).length = 2 := rfl
        rw [eb] at CC
        generalize cellOf 3 2 h word = cc at *
        have LD := Lib.hid (load_in cc HM.out (by omega) (by rw [staleCs_len]; omega) (by omega))
        have EV : Hid (nth staleCs cc.toNat = rv) := Lib.hid (by
          rw [← HV.out]
          unfold rdv inb
          have : decide (0 ≤ cc ∧ cc < ((⟨staleCs, 57⟩ : Mm).cs.length : Int)) = true := decide_eq_true ⟨by omega, by show cc < (staleCs.length : Int); rw [staleCs_len]; omega⟩
          simp only [this, if_true])
        rw [EV.out] at LD
        have NX : Hid (∀ w7, Only (CTwo mb mg) w6 w7 → Whole w7 qr 35 #[.int .i64 rv, .bool false, .bool false, .int .i64 0, .int .i64 0, .int .i64 0, .bool false, .int .i64 0, .int .i64 0, .bool false, .int .i64 0, .slice A1 0 c1, .slice A2 0 c2, .slice A3 0 c3] ∧ w7.cell? ⟨ab, 2, none⟩ = some (.bool false) ∧ Below w.heap.size w w7) := Lib.hid (fun w7 ho => ⟨V0.out.only ho (by
          rintro (hk | hk)
          · exact V0.out.apart HM.out.top (by decide) hk
          · exact V0.out.apart HM.out.row (by decide) hk), (HA.out.only ho (fun hk => mem_ar HM.out HA.out hk (.inl rfl)) (fun hk => mem_ar HM.out HA.out hk (.inr rfl))).c2, B6.out.trans (ho.below (fun k hk => by have := M0.out; rcases hk with rfl | rfl <;> omega) B6.out.size)⟩)
        clear HV EV hw t1 t2 er V0 B6 HM HA M0
        have j4 : (rv == rv) = true := by simp
        rcases hr with rfl | rfl
        all_goals
          go_wp2_with fail
          refine CC.out.mono ?_
          rintro e w7 ⟨rfl, rfl⟩
          clear CC
          go_wp2_with fail
          refine LD.out.mono ?_
          rintro e w7 ⟨rfl, _, ho⟩
          obtain ⟨v0, v1, v2⟩ := NX.out w7 ho
          have z0 := v0.cell 0
          have z : w7.cell? ⟨qr, 0, none⟩ = some (.int .i64 rv) := z0
          have ST := Lib.hid (stale_any ab false w7 v1)
          have B8 := Lib.hid v2
          clear NX LD ho v0 v1 v2 z0
          go_wp2_with fail
          refine ST.out.mono ?_
          rintro e w8 ⟨rfl, rfl⟩
          go_wp2_with fail
          go_ret
          exact ⟨rfl, B8.out⟩
      · have ST := Lib.hid (stale_any ab false w6 HA.out.c2)
        have B8 := Lib.hid B6.out
        clear HV V0 B6 HM HA M0 er
        by_cases n3 : 0 ≤ word
        · have n4 : ¬ word < 28 := fun h => hw ⟨n3, h⟩
          have n1 : decide (0 ≤ word) = true := decide_eq_true n3
          have n2 : decide (word < 28) = false := decide_eq_false n4
          clear hw
          rcases hr with rfl | rfl
          all_goals
            go_wp2_with fail
            refine ST.out.mono ?_
            rintro e w8 ⟨rfl, rfl⟩
            go_wp2_with fail
            go_ret
            exact ⟨rfl, B8.out⟩
        · have n1 : decide (0 ≤ word) = false := decide_eq_false n3
          clear hw
          rcases hr with rfl | rfl
          all_goals
            go_wp2_with fail
            refine ST.out.mono ?_
            rintro e w8 ⟨rfl, rfl⟩
            go_wp2_with fail
            go_ret
            exact ⟨rfl, B8.out⟩
    · have n1 : (h == 65537) = false := by simp; exact fun e => hr (.inl e)
      have n2 : (h == 65538) = false := by simp; exact fun e => hr (.inr e)
      have n3 : ¬ h = 65537 := fun e => hr (.inl e)
      have n4 : ¬ h = 65538 := fun e => hr (.inr e)
      rw [n1, n2] at HA
      have ST := Lib.hid (stale_any ab true w6 HA.out.c2)
      have B8 := Lib.hid B6.out
      clear HV V0 B6 HM HA M0 hr
      go_wp2_with fail
      refine ST.out.mono ?_
      rintro e w8 ⟨rfl, rfl⟩
      go_wp2_with fail
      go_ret
      exact ⟨rfl, B8.out⟩
end Go.Proofs.Ytiiclmaphiajmaa
