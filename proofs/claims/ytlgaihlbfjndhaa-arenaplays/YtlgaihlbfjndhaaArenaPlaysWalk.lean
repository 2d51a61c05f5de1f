/-
  Layer 2: the walk of the statement on plays.
-/
import Derived.Test.YtlgaihlbfjndhaaArenaPlaysSt
import Derived.Deep.CutBlock
namespace Go.Proofs.Ytlgaihlbfjndhaa
open Go.ChangeShapes Go.WideShapes Go.ChangeAt Go.RowKit
set_option linter.unusedVariables false

theorem arPlays_many (A : Option Addr) (cap len : Nat) (n : Int) (w : World) (h : 200 < len) :
    Calls Try.prog 3 #[.int .u8 n, .slice A len cap] w fun e w' => e = .returned (.bool true) ∧ Below w.heap.size w w' := by
  go_enter Try.func3, Try.ntmps3
  go_wp2_with fail
  refine (arAwake _).mono ?_
  rintro e w1 ⟨rfl, hb1⟩
  go_wp2_with fail
  refine (arAwake _).mono ?_
  rintro e w2 ⟨rfl, hb2⟩
  go_wp2_with fail
  go_ret
  exact ⟨rfl, hb1.trans (hb2.mono hb1.size)⟩

/-- The handle that an op speaks of. -/
def HRel (W1 : World) (s : Value) (wx : World) : Prop := (∃ y : Int, y ≤ 9223372036854775807 ∧ s = .int .i64 y) ∧ W1 = wx
/-- What a call leaves. -/
def MidRel (w wc : World) (ab ag rb base : Nat) (A : Option Addr) (c : Nat) (B : Option Addr) (d k : Nat) (bv : Value) (wx : World) : Prop :=
  ∃ l st db bl, PlaySt w wc ab ag rb base A c B d k bv wx l st db bl

set_option maxHeartbeats 8000000 in
set_option maxRecDepth 100000 in
theorem arPlays_few (zA : Option Addr) (cap len : Nat) (n : Int) (w : World) (hn1 : 0 ≤ n) (hn2 : n ≤ 255) (h : len ≤ 200) (hz : AOpsCame w zA len) :
    Calls Try.prog 3 #[.int .u8 n, .slice zA len cap] w fun e w' => e = .returned (.bool true) ∧ Below w.heap.size w w' := by
  obtain ⟨i0, hi0, hz0, hz1, hz2⟩ := infoOpen Try.infoInt
  have HZ := Lib.hid hz
  clear hz
  obtain ⟨m, hm⟩ : ∃ m : Nat, n % 41 = m := ⟨(n % 41).toNat, by omega⟩
  have hm1 : m ≤ 40 := by omega
  have HMM := Lib.hid hm
  have E7 : Hid (firstOf 7 = 7) := rfl
  have hmany : slotsOf (m : Int) = m := by unfold slotsOf; omega
  have HM := Lib.hid hmany
  clear hmany hm
  have hd3 : decide (200 < (len : Int)) = false := by simp; omega
  go_enter Try.func3, Try.ntmps3
  go_wp2_with fail
  refine (arAwake _).mono ?_
  rintro e w1 ⟨rfl, hb1⟩
  go_wp2_with fail
  rw [HMM.out]
  refine (arNew_ex _ _ _).mono ?_
  rw [HM.out, E7.out]
  rintro e w2 ⟨ab, ag, rfl, har, hx1, hx2, hb2⟩
  go_wp2_with fail
  rw [HMM.out]
  refine (rfNew_any _ _ _).mono ?_
  rw [HM.out, E7.out]
  rintro e wc ⟨rfl, ⟨A, c, B, d, hr⟩, hb3⟩
  have hl : Lies w wc ab ag w2.heap.size w2.heap.size A B := by
    have h1 := hb1.size; have h2 := hb2.size; have h3 := hb3.size; have h4 := har.ltb; have h5 := har.ltg
    refine ⟨by omega, by omega, h4, h5, Nat.le_refl _, by omega, ?_, h3⟩
    intro k hk
    rcases hk with rfl | ⟨x, rfl, rfl⟩ | ⟨x, rfl, rfl⟩
    · exact hr.top.lt
    · exact (hr.own1.lt x.block rfl).2
    · exact (hr.own2.lt x.block rfl).2
  have hp : PlaySt w wc ab ag w2.heap.size w2.heap.size A c B d 0 (.slice none 0 0) wc (fresh m) false false [] := by
    have h12 : Below w.heap.size w w2 := hb1.trans (hb2.mono hb1.size)
    exact ⟨har.still hb3, hr, gens_new m, World.ownsRow_nil _ _ _ _, Nat.le_refl _, (fun y hy => by cases hy), h12.trans (hb3.mono h12.size), Nat.le_refl _⟩
  have LI := Lib.hid hl
  have PS := Lib.hid hp
  generalize w2.heap.size = rb at *
  clear hl hp hb1 hb2 hb3 har hr hx1 hx2
  go_wp2_with fail
  try rw [HMM.out]
  go_loopw [7, 8] (fun bv iv wr => ArPlayRel w wc ab ag rb rb A c B d len bv iv wr) (fun _ iv _ => len - (intOf iv).toNat)
  case atStart => exact ⟨0, by omega, by go_num, _, _, _, _, PS.out⟩
  case round =>
    obtain ⟨k, hk, rfl, l, st, db, bl, hp⟩ := hrel
    by_cases hlt : k < len
    · obtain ⟨zb, off, rfl, hzb, hzc⟩ := HZ.out (by omega)
      obtain ⟨⟨kd, sl, hh, fr⟩, hq0, hq1, hq2, hq3, ⟨hkd0, hkd1⟩, ⟨hfr0, hfr1⟩, hhm⟩ := hzc k hlt
      simp only at hq0 hq1 hq2 hq3 hkd0 hkd1 hfr0 hfr1 hhm
      have p0 := (hp.bel.cell (p := ⟨zb, off + k * 4, none⟩) hzb).trans hq0
      have p1 := (hp.bel.cell (p := ⟨zb, off + k * 4 + 1, none⟩) hzb).trans hq1
      have p2 := (hp.bel.cell (p := ⟨zb, off + k * 4 + 2, none⟩) hzb).trans hq2
      have p3 := (hp.bel.cell (p := ⟨zb, off + k * 4 + 3, none⟩) hzb).trans hq3
      have hown := hp.own
      have hbf := hp.few
      obtain ⟨bA, bc, rfl⟩ := own_slice hown
      have hp1 := hp.still ((Below.refl wr.heap.size wr).alloc (Nat.le_refl _) (.cells #[.int .u8 kd, .int .i64 sl, .int .i64 hh, .int .u8 fr] 30))
      have hbox := Whole.new wr 30 #[.int .u8 kd, .int .i64 sl, .int .i64 hh, .int .u8 fr]
      have hpo := hp.size
      have P1 := Lib.hid hp1
      have BX := Lib.hid hbox
      clear hp hzc hq0 hq1 hq2 hq3 hown hp1 hbox
      go_upto_region 10 with (fail)
      clear p0 p1 p2 p3
      generalize wr.alloc (.cells #[.int .u8 kd, .int .i64 sl, .int .i64 hh, .int .u8 fr] 30) = W1 at *
      generalize hob : wr.heap.size = ob at *
      have HOB := Lib.hid hob
      clear hob
      have o0 : W1.cell? ⟨ob, 0, none⟩ = some (.int .u8 kd) := by rw [BX.out.cell]; rfl
      have o1 : W1.cell? ⟨ob, 1, none⟩ = some (.int .i64 sl) := by rw [BX.out.cell]; rfl
      have o3 : W1.cell? ⟨ob, 3, none⟩ = some (.int .u8 fr) := by rw [BX.out.cell]; rfl
      obtain ⟨f, rfl⟩ : ∃ f : Nat, fr = (f : Int) := ⟨fr.toNat, by omega⟩
      obtain ⟨t, ht⟩ : ∃ t : Bool, t = decide (0 < f ∧ f ≤ bl.length) := ⟨_, rfl⟩
      have HTT := Lib.hid ht
      clear ht
      go_cut [51] (fun s wx => s = .bool t ∧ W1 = wx)
      case first =>
        by_cases hf0 : 0 < f
        · by_cases hf1 : f ≤ bl.length
          · have HV : Hid (t = true) := by unfold Hid; rw [HTT.out]; simp; omega
            go_wp2_with fail
            go_meet
            exact ⟨by rw [HV.out], rfl⟩
          · have HV : Hid (t = false) := by unfold Hid; rw [HTT.out]; simp; omega
            have hd : decide ((f : Int) ≤ (bl.length : Int)) = false := by simp; omega
            have hd' : decide (f ≤ bl.length) = false := by simp; omega
            go_wp2_with fail
            go_meet
            exact ⟨by rw [HV.out], rfl⟩
        · have HV : Hid (t = false) := by unfold Hid; rw [HTT.out]; simp; omega
          have hd : decide (0 < (f : Int)) = false := by simp; omega
          have hd' : decide (0 < f) = false := by simp; omega
          go_wp2_with fail
          go_meet
          exact ⟨by rw [HV.out], rfl⟩
      case rest =>
      obtain ⟨rfl, rfl⟩ := hcut
      go_upto_if 51 with (fail)
      go_cut [10] (fun s wx => HRel W1 s wx)
      case first =>
        cases t with
        | false =>
          go_wp2_with fail
          go_meet
          exact ⟨⟨hh, hhm, rfl⟩, rfl⟩
        | true =>
          have hown := P1.out.own
          have hff : 0 < f ∧ f ≤ bl.length := of_decide_eq_true HTT.out.symm
          obtain ⟨bg, rfl, _, _⟩ := own_form hown (by omega)
          have cb := own_int hown (bl.length - f) (by omega)
          have hyb : nth bl (bl.length - f) ≤ 9223372036854775807 := by
            refine P1.out.all _ ?_
            unfold nth
            rw [getD_in _ (by omega)]
            exact List.getElem_mem _
          generalize nth bl (bl.length - f) = y at *
          clear hown
          obtain ⟨hf0, hf1⟩ := hff
          go_wp2_with fail
          go_meet
          exact ⟨⟨y, hyb, rfl⟩, rfl⟩
      case rest =>
        obtain ⟨⟨y, hy, rfl⟩, rfl⟩ := hcut
        go_upto_block 2 with (fail)
        have hobw : ob < W1.heap.size := BX.out.lt
        have nar : ¬ ArTwo ab ag ob := LI.out.not_ar (Nat.le_trans LI.out.le hpo)
        have nrf : ¬ RfTwo rb A B ob := fun hq => by have := LI.out.hi ob hq; omega
        have hfew := P1.out.ar.few
        go_cut [7] (fun s wx => MidRel w wc ab ag rb rb A c B d (k + 1) s wx)
        case first =>
          have hq : kd % 3 = 0 ∨ kd % 3 = 1 ∨ kd % 3 = 2 := by omega
          have HNA := Lib.hid nar
          have HNR := Lib.hid nrf
          clear nar nrf
          rcases hq with hq | hq | hq
          · have h0 : (kd % 3 == 0) = true := beq_iff_eq.2 hq
            clear hq
            by_cases hin : 1 ≤ sl ∧ sl ≤ l.length
            · obtain ⟨i, rfl⟩ : ∃ i : Nat, sl = (i : Int) + 1 := ⟨(sl - 1).toNat, by omega⟩
              have hil : i < l.length := by omega
              clear hin
              have HHB := Lib.hid (hnd_born_le (i := i) P1.out.gens (by omega) (by omega) hil hfew)
              have HGB := Lib.hid (gens_born P1.out.gens (by omega) i)
              go_upto_region 17 with (fail)
              go_region_held3 (fun w' => w'.cell? ⟨ob, 1, none⟩ = some (.int .i64 ((i : Int) + 1))) (first | exact o1 | exact (ho4.cell (p := ⟨ob, 1, none⟩) hobw HNA.out).trans o1 | exact (ho5.cell (p := ⟨ob, 1, none⟩) (Nat.lt_of_lt_of_le hobw ho4.size) HNR.out).trans ((ho4.cell (p := ⟨ob, 1, none⟩) hobw HNA.out).trans o1))
                (first
                | (go_at_call 10; refine (born_yes i k P1.out.drew.ar P1.out.gens (by omega) (by omega) hil).mono ?_; rintro e w4 ⟨rfl, ha4, ho4⟩)
                | (go_at_call 11; refine (rfBirth_yes i k (P1.out.drew.first LI.out ho4).1 P1.out.gens (by omega) (by omega) hil).mono ?_; rintro e w5 ⟨rfl, hr5, ho5⟩))
              have P2 := Lib.hid (P1.out.drew.both LI.out ho4 ha4 ho5 hr5 HGB.out)
              clear ho4 ha4 ho5 hr5 HGB
              generalize hndAt (bornAt l i) i = x at *
              generalize bornAt l i = l' at *
              generalize (db || liveAt l i) = db' at *
              have hne : (x != x) = false := by simp
              go_wp2_with (at_builtin; refine wpList_append_own _ rfl (.tmp 87) (.tmp 89) _ rfl wc.heap.size 2 i0 _ 1 8 Try.underlying28 hi0 hz0 hz1 hz2 rfl (by omega) _ bl.length _ rfl (P2.out.own.alloc _) ⟨w5.heap.size, 0, none⟩ 1 1 [.int .i64 x] rfl rfl (cell_one_new _ _ _) (by simp [Value.oneCell']) (by simp only [maxLen]; omega) (by omega) (by have := P2.out.size; simp; omega) ?_; intro v' w6 hown' hg' _hnil)
              go_meet
              exact ⟨_, _, _, _, P2.out.append LI.out hbf hg' hown' HHB.out⟩
            · have hout : sl < 1 ∨ (l.length : Int) < sl := by omega
              have hout2 : sl < 1 ∨ (1 ≤ sl ∧ (l.length : Int) < sl) := by omega
              have HO1 := Lib.hid hout
              have HO2 := Lib.hid hout2
              clear hin hout hout2
              go_upto_region 17 with (fail)
              go_region_held3 (fun w' => w'.cell? ⟨ob, 1, none⟩ = some (.int .i64 sl)) (first | exact o1)
                (first
                | (go_at_call 10; refine (born_no sl P1.out.drew.ar HO1.out).mono ?_; rintro e w' ⟨rfl, rfl⟩)
                | (go_at_call 11; refine (rfBirth_no sl P1.out.drew.rf HO2.out).mono ?_; rintro e w' ⟨rfl, rfl⟩))
              have P2 := Lib.hid P1.out.drew.more
              generalize W1.drew = w5 at *
              go_wp2_with (at_builtin; refine wpList_append_own _ rfl (.tmp 87) (.tmp 89) _ rfl wc.heap.size 2 i0 _ 1 8 Try.underlying28 hi0 hz0 hz1 hz2 rfl (by omega) _ bl.length _ rfl (P2.out.own.alloc _) ⟨w5.heap.size, 0, none⟩ 1 1 [.int .i64 0] rfl rfl (cell_one_new _ _ _) (by simp [Value.oneCell']) (by simp only [maxLen]; omega) (by omega) (by have := P2.out.size; simp; omega) ?_; intro v' w6 hown' hg' _hnil)
              go_meet
              exact ⟨_, _, _, _, P2.out.append LI.out hbf hg' hown' (by omega)⟩
          · have h0 : (kd % 3 == 0) = false := beq_eq_false_iff_ne.2 (by omega)
            have h1 : (kd % 3 == 1) = true := beq_iff_eq.2 hq
            clear hq
            cases hr : rightB l y with
            | true =>
              obtain ⟨i, hi, hil⟩ := right_slot P1.out.gens (by omega) hfew hr
              have HI := Lib.hid hi
              have HR := Lib.hid hr
              clear hi hr
              go_wp2_with fail
              refine (died_yes i y k P1.out.ar P1.out.gens (by omega) (by omega) hy HR.out HI.out hil).mono ?_
              rintro e w4 ⟨rfl, ha4, ho4⟩
              have HA4 := Lib.hid ha4
              have HO4 := Lib.hid ho4
              clear ha4 ho4
              go_wp2_with fail
              refine (rfDeath_yes i y k (P1.out.first LI.out HO4.out).1 P1.out.gens (by omega) (by omega) HR.out HI.out hil).mono ?_
              rintro e w5 ⟨rfl, hr5, ho5⟩
              have P2 := Lib.hid (P1.out.both LI.out HO4.out HA4.out ho5 hr5 (gens_mono (gens_died P1.out.gens (by omega) i) (by omega)))
              clear hr5 ho5
              go_wp2_with fail
              go_meet
              exact ⟨_, _, _, _, P2.out⟩
            | false =>
              have HR := Lib.hid hr
              clear hr
              go_wp2_with fail
              refine (died_no y k P1.out.ar P1.out.gens (by omega) (by omega) hy HR.out).mono ?_
              rintro e w4 ⟨rfl, ha4, ho4⟩
              have HA4 := Lib.hid ha4
              have HO4 := Lib.hid ho4
              clear ha4 ho4
              go_wp2_with fail
              refine (rfDeath_no y k (P1.out.first LI.out HO4.out).1 P1.out.gens (by omega) (by omega) HR.out).mono ?_
              rintro e w5 ⟨rfl, hr5, ho5⟩
              have P2 := Lib.hid (P1.out.both LI.out HO4.out HA4.out ho5 hr5 (gens_mono P1.out.gens (by omega)))
              clear hr5 ho5
              go_wp2_with fail
              go_meet
              exact ⟨_, _, _, _, P2.out⟩
          · have h0 : (kd % 3 == 0) = false := beq_eq_false_iff_ne.2 (by omega)
            have h1 : (kd % 3 == 1) = false := beq_eq_false_iff_ne.2 (by omega)
            clear hq
            cases hr : rightB l y with
            | true =>
              have HR := Lib.hid hr
              clear hr
              go_wp2_with fail
              refine (touch_any y k P1.out.ar P1.out.gens (by omega) (by omega) hy).mono ?_
              rw [HR.out, Bool.not_true, Bool.or_false]
              rintro e w4 ⟨rfl, ha4, ho4⟩
              have HR4 := Lib.hid (P1.out.first LI.out ho4).1
              have P2 := Lib.hid (P1.out.both LI.out ho4 ha4 (Only.refl _ w4) HR4.out (gens_mono P1.out.gens (by omega)))
              clear ha4 ho4
              go_wp2_with fail
              refine (rfRight_any y k HR4.out P1.out.gens (by omega) (by omega)).mono ?_
              rw [HR.out]
              rintro e w' ⟨rfl, rfl⟩
              go_wp2_with fail
              go_meet
              exact ⟨_, _, _, _, P2.out⟩
            | false =>
              have HR := Lib.hid hr
              clear hr
              go_wp2_with fail
              refine (touch_any y k P1.out.ar P1.out.gens (by omega) (by omega) hy).mono ?_
              rw [HR.out, Bool.not_false, Bool.or_true]
              rintro e w4 ⟨rfl, ha4, ho4⟩
              have hr4 := (P1.out.first LI.out ho4).1
              have c3 := hr4.c3
              have f3 := hr4.fr 3
              have P2 := Lib.hid (P1.out.both LI.out ho4 ha4 ((Only.refl (RfTwo rb A B) w4).setCell (p := ⟨rb, 3, none⟩) (Or.inl (Or.inl rfl)) (.bool true)) (hr4.stale true) (gens_mono P1.out.gens (by omega)))
              have HR4 := Lib.hid hr4
              clear ha4 ho4 hr4
              go_wp2_with fail
              refine (rfRight_any y k HR4.out P1.out.gens (by omega) (by omega)).mono ?_
              rw [HR.out]
              rintro e w' ⟨rfl, rfl⟩
              go_wp2_with fail
              go_meet
              exact ⟨_, _, _, _, P2.out⟩
        case rest =>
          obtain ⟨l2, st2, db2, bl2, hp2⟩ := hcut
          obtain ⟨bA2, bc2, rfl⟩ := own_slice hp2.own
          have P2 := Lib.hid hp2
          clear hp2 o0 o1 o3 BX P1 HTT
          go_wp2_with fail
          refine (right_any y _ P2.out.ar P2.out.gens (by omega) (by omega) hy).mono ?_
          rintro e w6 ⟨rfl, hb6⟩
          have P3 := Lib.hid (P2.out.still hb6)
          clear hb6 P2
          go_wp2_with fail
          refine (rfRight_any y _ P3.out.rf P3.out.gens (by omega) (by omega)).mono ?_
          rintro e w' ⟨rfl, rfl⟩
          generalize rightB l2 y = rr at *
          have hne : (rr != rr) = false := by simp
          go_wp2_with fail
          refine (arSame _ P3.out.ar P3.out.rf P3.out.gens (by omega) (by omega)).mono ?_
          rintro e w7 ⟨rfl, hb7⟩
          have P4 := Lib.hid (P3.out.still hb7)
          clear hb7 P3
          go_wp2_with fail
          go_roundw
          case rel => exact ⟨k + 1, by omega, by go_num, _, _, _, _, P4.out⟩
          case measure => simp [intOf]; omega
    · have HP := Lib.hid hp.bel
      clear hp
      go_wp2_with fail
      go_ret
      exact ⟨rfl, HP.out⟩
end Go.Proofs.Ytlgaihlbfjndhaa
