/-
  Layer 4: the walks of its tasks.
-/
import Derived.Test.YtpgepcmncppphaaRcu
namespace Go.Proofs.Ytpgepcmncppphaa
open Go.ChangeShapes Go.WideShapes Go.ChangeAt Go.RowKit
set_option linter.unusedVariables false

section
variable {w w' w'' : World} {b g tb : Nat} {tv mv tv' mv' : Value} {T : Tr} {m m' : Mm}

theorem Goes.after {v : Value} {T' : Tr} {e : Ending} (hm : Moved w b g tb tv mv w' tv' mv') (h : Goes w' b g tb tv' mv' v T' m' e w'') : Goes w b g tb tv mv v T' m' e w'' := by
  obtain ⟨he, tv2, mv2, h1, h2⟩ := h
  exact ⟨he, tv2, mv2, h1, hm.trans h2⟩

theorem epochs (a : Int) (h0 : 0 ≤ a) (h1 : a ≤ 1000000) (h : St w b g tb tv mv T m) (hf : Fine T) (hr : T.told.length + 1 ≤ 1000) (hu : m.cnt + 1 ≤ 4611686018427387904) :
    Calls Try.prog 27 #[.pointer (some ⟨tb, 0, none⟩), .int .i64 a] w (Goes w b g tb tv mv (.int .i64 (accV 0 a 0 T m)) (accT 0 a 0 T m) (accM 0 a 0 0 T m)) := by
  have A := Lib.hid (trLoad a h hf hr hu)
  have e0 : IntKind.i64.wrap (a + 0) = a := by rw [IntKind.wrap_i64]; omega
  clear h hf hr hu
  go_enter Try.func27, Try.ntmps27
  go_wp2_with fail
  refine A.out.mono ?_
  rintro e w1 ⟨rfl, tv1, mv1, s1, m1⟩
  have S := Lib.hid s1
  have M := Lib.hid m1
  clear s1 m1
  go_wp2_with fail
  go_ret
  exact ⟨rfl, tv1, mv1, S.out, M.out⟩

set_option maxHeartbeats 1000000 in
theorem enters (a r : Int) (h0 : 0 ≤ a) (h1 : a ≤ 1000000) (h : St w b g tb tv mv T m) (hf : Fine T) (hr : T.told.length + 2 ≤ 1000) (hu : m.cnt + 2 ≤ 4611686018427387904) :
    Calls Try.prog 20 #[.pointer (some ⟨tb, 0, none⟩), .int .i64 a, .int .i64 r] w (Goes w b g tb tv mv (.tuple #[]) (play (enterP a r) T m).T (play (enterP a r) T m).m) := by
  have hnot : ∀ (x : Bool) (w : World), (Op.unary .not (.bool x)).run Try.prog w = .ok (.bool (!x)) w := fun _ _ => rfl
  have R := Lib.hid (is_reader r w)
  cases hi : isRd r with
  | false =>
    rw [hi] at R
    have FIN : Hid (Goes w b g tb tv mv (.tuple #[]) (play (enterP a r) T m).T (play (enterP a r) T m).m (.returned (.tuple #[])) w) := by
      simp only [enterP, hi]
      exact ⟨rfl, tv, mv, h, Moved.refl ..⟩
    clear h hf
    go_enter Try.func20, Try.ntmps20
    go_wp2_with (go_at_call 26; refine R.out.mono ?_; rintro e w1 ⟨rfl, rfl⟩)
    go_end0
    exact FIN.out
  | true =>
    rw [hi] at R
    have hrd : 0 ≤ r ∧ r < 16 := by simpa [isRd] using hi
    have E := Lib.hid (epochs a h0 h1 h hf (by omega) (by omega))
    have NX : Hid (∀ w1 tv1 mv1, St w1 b g tb tv1 mv1 (accT 0 a 0 T m) (accM 0 a 0 0 T m) → Moved w b g tb tv mv w1 tv1 mv1 → Calls Try.prog 28 #[.pointer (some ⟨tb, 0, none⟩), .int .i64 (a + 1 + r), .int .i64 (wrap64 (accV 0 a 0 T m + 1))] w1 (Goes w b g tb tv mv (.tuple #[]) (play (enterP a r) T m).T (play (enterP a r) T m).m)) := by
      refine Lib.hid (fun w1 tv1 mv1 s1 m1 => ?_)
      have l1 := (accT_len 0 a 0 T m).1
      have l2 := accM_cnt 0 a 0 0 T m
      refine (trStore (a + 1 + r) (wrap64 (accV 0 a 0 T m + 1)) s1 (accT_fine hf) (by omega) (by omega)).mono ?_
      intro e w2 hg
      have := Goes.after m1 hg
      simpa only [enterP, hi, play, if_true] using this
    clear h hf hr hu hi
    obtain ⟨hr0, hr1⟩ := hrd
    generalize (play (enterP a r) T m).T = T9 at *
    generalize (play (enterP a r) T m).m = m9 at *
    generalize accV 0 a 0 T m = ep at *
    generalize accT 0 a 0 T m = T1 at *
    generalize accM 0 a 0 0 T m = m1 at *
    go_enter Try.func20, Try.ntmps20
    go_wp2_with (go_at_call 26; refine R.out.mono ?_; rintro e w1 ⟨rfl, rfl⟩)
    refine E.out.mono ?_
    rintro e w1 ⟨rfl, tv1, mv1, s1, m1⟩
    have X := Lib.hid (NX.out _ _ _ s1 m1)
    have Q1 := Lib.hid (reader_cell a r w1 h0 h1 hr0 (by omega))
    have Q2 := Lib.hid (seen_one ep w1)
    clear s1 m1 NX E R
    go_wp2_with fail
    refine Q1.out.mono ?_
    rintro e w2 ⟨rfl, rfl⟩
    go_wp2_with fail
    refine Q2.out.mono ?_
    rintro e w2 ⟨rfl, rfl⟩
    go_wp2_with fail
    refine X.out.mono ?_
    rintro e w2 ⟨rfl, tv2, mv2, s2, m2⟩
    have S := Lib.hid s2
    have M := Lib.hid m2
    clear s2 m2
    go_wp2_with fail
    go_end0
    exact ⟨rfl, tv2, mv2, S.out, M.out⟩

set_option maxHeartbeats 1000000 in
theorem leaves (a r : Int) (h0 : 0 ≤ a) (h1 : a ≤ 1000000) (h : St w b g tb tv mv T m) (hf : Fine T) (hr : T.told.length + 2 ≤ 1000) (hu : m.cnt + 2 ≤ 4611686018427387904) :
    Calls Try.prog 21 #[.pointer (some ⟨tb, 0, none⟩), .int .i64 a, .int .i64 r] w (Goes w b g tb tv mv (.tuple #[]) (play (leaveP a r) T m).T (play (leaveP a r) T m).m) := by
  have hnot : ∀ (x : Bool) (w : World), (Op.unary .not (.bool x)).run Try.prog w = .ok (.bool (!x)) w := fun _ _ => rfl
  have R := Lib.hid (is_reader r w)
  cases hi : isRd r with
  | false =>
    rw [hi] at R
    have FIN : Hid (Goes w b g tb tv mv (.tuple #[]) (play (leaveP a r) T m).T (play (leaveP a r) T m).m (.returned (.tuple #[])) w) := by
      simp only [leaveP, hi]
      exact ⟨rfl, tv, mv, h, Moved.refl ..⟩
    clear h hf
    go_enter Try.func21, Try.ntmps21
    go_wp2_with (go_at_call 26; refine R.out.mono ?_; rintro e w1 ⟨rfl, rfl⟩)
    go_end0
    exact FIN.out
  | true =>
    rw [hi] at R
    have hrd : 0 ≤ r ∧ r < 16 := by simpa [isRd] using hi
    have X : Hid (Calls Try.prog 28 #[.pointer (some ⟨tb, 0, none⟩), .int .i64 (a + 1 + r), .int .i64 0] w (Goes w b g tb tv mv (.tuple #[]) (play (leaveP a r) T m).T (play (leaveP a r) T m).m)) := by
      have := trStore (a + 1 + r) 0 h hf (by omega) (by omega)
      have h2 := Lib.hid this
      simpa only [leaveP, hi, play, if_true] using h2
    clear h hf hr hu hi
    obtain ⟨hr0, hr1⟩ := hrd
    generalize (play (leaveP a r) T m).T = T9 at *
    generalize (play (leaveP a r) T m).m = m9 at *
    have Q1 := Lib.hid (reader_cell a r w h0 h1 hr0 (by omega))
    go_enter Try.func21, Try.ntmps21
    go_wp2_with (go_at_call 26; refine R.out.mono ?_; rintro e w1 ⟨rfl, rfl⟩)
    refine Q1.out.mono ?_
    rintro e w2 ⟨rfl, rfl⟩
    go_wp2_with fail
    refine X.out.mono ?_
    rintro e w2 ⟨rfl, tv2, mv2, s2, m2⟩
    have S := Lib.hid s2
    have M := Lib.hid m2
    clear s2 m2
    go_wp2_with fail
    go_end0
    exact ⟨rfl, tv2, mv2, S.out, M.out⟩

/-- Where the round of Advance stands. -/
def AdvRel (w : World) (b g tb : Nat) (tv mv : Value) (p : Out Bool) (a ep : Int) (n0 : Nat) (c0 : Int) (iv : Value) (wr : World) : Prop :=
  ∃ (r : Nat) (tv' mv' : Value) (T' : Tr) (m' : Mm), r ≤ 16 ∧ iv = .int .i64 r ∧ St wr b g tb tv' mv' T' m' ∧ Moved w b g tb tv mv wr tv' mv' ∧ Fine T' ∧ p = play (advFrom a ep r (16 - r)) T' m' ∧ T'.told.length ≤ n0 + 1 + r ∧ m'.cnt ≤ c0 + 1 + r

set_option maxHeartbeats 4000000 in
theorem advances (a : Int) (h0 : 0 ≤ a) (h1 : a ≤ 1000000) (h : St w b g tb tv mv T m) (hf : Fine T) (hr : T.told.length + 18 ≤ 1000) (hu : m.cnt + 18 ≤ 4611686018427387904) :
    Calls Try.prog 22 #[.pointer (some ⟨tb, 0, none⟩), .int .i64 a] w (Goes w b g tb tv mv (.bool (play (advP a) T m).a) (play (advP a) T m).T (play (advP a) T m).m) := by
  have hnot : ∀ (x : Bool) (w : World), (Op.unary .not (.bool x)).run Try.prog w = .ok (.bool (!x)) w := fun _ _ => rfl
  have e0 : IntKind.i64.wrap (a + 0) = a := by rw [IntKind.wrap_i64]; omega
  have E := Lib.hid (epochs a h0 h1 h hf (by omega) (by omega))
  have HB : Hid (T.told.length + 18 ≤ 1000 ∧ m.cnt + 18 ≤ 4611686018427387904) := ⟨hr, hu⟩
  have R0 : Hid (∀ w1 tv1 mv1, St w1 b g tb tv1 mv1 (accT 0 a 0 T m) (accM 0 a 0 0 T m) → Moved w b g tb tv mv w1 tv1 mv1 → AdvRel w b g tb tv mv (play (advP a) T m) a (accV 0 a 0 T m) T.told.length m.cnt (.int .i64 0) w1) := by
    refine Lib.hid (fun w1 tv1 mv1 s1 m1 => ⟨0, tv1, mv1, _, _, by omega, rfl, s1, m1, accT_fine hf, rfl, ?_, ?_⟩)
    · have := (accT_len 0 a 0 T m).1; omega
    · have := accM_cnt 0 a 0 0 T m; push_cast; omega
  clear h hf hr hu
  generalize play (advP a) T m = p at *
  generalize accV 0 a 0 T m = ep at *
  generalize accT 0 a 0 T m = T1 at *
  generalize accM 0 a 0 0 T m = m1 at *
  generalize T.told.length = n0 at *
  generalize m.cnt = c0 at *
  go_enter Try.func22, Try.ntmps22
  go_wp2_with fail
  refine E.out.mono ?_
  rintro e w1 ⟨rfl, tv1, mv1, s1, mm1⟩
  have R1 := Lib.hid (R0.out _ _ _ s1 mm1)
  clear s1 mm1 R0 E
  go_wp2_with fail
  go_loopw [10] (fun iv wr => AdvRel w b g tb tv mv p a ep n0 c0 iv wr) (fun iv _ => 16 - (intOf iv).toNat)
  case atStart => exact R1.out
  case round =>
    obtain ⟨r, tv2, mv2, T2, m2, hr, rfl, s2, mm2, f2, hp, hn, hc⟩ := hrel
    have hb := HB.out
    by_cases hlt : r < 16
    · have hsub : 16 - r = (15 - r) + 1 := by omega
      rw [hsub] at hp
      have LD := Lib.hid (trLoad (a + 1 + (r : Int)) s2 f2 (by omega) (by omega))
      have Q1 := Lib.hid (reader_cell a r wr h0 h1 (by omega) (by omega))
      have l1 := (accT_len 0 (a + 1 + (r : Int)) 0 T2 m2).1
      have l2 := accM_cnt 0 (a + 1 + (r : Int)) 0 0 T2 m2
      have F3 := Lib.hid (accT_fine (k := 0) (i := a + 1 + (r : Int)) (old := 0) (m := m2) f2)
      have MM := Lib.hid mm2
      have HP : Hid (p = play (if holds (accV 0 (a + 1 + (r : Int)) 0 T2 m2) ep then .ret false else advFrom a ep (r + 1) (15 - r)) (accT 0 (a + 1 + (r : Int)) 0 T2 m2) (accM 0 (a + 1 + (r : Int)) 0 0 T2 m2)) := Lib.hid hp
      have HN : Hid ((accT 0 (a + 1 + (r : Int)) 0 T2 m2).told.length ≤ n0 + 1 + (r + 1) ∧ (accM 0 (a + 1 + (r : Int)) 0 0 T2 m2).cnt ≤ c0 + 1 + ((r + 1 : Nat) : Int)) := ⟨by omega, by push_cast; omega⟩
      generalize accV 0 (a + 1 + (r : Int)) 0 T2 m2 = c at *
      generalize accT 0 (a + 1 + (r : Int)) 0 T2 m2 = T3 at *
      generalize accM 0 (a + 1 + (r : Int)) 0 0 T2 m2 = m3 at *
      clear s2 mm2 f2 hp hn hc hb l1 l2
      go_wp2_with fail
      refine Q1.out.mono ?_
      rintro e w3 ⟨rfl, rfl⟩
      go_wp2_with fail
      refine LD.out.mono ?_
      rintro e w3 ⟨rfl, tv3, mv3, s3, mm3⟩
      have HO := Lib.hid (holds_back c ep w3)
      have S3 := Lib.hid s3
      have M3 := Lib.hid (MM.out.trans mm3)
      clear s3 mm3 LD MM Q1
      cases hh : holds c ep with
      | true =>
        rw [hh] at HO HP
        go_wp2_with fail
        refine HO.out.mono ?_
        rintro e w4 ⟨rfl, rfl⟩
        go_wp2_with fail
        go_ret
        refine ⟨?_, tv3, mv3, ?_, M3.out⟩
        · rw [HP.out]; rfl
        · rw [HP.out]; exact S3.out
      | false =>
        rw [hh] at HO HP
        go_wp2_with fail
        refine HO.out.mono ?_
        rintro e w4 ⟨rfl, rfl⟩
        go_wp2_with fail
        go_roundw
        case rel =>
          refine ⟨r + 1, tv3, mv3, T3, m3, by omega, by go_num, S3.out, M3.out, F3.out, ?_, HN.out.1, HN.out.2⟩
          rw [HP.out, show 16 - (r + 1) = 15 - r from by omega]; rfl
        case measure => simp [intOf]; omega
    · have hr16 : r = 16 := by omega
      subst hr16
      have SD := Lib.hid (trStore a (wrap64 (ep + 1)) s2 f2 (by omega) (by omega))
      have F3 := Lib.hid (accT_fine (k := 1) (i := a) (old := 0) (m := m2) f2)
      have MM := Lib.hid mm2
      have HP : Hid (p = ⟨!dry (accT 1 a 0 T2 m2), accT 1 a 0 T2 m2, accM 1 a (wrap64 (ep + 1)) 0 T2 m2⟩) := Lib.hid hp
      generalize accT 1 a 0 T2 m2 = T3 at *
      generalize accM 1 a (wrap64 (ep + 1)) 0 T2 m2 = m3 at *
      clear s2 mm2 f2 hp hn hc hb
      go_wp2_with fail
      refine SD.out.mono ?_
      rintro e w3 ⟨rfl, tv3, mv3, s3, mm3⟩
      have DR := Lib.hid (drys s3 F3.out)
      have S3 := Lib.hid s3
      have M3 := Lib.hid (MM.out.trans mm3)
      clear s3 mm3
      go_wp2_with fail
      refine DR.out.mono ?_
      rintro e w4 ⟨rfl, rfl⟩
      go_wp2_with fail
      go_ret
      rw [HP.out]
      exact ⟨rfl, tv3, mv3, S3.out, M3.out⟩
end
end Go.Proofs.Ytpgepcmncppphaa
