/-
  Layer 5: what Take, Give and Idle do; the statements' tasks.
-/
import Derived.Test.YtngihgdcoeokhaaTaskLay
namespace Go.Proofs.Ytngihgdcoeokhaa
open Go.ChangeShapes Go.WideShapes Go.ChangeAt Go.RowKit
set_option linter.unusedVariables false

/-- Take: an Add of 1, a wait for what was there. -/
def takeP (a : Int) : Task Int := .acc 2 a 1 0 fun k => .acc 4 (a + 1) 0 k fun _ => .ask fun d => .ret (if d then 0 else k)
/-- Give: a store of one more. -/
def giveP (a k : Int) : Task Unit := .acc 1 (a + 1) (wrap64 (k + 1)) 0 fun _ => .ret ()
/-- Idle: two loads. -/
def idleP (a : Int) : Task Bool := .acc 0 (a + 1) 0 0 fun s => .acc 0 a 0 0 fun d => .ret (s == d)

theorem goes_after {w w' w'' : World} {b g tb : Nat} {tv mv tv' mv' : Value} {m' : Mm} {v : Value} {T' : Tr} {e : Ending} (hm : Moved w b g tb tv mv w' tv' mv') (h : Goes w' b g tb tv' mv' v T' m' e w'') : Goes w b g tb tv mv v T' m' e w'' := by
  obtain ⟨he, tv2, mv2, h1, h2⟩ := h
  exact ⟨he, tv2, mv2, h1, hm.trans h2⟩

section
variable {w w' w'' : World} {b g tb : Nat} {tv mv tv' mv' : Value} {T : Tr} {m m' : Mm}

set_option maxHeartbeats 1000000 in
theorem takes (a : Int) (h0 : 0 ≤ a) (h1 : a ≤ 1000000) (h : St w b g tb tv mv T m) (hf : Fine T) (hr : T.told.length + 2 ≤ 1000) (hu : m.cnt + 2 ≤ 4611686018427387904) :
    Calls Try.prog 21 #[.pointer (some ⟨tb, 0, none⟩), .int .i64 a] w (Goes w b g tb tv mv (.int .i64 (play (takeP a) T m).a) (play (takeP a) T m).T (play (takeP a) T m).m) := by
  have e0 : IntKind.i64.wrap (a + 0) = a := by rw [IntKind.wrap_i64]; omega
  have e1 : IntKind.i64.wrap (a + 1) = a + 1 := by rw [IntKind.wrap_i64]; omega
  have A := Lib.hid (trAdd a 1 h hf (by omega) (by omega))
  have l1 := (accT_len 2 a 0 T m).1
  have l2 := accM_cnt 2 a 1 0 T m
  have f1 := accT_fine (k := 2) (i := a) (old := 0) (m := m) hf
  have HP : Hid (play (takeP a) T m = play (.acc 4 (a + 1) 0 (accV 2 a 0 T m) fun _ => .ask fun d => .ret (if d then 0 else accV 2 a 0 T m)) (accT 2 a 0 T m) (accM 2 a 1 0 T m)) := Lib.hid rfl
  have HL : Hid ((accT 2 a 0 T m).told.length + 1 ≤ 1000 ∧ (accM 2 a 1 0 T m).cnt + 1 ≤ 4611686018427387904 ∧ Fine (accT 2 a 0 T m)) := ⟨by omega, by omega, f1⟩
  clear h hf hr hu l1 l2 f1
  generalize play (takeP a) T m = p at *
  generalize accV 2 a 0 T m = k at *
  generalize accT 2 a 0 T m = T1 at *
  generalize accM 2 a 1 0 T m = m1 at *
  go_enter Try.func21, Try.ntmps21
  go_wp2_with fail
  refine A.out.mono ?_
  rintro e w1 ⟨rfl, tv1, mv1, s1, mm1⟩
  have M1 := Lib.hid mm1
  have B := Lib.hid (trWait (a + 1) k s1 HL.out.2.2 HL.out.1 HL.out.2.1)
  have F2 := Lib.hid (accT_fine (k := 4) (i := a + 1) (old := k) (m := m1) HL.out.2.2)
  have HP2 : Hid (p = ⟨if dry (accT 4 (a + 1) k T1 m1) then 0 else k, accT 4 (a + 1) k T1 m1, accM 4 (a + 1) 0 k T1 m1⟩) := HP.out
  clear s1 mm1 A HP
  generalize accT 4 (a + 1) k T1 m1 = T2 at *
  generalize accM 4 (a + 1) 0 k T1 m1 = m2 at *
  go_wp2_with fail
  refine B.out.mono ?_
  rintro e w2 ⟨rfl, tv2, mv2, s2, mm2⟩
  have D := Lib.hid (drys s2 F2.out)
  have S2 := Lib.hid s2
  have M2 := Lib.hid (M1.out.trans mm2)
  clear s2 mm2 B
  cases hd : dry T2 with
  | true =>
    rw [hd] at HP2 D
    go_wp2_with fail
    refine D.out.mono ?_
    rintro e w3 ⟨rfl, rfl⟩
    go_wp2_with fail
    go_ret
    rw [HP2.out]
    exact ⟨rfl, tv2, mv2, S2.out, M2.out⟩
  | false =>
    rw [hd] at HP2 D
    go_wp2_with fail
    refine D.out.mono ?_
    rintro e w3 ⟨rfl, rfl⟩
    go_wp2_with fail
    go_ret
    rw [HP2.out]
    exact ⟨rfl, tv2, mv2, S2.out, M2.out⟩

theorem gives (a k : Int) (h0 : 0 ≤ a) (h1 : a ≤ 1000000) (h : St w b g tb tv mv T m) (hf : Fine T) (hr : T.told.length + 1 ≤ 1000) (hu : m.cnt + 1 ≤ 4611686018427387904) :
    Calls Try.prog 24 #[.pointer (some ⟨tb, 0, none⟩), .int .i64 a, .int .i64 k] w (Goes w b g tb tv mv (.tuple #[]) (play (giveP a k) T m).T (play (giveP a k) T m).m) := by
  have e1 : IntKind.i64.wrap (a + 1) = a + 1 := by rw [IntKind.wrap_i64]; omega
  have A : Hid (Calls Try.prog 23 #[.pointer (some ⟨tb, 0, none⟩), .int .i64 (a + 1), .int .i64 (wrap64 (k + 1))] w (Goes w b g tb tv mv (.tuple #[]) (play (giveP a k) T m).T (play (giveP a k) T m).m)) := Lib.hid (trStore (a + 1) (wrap64 (k + 1)) h hf hr hu)
  clear h hf hr hu
  generalize (play (giveP a k) T m).T = T9 at *
  generalize (play (giveP a k) T m).m = m9 at *
  go_enter Try.func24, Try.ntmps24
  go_wp2_with fail
  refine A.out.mono ?_
  rintro e w1 ⟨rfl, tv1, mv1, s1, m1⟩
  have S := Lib.hid s1
  have M := Lib.hid m1
  clear s1 m1
  go_wp2_with fail
  go_end0
  exact ⟨rfl, tv1, mv1, S.out, M.out⟩

theorem idles (a : Int) (h0 : 0 ≤ a) (h1 : a ≤ 1000000) (h : St w b g tb tv mv T m) (hf : Fine T) (hr : T.told.length + 2 ≤ 1000) (hu : m.cnt + 2 ≤ 4611686018427387904) :
    Calls Try.prog 27 #[.pointer (some ⟨tb, 0, none⟩), .int .i64 a] w (Goes w b g tb tv mv (.bool (play (idleP a) T m).a) (play (idleP a) T m).T (play (idleP a) T m).m) := by
  have e0 : IntKind.i64.wrap (a + 0) = a := by rw [IntKind.wrap_i64]; omega
  have e1 : IntKind.i64.wrap (a + 1) = a + 1 := by rw [IntKind.wrap_i64]; omega
  have A := Lib.hid (trLoad (a + 1) h hf (by omega) (by omega))
  have l1 := (accT_len 0 (a + 1) 0 T m).1
  have l2 := accM_cnt 0 (a + 1) 0 0 T m
  have f1 := accT_fine (k := 0) (i := a + 1) (old := 0) (m := m) hf
  have HP : Hid (play (idleP a) T m = play (.acc 0 a 0 0 fun d => .ret (accV 0 (a + 1) 0 T m == d)) (accT 0 (a + 1) 0 T m) (accM 0 (a + 1) 0 0 T m)) := Lib.hid rfl
  have HL : Hid ((accT 0 (a + 1) 0 T m).told.length + 1 ≤ 1000 ∧ (accM 0 (a + 1) 0 0 T m).cnt + 1 ≤ 4611686018427387904 ∧ Fine (accT 0 (a + 1) 0 T m)) := ⟨by omega, by omega, f1⟩
  clear h hf hr hu l1 l2 f1
  generalize play (idleP a) T m = p at *
  generalize accV 0 (a + 1) 0 T m = k at *
  generalize accT 0 (a + 1) 0 T m = T1 at *
  generalize accM 0 (a + 1) 0 0 T m = m1 at *
  go_enter Try.func27, Try.ntmps27
  go_wp2_with fail
  refine A.out.mono ?_
  rintro e w1 ⟨rfl, tv1, mv1, s1, mm1⟩
  have M1 := Lib.hid mm1
  have B := Lib.hid (trLoad a s1 HL.out.2.2 HL.out.1 HL.out.2.1)
  have HP2 : Hid (p = ⟨k == accV 0 a 0 T1 m1, accT 0 a 0 T1 m1, accM 0 a 0 0 T1 m1⟩) := HP.out
  clear s1 mm1 A HP
  generalize accT 0 a 0 T1 m1 = T2 at *
  generalize accM 0 a 0 0 T1 m1 = m2 at *
  generalize accV 0 a 0 T1 m1 = d at *
  go_wp2_with fail
  refine B.out.mono ?_
  rintro e w2 ⟨rfl, tv2, mv2, s2, mm2⟩
  have S2 := Lib.hid s2
  have M2 := Lib.hid (M1.out.trans mm2)
  clear s2 mm2 B
  go_wp2_with fail
  go_ret
  rw [HP2.out]
  exact ⟨rfl, tv2, mv2, S2.out, M2.out⟩
end
end Go.Proofs.Ytngihgdcoeokhaa
