/-
  Layer 5: the statements' tasks: one makes a number one more under a latch, one asks whether it is idle.
-/
import Derived.Test.YtngihgdcoeokhaaLatch
namespace Go.Proofs.Ytngihgdcoeokhaa
open Go.ChangeShapes Go.WideShapes Go.ChangeAt Go.RowKit
set_option linter.unusedVariables false

/-- What is done behind the Take. -/
def userRest (k : Int) : Task (Option Value) := .acc 0 0 0 0 fun v => .acc 1 0 (wrap64 (v + 1)) 0 fun _ => (giveP 1 k).bind fun _ => .ask fun d => .ret (if d then none else some (.int .i64 k))
def userP : Task (Option Value) := (takeP 1).bind userRest
def idlerP : Task (Option Value) := (idleP 1).bind fun ok => .ask fun d => .ret (if d then none else some (.bool ok))

section
variable {w w' w'' : World} {b g tb : Nat} {tv mv tv' mv' : Value} {T T' : Tr} {m m' : Mm} {p : Addr}

theorem play_len {α : Type} (q : Task α) (T : Tr) (m : Mm) : T.told.length ≤ (play q T m).T.told.length := by
  induction q generalizing T m with
  | ret a => exact Nat.le_refl _
  | acc k i v old f ih =>
    refine Nat.le_trans ?_ (ih _ _ _)
    unfold accT
    repeat' split
    all_goals simp
  | ask f ih => exact ih _ _ _
theorem take_few (a : Int) (T : Tr) (m : Mm) : (play (takeP a) T m).T.told.length ≤ T.told.length + 2 ∧ (play (takeP a) T m).m.cnt ≤ m.cnt + 2 := by
  simp only [takeP, play]
  have l1 := (accT_len 2 a 0 T m).1
  have l2 := accM_cnt 2 a 1 0 T m
  have l3 := (accT_len 4 (a + 1) (accV 2 a 0 T m) (accT 2 a 0 T m) (accM 2 a 1 0 T m)).1
  have l4 := accM_cnt 4 (a + 1) 0 (accV 2 a 0 T m) (accT 2 a 0 T m) (accM 2 a 1 0 T m)
  omega
theorem idle_few (a : Int) (T : Tr) (m : Mm) : (play (idleP a) T m).T.told.length ≤ T.told.length + 2 ∧ (play (idleP a) T m).m.cnt ≤ m.cnt + 2 := by
  simp only [idleP, play]
  have l1 := (accT_len 0 (a + 1) 0 T m).1
  have l2 := accM_cnt 0 (a + 1) 0 0 T m
  have l3 := (accT_len 0 a 0 (accT 0 (a + 1) 0 T m) (accM 0 (a + 1) 0 0 T m)).1
  have l4 := accM_cnt 0 a 0 0 (accT 0 (a + 1) 0 T m) (accM 0 (a + 1) 0 0 T m)
  omega

set_option maxHeartbeats 2000000 in
theorem user_runs (h : St w b g tb tv mv T m) (hf : Fine T) (hsp : CellIn w b g tb tv mv (some p)) (hr : T.told.length + 5 ≤ 1000) (hu : m.cnt + 5 ≤ 4611686018427387904) :
    Calls Try.prog 12 #[.agg #[.pointer (some p)], .pointer (some ⟨tb, 0, none⟩)] w (RanL w b g tb tv mv (some p) (play userP T m)) := by
  have hnot : ∀ (x : Bool) (w : World), (Op.unary .not (.bool x)).run Try.prog w = .ok (.bool (!x)) w := fun _ _ => rfl
  have hb : Below w.heap.size w (w.alloc (.cells #[.pointer (some p)] 37)) := (Below.refl _ _).alloc (Nat.le_refl _) _
  have h' := h.still hb
  have hmb := Moved.still hb b g tb tv mv
  have bx := Whole.new w 37 #[.pointer (some p)]
  have BX := Lib.hid bx
  have NA := Lib.hid (not_all h' bx (by decide) (by decide) (by decide) (by decide))
  have HS := Lib.hid (hsp.moved hmb)
  have MB := Lib.hid hmb
  have X := Lib.hid (takes 1 (by omega) (by omega) h' hf (by omega) (by omega))
  have hfew := take_few 1 T m
  have HF : Hid (Fine (play (takeP 1) T m).T ∧ (play (takeP 1) T m).T.told.length + 3 ≤ 1000 ∧ (play (takeP 1) T m).m.cnt + 3 ≤ 4611686018427387904) := ⟨play_fine _ _ _ hf, by omega, by omega⟩
  have HP : Hid (play userP T m = play (userRest (play (takeP 1) T m).a) (play (takeP 1) T m).T (play (takeP 1) T m).m) := Lib.hid (play_bind _ _ _ _)
  clear h h' hf hsp hr hu hmb bx hfew
  generalize play userP T m = o at *
  generalize play (takeP 1) T m = q at *
  obtain ⟨k, T1, m1⟩ := q
  simp only at X HF HP
  go_enter Try.func12, Try.ntmps12
  generalize hwb : w.alloc (.cells #[.pointer (some p)] 37) = wb at *
  go_upto_region 1 with (fail)
  clear hwb hb
  go_wp2_with fail
  refine X.out.mono ?_
  rintro e w1 ⟨rfl, tv1, mv1, s1, mm1⟩
  have M1 := Lib.hid mm1
  have X2 := Lib.hid (trLoad 0 s1 HF.out.1 (by have := HF.out.2.1; omega) (by have := HF.out.2.2; omega))
  have l1 := (accT_len 0 0 0 T1 m1).1
  have l2 := accM_cnt 0 0 0 0 T1 m1
  have HF2 : Hid (Fine (accT 0 0 0 T1 m1) ∧ (accT 0 0 0 T1 m1).told.length + 2 ≤ 1000 ∧ (accM 0 0 0 0 T1 m1).cnt + 2 ≤ 4611686018427387904) := ⟨accT_fine HF.out.1, by have := HF.out.2.1; omega, by have := HF.out.2.2; omega⟩
  have HP2 : Hid (o = play (.acc 1 0 (wrap64 (accV 0 0 0 T1 m1 + 1)) 0 fun _ => (giveP 1 k).bind fun _ => .ask fun d => .ret (if d then none else some (.int .i64 k))) (accT 0 0 0 T1 m1) (accM 0 0 0 0 T1 m1)) := HP.out
  clear s1 mm1 X l1 l2 HF HP
  generalize accV 0 0 0 T1 m1 = v at *
  generalize accT 0 0 0 T1 m1 = T2 at *
  generalize accM 0 0 0 0 T1 m1 = m2 at *
  go_wp2_with fail
  refine X2.out.mono ?_
  rintro e w2 ⟨rfl, tv2, mv2, s2, mm2⟩
  have M2 := Lib.hid (M1.out.trans mm2)
  have X3 := Lib.hid (trStore 0 (wrap64 (v + 1)) s2 HF2.out.1 (by have := HF2.out.2.1; omega) (by have := HF2.out.2.2; omega))
  have l1 := (accT_len 1 0 0 T2 m2).1
  have l2 := accM_cnt 1 0 (wrap64 (v + 1)) 0 T2 m2
  have HF3 : Hid (Fine (accT 1 0 0 T2 m2) ∧ (accT 1 0 0 T2 m2).told.length + 1 ≤ 1000 ∧ (accM 1 0 (wrap64 (v + 1)) 0 T2 m2).cnt + 1 ≤ 4611686018427387904) := ⟨accT_fine HF2.out.1, by have := HF2.out.2.1; omega, by have := HF2.out.2.2; omega⟩
  have HP3 : Hid (o = play ((giveP 1 k).bind fun _ => .ask fun d => .ret (if d then none else some (.int .i64 k))) (accT 1 0 0 T2 m2) (accM 1 0 (wrap64 (v + 1)) 0 T2 m2)) := HP2.out
  clear s2 mm2 X2 l1 l2 HF2 HP2 M1
  generalize accT 1 0 0 T2 m2 = T3 at *
  generalize accM 1 0 (wrap64 (v + 1)) 0 T2 m2 = m3 at *
  go_wp2_with fail
  refine X3.out.mono ?_
  rintro e w3 ⟨rfl, tv3, mv3, s3, mm3⟩
  have M3 := Lib.hid (M2.out.trans mm3)
  have X4 := Lib.hid (gives 1 k (by omega) (by omega) s3 HF3.out.1 (by have := HF3.out.2.1; omega) (by have := HF3.out.2.2; omega))
  have F4 := Lib.hid (play_fine (giveP 1 k) T3 m3 HF3.out.1)
  have HP4 : Hid (o = ⟨if dry (play (giveP 1 k) T3 m3).T then none else some (.int .i64 k), (play (giveP 1 k) T3 m3).T, (play (giveP 1 k) T3 m3).m⟩) := by
    have h1 := HP3.out
    rw [play_bind] at h1
    exact h1
  clear s3 mm3 X3 HF3 HP3 M2
  generalize (play (giveP 1 k) T3 m3).T = T4 at *
  generalize (play (giveP 1 k) T3 m3).m = m4 at *
  go_wp2_with fail
  refine X4.out.mono ?_
  rintro e w4 ⟨rfl, tv4, mv4, s4, mm4⟩
  have m4' := M3.out.trans mm4
  have c0 : w4.cell? ⟨w.heap.size, 0, none⟩ = some (.pointer (some p)) := (BX.out.only m4'.only NA.out).cell 0
  obtain ⟨⟨u, hu⟩, hz, hn⟩ := HS.out.moved m4' p rfl
  have D := Lib.hid (drys s4 F4.out)
  have S4 := Lib.hid s4
  have M4 := Lib.hid (MB.out.trans m4')
  clear s4 mm4 m4' X4 M3 HS hn
  cases hd : dry T4 with
  | true =>
    rw [hd] at HP4 D
    go_wp2_with fail
    refine D.out.mono ?_
    rintro e w5 ⟨rfl, rfl⟩
    go_wp2_with fail
    go_end0
    rw [HP4.out]
    exact ⟨rfl, tv4, mv4, w4, S4.out, M4.out, rfl⟩
  | false =>
    rw [hd] at HP4 D
    go_wp2_with fail
    refine D.out.mono ?_
    rintro e w5 ⟨rfl, rfl⟩
    go_wp2_with fail
    go_end0
    rw [HP4.out]
    exact ⟨rfl, tv4, mv4, w4, S4.out, M4.out, rfl⟩

set_option maxHeartbeats 2000000 in
theorem idler_runs (h : St w b g tb tv mv T m) (hf : Fine T) (hsp : CellIn w b g tb tv mv (some p)) (hr : T.told.length + 5 ≤ 1000) (hu : m.cnt + 5 ≤ 4611686018427387904) :
    Calls Try.prog 17 #[.agg #[.pointer (some p)], .pointer (some ⟨tb, 0, none⟩)] w (RanL w b g tb tv mv (some p) (play idlerP T m)) := by
  have hnot : ∀ (x : Bool) (w : World), (Op.unary .not (.bool x)).run Try.prog w = .ok (.bool (!x)) w := fun _ _ => rfl
  have hb : Below w.heap.size w (w.alloc (.cells #[.pointer (some p)] 51)) := (Below.refl _ _).alloc (Nat.le_refl _) _
  have h' := h.still hb
  have hmb := Moved.still hb b g tb tv mv
  have bx := Whole.new w 51 #[.pointer (some p)]
  have BX := Lib.hid bx
  have NA := Lib.hid (not_all h' bx (by decide) (by decide) (by decide) (by decide))
  have HS := Lib.hid (hsp.moved hmb)
  have MB := Lib.hid hmb
  have X := Lib.hid (idles 1 (by omega) (by omega) h' hf (by omega) (by omega))
  have F4 := Lib.hid (play_fine (idleP 1) T m hf)
  have HP4 : Hid (play idlerP T m = ⟨if dry (play (idleP 1) T m).T then none else some (.bool (play (idleP 1) T m).a), (play (idleP 1) T m).T, (play (idleP 1) T m).m⟩) := Lib.hid (play_bind _ _ _ _)
  clear h h' hf hsp hr hu hmb bx
  generalize play idlerP T m = o at *
  generalize play (idleP 1) T m = q at *
  obtain ⟨k, T4, m4⟩ := q
  simp only at X F4 HP4
  go_enter Try.func17, Try.ntmps17
  generalize hwb : w.alloc (.cells #[.pointer (some p)] 51) = wb at *
  go_upto_region 1 with (fail)
  clear hwb hb
  go_wp2_with fail
  refine X.out.mono ?_
  rintro e w4 ⟨rfl, tv4, mv4, s4, mm4⟩
  have c0 : w4.cell? ⟨w.heap.size, 0, none⟩ = some (.pointer (some p)) := (BX.out.only mm4.only NA.out).cell 0
  obtain ⟨⟨u, hu⟩, hz, hn⟩ := HS.out.moved mm4 p rfl
  have D := Lib.hid (drys s4 F4.out)
  have S4 := Lib.hid s4
  have M4 := Lib.hid (MB.out.trans mm4)
  clear s4 mm4 X HS hn
  cases hd : dry T4 with
  | true =>
    rw [hd] at HP4 D
    go_wp2_with fail
    refine D.out.mono ?_
    rintro e w5 ⟨rfl, rfl⟩
    go_wp2_with fail
    go_end0
    rw [HP4.out]
    exact ⟨rfl, tv4, mv4, w4, S4.out, M4.out, rfl⟩
  | false =>
    rw [hd] at HP4 D
    go_wp2_with fail
    refine D.out.mono ?_
    rintro e w5 ⟨rfl, rfl⟩
    go_wp2_with fail
    go_end0
    rw [HP4.out]
    exact ⟨rfl, tv4, mv4, w4, S4.out, M4.out, rfl⟩

theorem user_step (time : Int) (h : St w b g tb tv mv T m) (ho : T.over = false) (hp : T.ph = 0) (hsp : CellIn w b g tb tv mv (some p)) (hr : T.told.length + 5 ≤ 1000) (hu : m.cnt + 5 ≤ 4611686018427387904) :
    Calls Try.prog 11 #[.pointer (some ⟨tb, 0, none⟩), .int .i64 time, .func (.func 12) #[.agg #[.pointer (some p)]] #[]] w fun e w' =>
      e = .returned (.bool (turn userP T.told m).over) ∧ ∃ T' tv' mv', SteppedL w b g tb tv mv (some p) T (turn userP T.told m) T' tv' mv' w' :=
  task_lays (T' := T) time _ #[.agg #[.pointer (some p)]] userP (fun _ => rfl) h ho hp hsp (fun w1 T1 s1 f1 g1 hl => user_runs s1 f1 g1 (by omega) hu) rfl
theorem idler_step (time : Int) (h : St w b g tb tv mv T m) (ho : T.over = false) (hp : T.ph = 0) (hsp : CellIn w b g tb tv mv (some p)) (hr : T.told.length + 5 ≤ 1000) (hu : m.cnt + 5 ≤ 4611686018427387904) :
    Calls Try.prog 11 #[.pointer (some ⟨tb, 0, none⟩), .int .i64 time, .func (.func 17) #[.agg #[.pointer (some p)]] #[]] w fun e w' =>
      e = .returned (.bool (turn idlerP T.told m).over) ∧ ∃ T' tv' mv', SteppedL w b g tb tv mv (some p) T (turn idlerP T.told m) T' tv' mv' w' :=
  task_lays (T' := T) time _ #[.agg #[.pointer (some p)]] idlerP (fun _ => rfl) h ho hp hsp (fun w1 T1 s1 f1 g1 hl => idler_runs s1 f1 g1 (by omega) hu) rfl
end
end Go.Proofs.Ytngihgdcoeokhaa
