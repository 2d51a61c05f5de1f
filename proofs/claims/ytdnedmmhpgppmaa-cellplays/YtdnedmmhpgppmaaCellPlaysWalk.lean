/-
  Layer 1: the walk of the statement on plays.
-/
import Derived.Test.YtdnedmmhpgppmaaCellRefNew
namespace Go.Proofs.Ytdnedmmhpgppmaa
open Go.ChangeShapes Go.WideShapes Go.ChangeAt Go.RowKit
set_option linter.unusedVariables false

set_option maxHeartbeats 1000000 in
theorem awake2 (w : World) : Calls Try.prog 8 #[] w fun e w' => e = .returned (.bool true) ∧ Below w.heap.size w w' := by
  have h3 : ∀ w : World, (Instr.makeSlice 39 (.int .i64 3) (.int .i64 3)).run Try.prog w = .ok (.slice (some ⟨w.heap.size, 0, none⟩) 3 3) (w.alloc (.cells #[.int .i64 0, .int .i64 0, .int .i64 0] 2)) := fun w => by kernel_rfl
  go_enter Try.func8, Try.ntmps8
  go_wp2
  go_ret
  exact ⟨rfl, ((Below.refl _ _).alloc (Nat.le_refl _) _).alloc (by simp) _⟩

/-- An op: its kind, its place, its number, and what should be there. -/
structure POp where
  kd : Int
  i : Int
  v : Int
  old : Int

/-- The op at place k of the list that came in, in memory. -/
def OpIn (w : World) (b off : Nat) (o : POp) (k : Nat) : Prop :=
  w.cell? ⟨b, off + k * 4, none⟩ = some (.int .u8 o.kd) ∧ w.cell? ⟨b, off + k * 4 + 1, none⟩ = some (.int .i64 o.i) ∧ w.cell? ⟨b, off + k * 4 + 2, none⟩ = some (.int .i64 o.v) ∧ w.cell? ⟨b, off + k * 4 + 3, none⟩ = some (.int .i64 o.old) ∧ 0 ≤ o.kd ∧ o.kd ≤ 255

/-- A list of ops that came in. -/
def OpsCame (w : World) (A : Option Addr) (n : Nat) : Prop :=
  0 < n → ∃ b off, A = some ⟨b, off, none⟩ ∧ b < w.heap.size ∧ ∀ k, k < n → ∃ o, OpIn w b off o k

theorem plays_many (A : Option Addr) (cap len : Nat) (n : Int) (w : World) (h : 300 < len) :
    Calls Try.prog 3 #[.int .i8 n, .slice A len cap] w fun e w' => e = .returned (.bool true) ∧ Below w.heap.size w w' := by
  go_enter Try.func3, Try.ntmps3
  go_wp2_with fail
  refine (awake2 _).mono ?_
  rintro e w1 ⟨rfl, hb1⟩
  go_wp2_with fail
  refine (awake2 _).mono ?_
  rintro e w2 ⟨rfl, hb2⟩
  go_wp2_with fail
  go_ret
  exact ⟨rfl, hb1.trans (hb2.mono hb1.size)⟩

theorem RefAt.from_ {w : World} {b base : Nat} {A : Option Addr} {c : Nat} {cs : List Int} {cnt : Int} (h : RefAt w b base A c cs cnt) (hb : base ≤ b) (j : Nat) (hj : Ref b A j) : base ≤ j := by
  rcases hj with rfl | ⟨x, rfl, rfl⟩
  · exact hb
  · exact (h.own.lt x.block rfl).1

/-- The loop's relation: both memories hold the same. -/
def PlayRel (w : World) (b g rb base len : Nat) (A : Option Addr) (c : Nat) (kv : Value) (wr : World) : Prop :=
  ∃ k : Nat, k ≤ len ∧ kv = .int .i64 k ∧ (∃ cs cnt, cnt ≤ (k : Int) ∧ MemAt wr b g cs cnt ∧ RefAt wr rb base A c cs cnt) ∧ Below w.heap.size w wr

set_option maxHeartbeats 4000000 in
set_option maxRecDepth 100000 in
theorem plays_few (A : Option Addr) (cap len : Nat) (n : Int) (w : World) (hn1 : -128 ≤ n) (hn2 : n ≤ 127) (h : len ≤ 300) (hz : OpsCame w A len) :
    Calls Try.prog 3 #[.int .i8 n, .slice A len cap] w fun e w' => e = .returned (.bool true) ∧ Below w.heap.size w w' := by
  have HZ := Lib.hid hz
  clear hz
  have hmany : many n = n.toNat := by unfold many; omega
  have HM := Lib.hid hmany
  clear hmany
  have hd3 : decide (300 < (len : Int)) = false := by simp; omega
  go_enter Try.func3, Try.ntmps3
  go_wp2_with fail
  refine (awake2 _).mono ?_
  rintro e w1 ⟨rfl, hb1⟩
  go_wp2_with fail
  refine (new_mem _ _).mono ?_
  rw [HM.out]
  rintro e w2 ⟨rfl, hmem, hb2, hs2⟩
  go_wp2_with fail
  refine (refNew_any _ _ hn2).mono ?_
  rintro e w3 ⟨rfl, ⟨rA, rc, href⟩, hb3⟩
  have hm3 := hmem.only (Only.of_below hb3 (fun _ => False)) id id
  have hbw : Below w.heap.size w w3 := hb1.trans ((hb2.mono hb1.size).trans (hb3.mono (by have := hb1.size; omega)))
  obtain ⟨mb, mg, rb, hmb, hmg, hrb, hmo⟩ : ∃ mb mg rb, mb = w1.heap.size + 1 ∧ mg = w1.heap.size ∧ rb = w2.heap.size ∧ (w.heap.size ≤ mg ∧ mg < mb ∧ mb < rb) := ⟨_, _, _, rfl, rfl, rfl, hb1.size, by omega, by omega⟩
  rw [← hmb, ← hmg] at hm3
  rw [← hrb] at href
  rw [← hmb, ← hrb]
  have BW := Lib.hid hbw
  have HME := Lib.hid hm3
  have HRE := Lib.hid href
  clear hmb hmg hrb hbw hmem hb2 hs2 hb1 hb3 hm3 href
  go_wp2_with fail
  go_loopw [7] (fun kv wr => PlayRel w mb mg rb rb len rA rc kv wr) (fun kv _ => len - (intOf kv).toNat)
  case atStart => exact ⟨0, by omega, by go_num, ⟨_, _, by omega, HME.out, HRE.out⟩, BW.out⟩
  case round =>
    obtain ⟨k, hk, rfl, ⟨cs, cnt, hcnt, hm, hr⟩, hb⟩ := hrel
    by_cases hlt : k < len
    · obtain ⟨zb, off, rfl, hzb, hzc⟩ := HZ.out (by omega)
      obtain ⟨⟨kd, i, v, old⟩, hq0, hq1, hq2, hq3, hkd0, hkd1⟩ := hzc k hlt
      simp only at hq0 hq1 hq2 hq3 hkd0 hkd1
      have p0 := (hb.cell (p := ⟨zb, off + k * 4, none⟩) hzb).trans hq0
      have p1 := (hb.cell (p := ⟨zb, off + k * 4 + 1, none⟩) hzb).trans hq1
      have p2 := (hb.cell (p := ⟨zb, off + k * 4 + 2, none⟩) hzb).trans hq2
      have p3 := (hb.cell (p := ⟨zb, off + k * 4 + 3, none⟩) hzb).trans hq3
      have HMM := Lib.hid hm
      have HRR := Lib.hid hr
      have HBB := Lib.hid hb
      clear hm hr hb hzc hq0 hq1 hq2 hq3
      go_wp2_with fail
      have hws := HBB.out.size
      have hlo := HMM.out.lo
      refine (do_any kd i v old hkd0 hkd1 HMM.out (by omega)).mono ?_
      rintro e w4 ⟨rfl, hm4, ho4⟩
      have nz : ¬ Two mb mg zb := by rintro (e | e) <;> omega
      have q0 := (ho4.cell (p := ⟨zb, off + k * 4, none⟩) (by show zb < _; omega) nz).trans p0
      have q1 := (ho4.cell (p := ⟨zb, off + k * 4 + 1, none⟩) (by show zb < _; omega) nz).trans p1
      have q2 := (ho4.cell (p := ⟨zb, off + k * 4 + 2, none⟩) (by show zb < _; omega) nz).trans p2
      have q3 := (ho4.cell (p := ⟨zb, off + k * 4 + 3, none⟩) (by show zb < _; omega) nz).trans p3
      have hr4 := HRR.out.only ho4 (fun j hj ht => by
        have := HRR.out.from_ (Nat.le_refl _) j hj
        rcases ht with e | e <;> omega)
      have hb4 : Below w.heap.size w w4 := HBB.out.trans (ho4.below (fun j hj => by rcases hj with e | e <;> omega) hws)
      have HM4 := Lib.hid hm4
      have HR4 := Lib.hid hr4
      have HB4 := Lib.hid hb4
      have hws4 := hb4.size
      clear hm4 hr4 hb4 ho4 p0 p1 p2 p3 HMM HRR HBB
      go_wp2_with fail
      refine (ref_any kd i v old hkd0 hkd1 HR4.out (by omega)).mono ?_
      rintro e w5 ⟨rfl, hr5, ho5⟩
      have hm5 := HM4.out.only ho5 (fun hj => by have := HR4.out.from_ (Nat.le_refl _) _ hj; omega) (fun hj => by have := HR4.out.from_ (Nat.le_refl _) _ hj; omega)
      have hb5 : Below w.heap.size w w5 := HB4.out.trans (ho5.below (fun j hj => by have := HR4.out.from_ (Nat.le_refl _) j hj; omega) hws4)
      have ht := tick_le i cs
      have HM5 := Lib.hid hm5
      have HR5 := Lib.hid hr5
      have HB5 := Lib.hid hb5
      clear hm5 hr5 hb5 ho5 q0 q1 q2 q3
      generalize told (kd % 4) i v old cs = r at *
      obtain ⟨r1, r2⟩ := r
      have e1 : (r1 != r1) = false := by simp
      have e2 : (r2 != r2) = false := by simp
      go_wp2_with fail
      go_roundw
      case rel => exact ⟨k + 1, by omega, by go_num, ⟨_, _, by omega, HM5.out, HR5.out⟩, HB5.out⟩
      case measure => simp [intOf]; omega
    · have HMM := Lib.hid hm
      have HRR := Lib.hid hr
      have HBB := Lib.hid hb
      have hws := hb.size
      clear hm hr hb
      go_wp2_with fail
      refine (same_any HMM.out HRR.out).mono ?_
      rintro e w6 ⟨rfl, hb6⟩
      go_wp2_with fail
      go_ret
      exact ⟨rfl, HBB.out.trans (hb6.mono hws)⟩
end Go.Proofs.Ytdnedmmhpgppmaa
