/-
  Layer 4: how many of so many tries went.
-/
import Derived.Test.YtpgepcmncppphaaRcuBoard
namespace Go.Proofs.Ytpgepcmncppphaa
open Go.ChangeShapes Go.WideShapes Go.ChangeAt Go.RowKit
set_option linter.unusedVariables false

theorem rsteps_zero (kd : Int) (r : Nat) (x : Rt × List Int) : rsteps kd r 0 x = x := rfl
theorem rsteps_succ (kd : Int) (r n : Nat) (x : Rt × List Int) : rsteps kd r (n + 1) x = rstep kd r (rsteps kd r n x).1 (rsteps kd r n x).2 := rfl
attribute [local irreducible] rsteps
/-- One try. -/
def tryR (bl : List Int) : Rt × List Int := rsteps 2 0 18 (rt0, bl)
theorem tryR_eq (bl : List Int) : rsteps 2 0 18 (rt0, bl) = tryR bl := rfl
attribute [irreducible] tryR
/-- n tries: the board, and how many went. -/
def triesR : Nat → List Int → List Int × Nat
  | 0, bl => (bl, 0)
  | n + 1, bl => ((tryR (triesR n bl).1).2, (triesR n bl).2 + if (tryR (triesR n bl).1).1.went then 1 else 0)
theorem triesR_succ (n : Nat) (bl : List Int) : triesR (n + 1) bl = ((tryR (triesR n bl).1).2, (triesR n bl).2 + if (tryR (triesR n bl).1).1.went then 1 else 0) := rfl
theorem tries_le (n : Nat) (bl : List Int) : (triesR n bl).2 ≤ n := by
  induction n with
  | zero => exact Nat.le_refl _
  | succ n ih => rw [triesR_succ]; simp only; split <;> omega

/-- A memory with a board, behind calls that turned nothing else. -/
structure Mem4 (w0 : World) (b g : Nat) (bl : List Int) (c : Int) (m : Mm) (w : World) : Prop where
  mem : MemAt w b g m.cs m.cnt
  size : m.cs.length = 30
  board : seen m.cs 3 17 = bl
  cnt : m.cnt ≤ c
  only : Only (Two b g) w0 w
def TriedRel (w : World) (b g : Nat) (bl : List Int) (c : Int) (n : Nat) (wv iv : Value) (wr : World) : Prop :=
  ∃ (i : Nat) (m : Mm), i ≤ n ∧ iv = .int .i64 i ∧ wv = .int .i64 (triesR i bl).2 ∧ Mem4 w b g (triesR i bl).1 (c + 18 * i) m wr

set_option maxHeartbeats 4000000 in
theorem tried_walk {w : World} {b g : Nat} {bl : List Int} {c : Int} {m : Mm} (n : Nat) (hn : n ≤ 100) (h : MemAt w b g m.cs m.cnt) (hl : m.cs.length = 30) (hbl : seen m.cs 3 17 = bl) (hm : m.cnt ≤ c) (hc : c ≤ 900000) :
    Calls Try.prog 14 #[.pointer (some ⟨b, 0, none⟩), .int .i64 n] w fun e w' => ∃ m', e = .returned (.int .i64 (triesR n bl).2) ∧ Mem4 w b g (triesR n bl).1 (c + 18 * n) m' w' := by
  have hmf : ∀ (fn : Fn) (first cap : Array Value) (w : World), (Instr.makeFunc fn first cap).run Try.prog w = .ok (.func fn first cap) w := fun _ _ _ _ => rfl
  have R0 : Hid (TriedRel w b g bl c n (.int .i64 0) (.int .i64 0) w) := ⟨0, m, by omega, rfl, rfl, h, hl, hbl, by simpa using hm, Only.refl _ _⟩
  clear h hl hbl hm
  go_enter Try.func14, Try.ntmps14
  go_wp2_with fail
  go_loopw [5, 6] (fun wv iv wr => TriedRel w b g bl c n wv iv wr) (fun _ iv _ => n - (intOf iv).toNat)
  case atStart => exact R0.out
  case round =>
    obtain ⟨i, m1, hi, rfl, rfl, hM⟩ := hrel
    have M1 := Lib.hid hM
    clear hM
    have hle := tries_le i bl
    by_cases hlt : i < n
    · go_wp2_with fail
      refine (new_trail_ex (m := m1) M1.out.mem).mono ?_
      rintro e w2 ⟨tb, rfl, hs, htb, hbel⟩
      have SO := Lib.hid (solo_new (w2 := w2) 2 (c + 18 * i) hs hbel htb M1.out.size M1.out.cnt).2
      rw [M1.out.board] at SO
      clear hs hbel
      go_upto_region 7 with (fail)
      generalize hw3 : w2.alloc (.cells #[.bool false] 4) = w3 at *
      generalize w2.heap.size = qb at *
      clear hw3
      go_wp2_with fail
      go_loopw [9] (fun kv wx => SoloRel wr b g tb (some qb) 2 0 (rt0, (triesR i bl).1) (c + 18 * i) 18 kv wx) (fun kv _ => 18 - (intOf kv).toNat)
      case atStart => exact ⟨0, _, _, _, _, by omega, rfl, by rw [rsteps_zero]; simpa using SO.out⟩
      case round =>
        obtain ⟨k, T, m, tv, mv, hk, rfl, hS⟩ := hrel
        have S1 := Lib.hid hS
        clear hS
        by_cases hlt2 : k < 18
        · have X := Lib.hid (solo_step (k : Int) 0 (by omega) (by omega) (by omega) S1.out (fun _ => by simp) (by omega))
          go_wp2_with fail
          refine X.out.mono ?_
          rintro e w4 ⟨T', m', tv', mv', rfl, hS'⟩
          rw [← rsteps_succ] at hS'
          have S2 := Lib.hid hS'
          clear hS' X
          go_wp2_with fail
          go_roundw
          case rel => exact ⟨k + 1, _, _, _, _, by omega, by go_num, by push_cast; rw [← Int.add_assoc]; exact S2.out⟩
          case measure => simp [intOf]; omega
        · have hk18 : k = 18 := by omega
          subst hk18
          rw [tryR_eq] at S1
          have hs := S1.out
          have cq : wr.cell? ⟨qb, 0, none⟩ = some (.bool (tryR (triesR i bl).1).1.went) := (hs.flag qb rfl).1.cell 0
          have NX : Hid (∀ u, u = ((triesR (i + 1) bl).2 : Int) → TriedRel w b g bl c n (.int .i64 u) (.int .i64 ((i : Int) + 1)) wr) := by
            refine Lib.hid (fun u hu => ⟨i + 1, m, by omega, by simp, by rw [hu], hs.st.mem, hs.size, ?_, ?_, M1.out.only.trans hs.only⟩)
            · rw [hs.board, triesR_succ]
            · have := hs.cnt; push_cast at this ⊢; omega
          have hsucc := Lib.hid (triesR_succ i bl)
          clear hs S1 M1 SO
          cases hw : (tryR (triesR i bl).1).1.went with
          | true =>
            rw [hw] at cq hsucc
            go_wp2_with fail
            go_roundw
            case rel =>
              refine NX.out _ ?_
              rw [hsucc.out]; simp
            case measure => simp [intOf]; omega
          | false =>
            rw [hw] at cq hsucc
            go_wp2_with fail
            go_roundw
            case rel =>
              refine NX.out _ ?_
              rw [hsucc.out]; simp
            case measure => simp [intOf]; omega
    · have hin : i = n := by omega
      subst hin
      go_wp2_with fail
      go_ret
      exact ⟨m1, rfl, M1.out⟩
end Go.Proofs.Ytpgepcmncppphaa
