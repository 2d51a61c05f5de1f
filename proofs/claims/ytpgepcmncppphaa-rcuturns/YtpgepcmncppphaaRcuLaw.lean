/-
  Layer 4: what a program that does nothing does not answer.
-/
import Derived.Test.YtpgepcmncppphaaRcuRounds
namespace Go.Proofs.Ytpgepcmncppphaa
open Go.ChangeShapes Go.WideShapes Go.ChangeAt Go.RowKit
set_option linter.unusedVariables false

/-- Steps of a loop. -/
def SoloRel (w0 : World) (b g tb : Nat) (q : Option Nat) (kd : Int) (r : Nat) (x0 : Rt × List Int) (c : Int) (n : Nat) (iv : Value) (wr : World) : Prop :=
  ∃ (k : Nat) (T : Tr) (m : Mm) (tv mv : Value), k ≤ n ∧ iv = .int .i64 k ∧ Solo w0 b g tb q kd (rsteps kd r k x0).1 (rsteps kd r k x0).2 (c + k) T m tv mv wr

theorem load_ex {w : World} {b g : Nat} {cs : List Int} {cnt : Int} (i : Nat) (h : MemAt w b g cs cnt) (h1 : i < cs.length) (hu : cnt + 1 ≤ 4611686018427387904) :
    Calls Try.prog 17 #[.pointer (some ⟨b, 0, none⟩), .int .i64 i] w fun e w' => e = .returned (.tuple #[.int .i64 (nth cs i), .int .i64 0]) ∧ MemAt w' b g cs (cnt + 1) ∧ Only (Two b g) w w' := by
  have := load_in (i : Int) h (by omega) (by omega) hu
  exact this

set_option maxHeartbeats 2000000 in
theorem rcu_awake (w : World) : Calls Try.prog 7 #[] w fun e w' => e = .returned (.bool true) ∧ Below w.heap.size w w' := by
  have hnot : ∀ (x : Bool) (w : World), (Op.unary .not (.bool x)).run Try.prog w = .ok (.bool (!x)) w := fun _ _ => rfl
  have hmf : ∀ (fn : Fn) (first cap : Array Value) (w : World), (Instr.makeFunc fn first cap).run Try.prog w = .ok (.func fn first cap) w := fun _ _ _ _ => rfl
  go_enter Try.func7, Try.ntmps7
  go_wp2_with fail
  refine (new_mem_ex 30 _).mono ?_
  rintro e w1 ⟨b, g, rfl, hm, hb, hg, hbel⟩
  have HM : Hid (MemAt w1 b g (Mm.mk (List.replicate 30 0) 0).cs (Mm.mk (List.replicate 30 0) 0).cnt) := hm
  have HB := Lib.hid hbel
  have hsz1 := hbel.size
  clear hm hbel
  go_wp2_with fail
  refine (new_trail_ex (m := ⟨List.replicate 30 0, 0⟩) HM.out).mono ?_
  rintro e w2 ⟨tb, rfl, hs, htb, hbel⟩
  have SO := Lib.hid (solo_new (w2 := w2) 2 0 hs hbel htb (by simp) (by simp)).2
  simp only [bl0_seen] at SO
  clear hs hbel HM
  go_upto_region 4 with (fail)
  generalize hw3 : w2.alloc (.cells #[.bool false] 4) = w3 at *
  generalize w2.heap.size = qb at *
  clear hw3
  go_wp2_with fail
  go_loopw [4] (fun iv wr => SoloRel w1 b g tb (some qb) 2 0 (rt0, bl0) 0 20 iv wr) (fun iv _ => 20 - (intOf iv).toNat)
  case atStart => exact ⟨0, _, _, _, _, by omega, rfl, SO.out⟩
  case round =>
    obtain ⟨k, T, m, tv, mv, hk, rfl, hS⟩ := hrel
    have S1 := Lib.hid hS
    clear hS
    by_cases hlt : k < 20
    · have X := Lib.hid (solo_step (k : Int) 0 (by omega) (by omega) (by omega) S1.out (fun _ => by simp) (by omega))
      go_wp2_with fail
      refine X.out.mono ?_
      rintro e w4 ⟨T', m', tv', mv', rfl, hS'⟩
      have S2 := Lib.hid hS'
      clear hS' X
      go_wp2_with fail
      go_roundw
      case rel => exact ⟨k + 1, _, _, _, _, by omega, by go_num, S2.out⟩
      case measure => simp [intOf]; omega
    · have hk20 : k = 20 := by omega
      subst hk20
      rw [awake_went] at S1
      have hs := S1.out
      have L := Lib.hid (load_ex 3 hs.st.mem (by have := hs.size; omega) (by have := hs.cnt; omega))
      have hv : nth m.cs 3 = 1 := by
        have h1 := nth_seen m.cs 0 (by omega)
        rw [hs.board] at h1
        exact h1.symm
      rw [hv] at L
      clear hs hv
      go_wp2_with fail
      refine L.out.mono ?_
      rintro e w5 ⟨rfl, hm5, ho5⟩
      have c5 : w5.cell? ⟨qb, 0, none⟩ = some (.bool true) := (((S1.out.flag qb rfl).1.only ho5 (fun hn => not_all S1.out.st (S1.out.flag qb rfl).1 (by decide) (by decide) (by decide) (by decide) (hn.elim .inl (fun h => .inr (.inl h)))))).cell 0
      have HB5 : Hid (Below w.heap.size w w5) := by
        refine HB.out.trans ((S1.out.only.trans ho5).below (fun k hk => ?_) hsz1)
        rcases hk with hk | hk <;> omega
      have F1 := Lib.hid (frees 0 2 w5 (by omega) (by omega))
      have F2 := Lib.hid (frees 1 2 w5 (by omega) (by omega))
      rw [show free 0 2 = true from by decide] at F1
      rw [show free 1 2 = false from by decide] at F2
      clear hm5 ho5 S1 L SO HB
      go_wp2_with fail
      refine F1.out.mono ?_
      rintro e w6 ⟨rfl, rfl⟩
      go_wp2_with fail
      refine F2.out.mono ?_
      rintro e w6 ⟨rfl, rfl⟩
      go_wp2_with fail
      go_ret
      exact ⟨rfl, HB5.out⟩
end Go.Proofs.Ytpgepcmncppphaa
