/-
  Layer 2: what a program that does nothing does not answer; and the statement on two words of two slots.
-/
import Derived.Test.YtlgaihlbfjndhaaArenaBorn
namespace Go.Proofs.Ytlgaihlbfjndhaa
open Go.ChangeShapes Go.WideShapes Go.ChangeAt Go.RowKit
set_option linter.unusedVariables false

theorem born_in {w : World} {b g : Nat} {fst : Int} {l : Slots} {st db : Bool} (s G : Int) (H : ArAt w b g fst l st db) (hG : Gens l G) (hG0 : 0 ≤ G) (hG1 : G + 1 ≤ 1099511627776) (h1 : 1 ≤ s) (h2 : s ≤ l.length) :
    Calls Try.prog 10 #[.pointer (some ⟨b, 0, none⟩), .int .i64 s] w (ArDid w b g (.int .i64 (hndAt (bornAt l (s - 1).toNat) (s - 1).toNat)) fst (bornAt l (s - 1).toNat) st (db || liveAt l (s - 1).toNat)) := by
  obtain ⟨i, rfl⟩ : ∃ i : Nat, s = (i : Int) + 1 := ⟨(s - 1).toNat, by omega⟩
  have e : ((i : Int) + 1 - 1).toNat = i := by omega
  rw [e]
  exact born_yes i G H hG hG0 hG1 (by omega)

/-- A new arena somewhere, and nothing else has turned. -/
def ArNew (w : World) (fst : Int) (k : Nat) (e : Ending) (w' : World) : Prop :=
  ∃ b g, e = .returned (.pointer (some ⟨b, 0, none⟩)) ∧ ArAt w' b g fst (fresh k) false false ∧ w.heap.size ≤ b ∧ w.heap.size ≤ g ∧ Below w.heap.size w w'
theorem arNew_ex (first n : Int) (w : World) : Calls Try.prog 8 #[.int .i64 first, .int .i64 n] w (ArNew w (firstOf first) (slotsOf n)) :=
  (arNew_any first n w).mono fun _ _ ⟨he, ha, hb, _⟩ => ⟨_, _, he, ha, by omega, by omega, hb⟩

theorem gens_fresh (n : Nat) : Gens (fresh n) 0 := gens_new n

set_option maxHeartbeats 1000000 in
theorem arAwake (w : World) : Calls Try.prog 7 #[] w fun e w' => e = .returned (.bool true) ∧ Below w.heap.size w w' := by
  have e3 : slotsOf 3 = 3 := rfl
  have e0 : firstOf 0 = 0 := rfl
  have eh : hndAt (bornAt (fresh 3) 2) 2 = 65539 := rfl
  have er : rightB (bornAt (fresh 3) 2) 65539 = true := right_yes (i := 2) (by decide) rfl rfl
  have E3 := Lib.hid e3
  have E0 := Lib.hid e0
  have EH := Lib.hid eh
  have ER := Lib.hid er
  clear e3 e0 eh er
  go_enter Try.func7, Try.ntmps7
  go_wp2_with fail
  refine (arNew_any _ _ _).mono ?_
  rw [E3.out, E0.out]
  rintro e w1 ⟨rfl, ha, hb1, hz⟩
  have hc := ha.c1
  rw [fresh_length] at hc
  have HA := Lib.hid ha
  have HZ := Lib.hid hz
  clear ha hz
  go_wp2_with fail
  refine (slots_any _ _ _ _ hc).mono ?_
  rintro e w' ⟨rfl, rfl⟩
  go_wp2_with fail
  refine (born_in 3 0 HA.out (gens_fresh 3) (by omega) (by omega) (by omega) (by rw [fresh_length]; omega)).mono ?_
  rw [show ((3 : Int) - 1).toNat = 2 from rfl, EH.out]
  rintro e w2 ⟨rfl, ha2, ho2⟩
  have HA2 := Lib.hid ha2
  clear ha2 hc
  go_wp2_with fail
  refine (right_any 65539 1 HA2.out (gens_born (gens_fresh 3) (by omega) 2) (by omega) (by omega) (by omega)).mono ?_
  rw [ER.out]
  rintro e w3 ⟨rfl, hb3⟩
  go_wp2_with fail
  go_ret
  have h2 : Below w.heap.size w w2 := hb1.trans (ho2.below (fun k hk => by rcases hk with h | h <;> omega) hb1.size)
  exact ⟨rfl, h2.trans (hb3.mono h2.size)⟩
end Go.Proofs.Ytlgaihlbfjndhaa
