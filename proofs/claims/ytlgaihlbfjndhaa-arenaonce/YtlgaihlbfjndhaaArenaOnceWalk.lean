/-
  Layer 2: the walk of the statement on the births of one slot.
-/
import Derived.Test.YtlgaihlbfjndhaaArenaLive
namespace Go.Proofs.Ytlgaihlbfjndhaa
open Go.ChangeShapes Go.WideShapes Go.ChangeAt Go.RowKit
set_option linter.unusedVariables false

/-- Behind k births and deaths of place i. -/
structure OnceSt (l : Slots) (i k : Nat) : Prop where
  len : l.length = 10
  gen : genAt l i = k
  dead : ∀ j, liveAt l j = false
  gens : Gens l k

theorem once_new (i : Nat) : OnceSt (fresh 10) i 0 := ⟨fresh_length 10, genAt_new 10 i, liveAt_new 10, gens_new 10⟩
theorem dead_right {l : Slots} (h : ∀ j, liveAt l j = false) (x : Int) : rightB l x = false := right_no fun i _ hl => by rw [h i] at hl; cases hl
theorem dead_live {l : Slots} (h : ∀ j, liveAt l j = false) : ∀ k, liveTo l k = []
  | 0 => rfl
  | k + 1 => by rw [liveTo_no (h k), dead_live h k]
section
variable {l : Slots} {i k : Nat}
theorem OnceSt.born_hnd (h : OnceSt l i k) (hi : i < 10) : hndAt (bornAt l i) i = ((k : Int) + 1) * 65536 + ((i : Int) + 1) := by
  unfold hndAt; rw [genAt_born (by rw [h.len]; exact hi), h.gen]
theorem OnceSt.born_live (h : OnceSt l i k) (hi : i < 10) (j : Nat) : liveAt (bornAt l i) j = if j = i then true else false := by
  rw [bornAt, liveAt_set _ _ _ _ (by rw [h.len]; exact hi)]
  split
  · rfl
  · exact h.dead j
theorem OnceSt.right (h : OnceSt l i k) (hi : i < 10) : rightB (bornAt l i) (((k : Int) + 1) * 65536 + ((i : Int) + 1)) = true :=
  right_yes (i := i) (by rw [born_length, h.len]; exact hi) (by rw [h.born_live hi, if_pos rfl]) (h.born_hnd hi)
theorem OnceSt.wrong (h : OnceSt l i k) (hi : i < 10) (x : Int) (hx : x < ((k : Int) + 1) * 65536 + ((i : Int) + 1)) : rightB (bornAt l i) x = false := by
  refine right_no fun j _ hl he => ?_
  rw [h.born_live hi] at hl
  by_cases hj : j = i
  · subst hj; rw [h.born_hnd hi] at he; omega
  · rw [if_neg hj] at hl; cases hl
theorem OnceSt.next (h : OnceSt l i k) (hi : i < 10) : OnceSt (diedAt (bornAt l i) i) i (k + 1) := by
  have hl : i < l.length := by rw [h.len]; exact hi
  have hl' : i < (bornAt l i).length := by rw [born_length]; exact hl
  refine ⟨by rw [died_length, born_length, h.len], ?_, fun j => ?_, ?_⟩
  · rw [diedAt, genAt_set _ _ _ _ hl', if_pos rfl, genAt_born hl, h.gen]; simp
  · rw [diedAt, liveAt_set _ _ _ _ hl']
    split
    · rfl
    · rename_i hj; rw [h.born_live hi, if_neg hj]
  · have := gens_died (gens_born h.gens (by omega) i) (by omega) i
    simpa using this
end

/-- The loop's relation: k births and deaths. -/
def OnceRel (w : World) (b g i n : Nat) (last iv : Value) (wr : World) : Prop :=
  ∃ k : Nat, k ≤ n ∧ iv = .int .i64 k ∧ (∃ x : Int, last = .int .i64 x ∧ x < ((k : Int) + 1) * 65536 + ((i : Int) + 1)) ∧ (∃ l, OnceSt l i k ∧ ArAt wr b g 0 l false false) ∧ Below w.heap.size w wr

set_option maxHeartbeats 4000000 in
set_option maxRecDepth 100000 in
theorem once_any (n s : Int) (w : World) (hn0 : 0 ≤ n) (hn1 : n ≤ 255) (hs0 : 0 ≤ s) (hs1 : s ≤ 255) :
    Calls Try.prog 6 #[.int .u8 n, .int .u8 s] w fun e w' => e = .returned (.bool true) ∧ Below w.heap.size w w' := by
  obtain ⟨m, hm⟩ : ∃ m : Nat, n % 200 = m := ⟨(n % 200).toNat, by omega⟩
  obtain ⟨i, hi⟩ : ∃ i : Nat, s % 10 = i := ⟨(s % 10).toNat, by omega⟩
  have hm1 : m < 200 := by omega
  have hi1 : i < 10 := by omega
  have HI := Lib.hid hi
  have HM := Lib.hid hm
  clear hi hm
  have E3 : Hid (slotsOf 10 = 10) := rfl
  have E0 : Hid (firstOf 0 = 0) := rfl
  go_enter Try.func6, Try.ntmps6
  go_wp2_with fail
  refine (arNew_ex _ _ _).mono ?_
  rw [E3.out, E0.out]
  rintro e w1 ⟨b, g, rfl, har, hx1, hx2, hb1⟩
  have HA := Lib.hid har
  have HB := Lib.hid hb1
  clear har hb1
  go_wp2_with fail
  rw [HI.out]
  go_loopw [7, 8] (fun last iv wr => OnceRel w b g i m last iv wr) (fun _ iv _ => m - (intOf iv).toNat)
  case atStart => exact ⟨0, by omega, by go_num, ⟨0, rfl, by omega⟩, ⟨_, once_new i, HA.out⟩, HB.out⟩
  case round =>
    obtain ⟨k, hk, rfl, ⟨x, rfl, hx⟩, ⟨l, ho, ha⟩, hb⟩ := hrel
    have hm := HM.out
    by_cases hlt : k < m
    · have hlen := ho.len
      have HLE := Lib.hid hlen
      have HO := Lib.hid ho
      have HA1 := Lib.hid ha
      have HB1 := Lib.hid hb
      have hws := hb.size
      clear ho ha hb hlen
      go_wp2_with fail
      refine (born_in (1 + (i : Int)) k HA1.out HO.out.gens (by omega) (by omega) (by omega) (by rw [HLE.out]; omega)).mono ?_
      rw [show (1 + (i : Int) - 1).toNat = i from by omega, HO.out.born_hnd hi1, HO.out.dead i, Bool.or_false]
      rintro e w2 ⟨rfl, ha2, ho2⟩
      have hb2 : Below w.heap.size w w2 := HB1.out.trans (ho2.below (fun j hj => by rcases hj with h | h <;> omega) hws)
      have HR := Lib.hid (HO.out.right hi1)
      have HW := Lib.hid (HO.out.wrong hi1 x hx)
      have HGN := Lib.hid (gens_born HO.out.gens (by omega) i)
      have HNX := Lib.hid (HO.out.next hi1)
      have HLE2 : Hid ((bornAt l i).length = 10) := by unfold Hid; rw [born_length]; exact HLE.out
      have HSL : Hid (slotOf (((k : Int) + 1) * 65536 + ((i : Int) + 1)) = (i : Int) + 1) := by unfold Hid; rw [slotOf_pos (by omega)]; omega
      have hy1 : ((k : Int) + 1) * 65536 + ((i : Int) + 1) < ((k : Int) + 1 + 1) * 65536 + ((i : Int) + 1) := by omega
      have hy2 : ((k : Int) + 1) * 65536 + ((i : Int) + 1) ≤ 9223372036854775807 := by omega
      have HA2 := Lib.hid ha2
      have HB2 := Lib.hid hb2
      clear ha2 hb2 ho2 HA1 HB1 HO
      generalize ((k : Int) + 1) * 65536 + ((i : Int) + 1) = y at *
      go_wp2_with fail
      refine (right_any y _ HA2.out HGN.out (by omega) (by omega) hy2).mono ?_
      rw [HR.out]
      rintro e w3 ⟨rfl, hb3⟩
      have HA3 := Lib.hid (HA2.out.still hb3)
      have HB3 := Lib.hid (HB2.out.trans (hb3.mono HB2.out.size))
      clear hb3 HA2 HB2
      go_wp2_with fail
      refine (right_any x _ HA3.out HGN.out (by omega) (by omega) (by omega)).mono ?_
      rw [HW.out]
      rintro e w4 ⟨rfl, hb4⟩
      have HA4 := Lib.hid (HA3.out.still hb4)
      have HB4 := Lib.hid (HB3.out.trans (hb4.mono HB3.out.size))
      clear hb4 HA3 HB3
      go_wp2_with fail
      refine (slot_any y _ hy2).mono ?_
      rw [HSL.out, Int.add_comm]
      rintro e w' ⟨rfl, rfl⟩
      have hne : ((1 + (i : Int)) != 1 + (i : Int)) = false := by simp
      go_wp2_with fail
      refine (died_yes i y _ HA4.out HGN.out (by omega) (by omega) hy2 HR.out HSL.out (by rw [HLE2.out]; exact hi1)).mono ?_
      rintro e w5 ⟨rfl, ha5, ho5⟩
      have hws4 := HB4.out.size
      have HA5 := Lib.hid ha5
      have HB5 := Lib.hid (HB4.out.trans (ho5.below (fun j hj => by rcases hj with h | h <;> omega) hws4))
      clear ha5 ho5 HA4 HB4
      generalize diedAt (bornAt l i) i = l' at *
      go_wp2_with fail
      refine (right_any y _ HA5.out HNX.out.gens (by omega) (by omega) hy2).mono ?_
      rw [dead_right HNX.out.dead]
      rintro e w6 ⟨rfl, hb6⟩
      have HA6 := Lib.hid (HA5.out.still hb6)
      have HB6 := Lib.hid (HB5.out.trans (hb6.mono HB5.out.size))
      clear hb6 HA5 HB5
      go_wp2_with fail
      refine (live_any _ HA6.out HNX.out.gens (by omega) (by omega)).mono ?_
      rw [dead_live HNX.out.dead]
      rintro e w7 ⟨A, c, rfl, _, hb7⟩
      rw [List.length_nil]
      have HA7 := Lib.hid (HA6.out.still hb7)
      have HB7 := Lib.hid (HB6.out.trans (hb7.mono HB6.out.size))
      clear hb7 HA6 HB6
      go_wp2_with fail
      go_roundw
      case rel => exact ⟨k + 1, by omega, by go_num, ⟨y, rfl, by simpa using hy1⟩, ⟨l', HNX.out, HA7.out⟩, HB7.out⟩
      case measure => simp [intOf]; omega
    · have HA1 := Lib.hid ha
      have HB1 := Lib.hid hb
      clear ho ha hb
      go_wp2_with fail
      refine (arAwake _).mono ?_
      rintro e w2 ⟨rfl, hb2⟩
      have ha2 := HA1.out.still hb2
      have c2 := ha2.c2
      have c3 := ha2.c3
      have HB2 := Lib.hid (HB1.out.trans (hb2.mono HB1.out.size))
      clear hb2 ha2
      go_wp2_with fail
      refine (stale_any _ _ _ c2).mono ?_
      rintro e w' ⟨rfl, rfl⟩
      go_wp2_with fail
      refine (double_any _ _ _ c3).mono ?_
      rintro e w' ⟨rfl, rfl⟩
      go_wp2_with fail
      go_ret
      exact ⟨rfl, HB2.out⟩
end Go.Proofs.Ytlgaihlbfjndhaa
