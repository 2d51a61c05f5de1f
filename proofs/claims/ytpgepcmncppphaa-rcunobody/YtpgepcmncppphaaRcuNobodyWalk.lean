/-
  Layer 4: the walk of the statement on readers that aren't there.
-/
import Derived.Test.YtpgepcmncppphaaRcuLaw
namespace Go.Proofs.Ytpgepcmncppphaa
open Go.ChangeShapes Go.WideShapes Go.ChangeAt Go.RowKit
set_option linter.unusedVariables false

theorem nobody_turn (kd r : Int) (m : Mm) (hr : isRd r = false) (hk : kd % 3 = 0 ∨ kd % 3 = 1) : turn (callP kd r) [] m = ⟨[], m, true, false⟩ := by
  rcases hk with h | h
  · simp [callP, h, enterP, hr, turn]
  · simp [callP, h, leaveP, hr, turn]

section
variable {w w' : World} {b g ta tb : Nat} {m : Mm}
/-- A step of nobody's. -/
theorem nobody_step (kd r : Int) (hr : isRd r = false) (hk : kd = 0 ∨ kd = 1) (h : St w b g ta (.slice none 0 0) (.slice none 0 0) newTr m) (hc : m.cnt = 0) :
    Calls Try.prog 10 #[.pointer (some ⟨ta, 0, none⟩), .int .i64 0, .func (.func 11) #[.agg #[.int .u8 kd, .int .i64 r, .pointer none]] #[]] w fun e w' =>
      e = .returned (.bool true) ∧ MemAt w' b g m.cs m.cnt ∧ Only (fun k => k = b ∨ k = g ∨ k = ta) w w' := by
  refine (call_step (sp := none) 0 kd r (by omega) (by omega) h rfl rfl (fun p hp => by cases hp) (fun h2 => by omega) (by simp [newTr]) (by omega)).mono ?_
  have ht : turn (callP kd r) newTr.told m = ⟨[], m, true, false⟩ := nobody_turn kd r m hr (by omega)
  rw [ht]
  rintro e w' ⟨rfl, T', tv', mv', hs⟩
  refine ⟨rfl, hs.st.mem, hs.only.mono (fun k _ hk => ?_)⟩
  rcases hk with (h1 | h1 | h1 | h1 | h1) | ⟨p, hp, _⟩
  · exact .inl h1
  · exact .inr (.inl h1)
  · exact .inr (.inr h1)
  · simp [Value.ownBlock] at h1
  · simp [Value.ownBlock] at h1
  · cases hp
end

set_option maxHeartbeats 2000000 in
theorem rcuNobody_walk (r : Int) (w : World) : Calls Try.prog 6 #[.int .i64 r] w fun e w' => e = .returned (.bool true) ∧ Below w.heap.size w w' := by
  have hnot : ∀ (x : Bool) (w : World), (Op.unary .not (.bool x)).run Try.prog w = .ok (.bool (!x)) w := fun _ _ => rfl
  have hmf : ∀ (fn : Fn) (first cap : Array Value) (w : World), (Instr.makeFunc fn first cap).run Try.prog w = .ok (.func fn first cap) w := fun _ _ _ _ => rfl
  have AW := Lib.hid (rcu_awake w)
  by_cases hin : 0 ≤ r ∧ r ≤ 15
  · obtain ⟨i0, i1⟩ := hin
    go_enter Try.func6, Try.ntmps6
    go_wp2_with fail
    refine AW.out.mono ?_
    rintro e w1 ⟨rfl, hb⟩
    have AW2 := Lib.hid (rcu_awake w1)
    have HB := Lib.hid hb
    clear hb
    go_wp2_with fail
    refine AW2.out.mono ?_
    rintro e w2 ⟨rfl, hb⟩
    have HB2 := Lib.hid (HB.out.trans (hb.mono HB.out.size))
    clear hb
    go_wp2_with fail
    go_ret
    exact ⟨rfl, HB2.out⟩
  · have hrd : isRd r = false := by
      simp [isRd]; omega
    have hcase : (r < 0) ∨ (0 ≤ r ∧ 15 < r) := by omega
    rcases hcase with i0 | ⟨i0, i1⟩
    all_goals
      go_enter Try.func6, Try.ntmps6
      go_wp2_with fail
      refine AW.out.mono ?_
      rintro e w0 ⟨rfl, hb0⟩
      have HB0 := Lib.hid hb0
      clear hb0
      go_wp2_with fail
      refine (new_mem_ex 30 _).mono ?_
      rintro e w1 ⟨b, g, rfl, hm, hb, hg, hbel⟩
      have HM : Hid (MemAt w1 b g (Mm.mk (List.replicate 30 0) 0).cs (Mm.mk (List.replicate 30 0) 0).cnt) := hm
      have HB := Lib.hid hbel
      clear hm hbel
      go_wp2_with fail
      refine (new_trail_ex (m := ⟨List.replicate 30 0, 0⟩) HM.out).mono ?_
      rintro e w2 ⟨ta, rfl, hs, hta, hbel⟩
      have SA := Lib.hid hs
      have HB2 := Lib.hid hbel
      clear hs hbel
      go_wp2_with fail
      refine (new_trail_ex (m := ⟨List.replicate 30 0, 0⟩) SA.out.mem).mono ?_
      rintro e w3 ⟨tb, rfl, hs, htb, hbel⟩
      have SB := Lib.hid hs
      have SA3 := Lib.hid (SA.out.still hbel)
      have HB3 : Hid (Below w0.heap.size w0 w3) := (HB.out.trans (HB2.out.mono HB.out.size)).trans (hbel.mono (Nat.le_trans HB.out.size HB2.out.size))
      have hne : tb ≠ ta := by
        have := SA.out.tr.top.lt
        omega
      have hsz : Hid (w0.heap.size ≤ ta ∧ w0.heap.size ≤ tb) := ⟨Nat.le_trans HB.out.size hta, Nat.le_trans (Nat.le_trans HB.out.size HB2.out.size) htb⟩
      clear hs hbel HB HB2 SA HM hta htb
      have X := Lib.hid (nobody_step 0 r hrd (.inl rfl) SA3.out rfl)
      go_wp2_with fail
      refine X.out.mono ?_
      rintro e w4 ⟨rfl, hm4, ho4⟩
      have SB4 : Hid (St w4 b g tb (.slice none 0 0) (.slice none 0 0) newTr ⟨List.replicate 30 0, 0⟩) := by
        refine ⟨SB.out.tr.only ho4 ?_ (fun k hk => by simp [Value.ownBlock] at hk) (fun k hk => by simp [Value.ownBlock] at hk), hm4, SB.out.apart⟩
        rintro (h | h | h)
        · exact SB.out.nb h
        · exact SB.out.ng h
        · exact hne h
      have HO4 := Lib.hid ho4
      clear hm4 ho4 X SA3 SB
      have X := Lib.hid (nobody_step 1 r hrd (.inr rfl) SB4.out rfl)
      go_wp2_with fail
      refine X.out.mono ?_
      rintro e w5 ⟨rfl, hm5, ho5⟩
      have HC := Lib.hid (count_any _ _ _ hm5.c1)
      have HB5 : Hid (Below w.heap.size w w5) := by
        have h1 := HB3.out.size
        have h2 := HB0.out.size
        have h3 := hsz.out
        refine HB0.out.trans ((HB3.out.mono h2).trans ?_)
        have o4 : Only (fun k => k = b ∨ k = g ∨ k = ta ∨ k = tb) w3 w5 := (HO4.out.mono (fun k _ hk => by rcases hk with h | h | h <;> simp [h])).trans (ho5.mono (fun k _ hk => by rcases hk with h | h | h <;> simp [h]))
        refine o4.below (fun k hk => ?_) (by omega)
        rcases hk with h | h | h | h <;> omega
      clear hm5 ho5 X SB4 HO4 HB3 HB0
      go_wp2_with fail
      refine HC.out.mono ?_
      rintro e w6 ⟨rfl, rfl⟩
      go_wp2_with fail
      go_ret
      exact ⟨rfl, HB5.out⟩
end Go.Proofs.Ytpgepcmncppphaa
