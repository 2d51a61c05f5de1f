/-
  Layer 2: for the reference: what is right, births and deaths.
-/
import Derived.Test.YtlgaihlbfjndhaaArenaRefNew
namespace Go.Proofs.Ytlgaihlbfjndhaa
open Go.ChangeShapes Go.WideShapes Go.ChangeAt Go.RowKit
set_option linter.unusedVariables false

section
variable {w : World} {b base : Nat} {A B : Option Addr} {c d : Nat} {fst : Int} {l : Slots} {st db : Bool}

/-- The loop's relation: none of the first k is it. -/
def RfRel (l : Slots) (h : Int) (iv : Value) : Prop := ∃ k : Nat, k ≤ l.length ∧ iv = .int .i64 k ∧ ∀ i, i < k → liveAt l i = true → hndAt l i ≠ h

set_option maxHeartbeats 1000000 in
theorem rfRight_any (h G : Int) (H : RfAt w b base A c B d fst l st db) (hG : Gens l G) (hG0 : 0 ≤ G) (hG1 : G ≤ 1099511627776) :
    Calls Try.prog 15 #[.pointer (some ⟨b, 0, none⟩), .int .i64 h] w fun e w' => e = .returned (.bool (rightB l h)) ∧ w = w' := by
  have hc1 := H.c1
  have hc2 := H.c2
  have hfew := H.few
  have HH := Lib.hid H
  have HG := Lib.hid hG
  clear H hG
  go_enter Try.func15, Try.ntmps15
  go_wp2_with fail
  go_loop [5] (fun iv => RfRel l h iv) (fun iv => l.length - (intOf iv).toNat)
  case atStart => exact ⟨0, by omega, by go_num, fun i hi => absurd hi (by omega)⟩
  case round =>
    obtain ⟨k, hk, rfl, hno⟩ := hrel
    by_cases hlt : k < l.length
    · obtain ⟨g, q, rfl, rfl, hgq, hgb, hqb⟩ := HH.out.form (by omega)
      have cg := HH.out.gen k hlt
      have cl := HH.out.live k hlt
      have hgm := gen_mem HG.out k hG0
      have g0 := hgm.1
      have g1 := hgm.2
      have ch : Hid (hndAt l k = genAt l k * 65536 + ((k : Int) + 1)) := rfl
      have HNO := Lib.hid hno
      clear hgm hno
      generalize hx : genAt l k = x at *
      have HX := Lib.hid hx
      clear hx
      cases hv : liveAt l k with
      | false =>
        rw [hv] at cl
        have HV := Lib.hid hv
        clear hv
        go_wp2_with fail
        go_round
        case rel =>
          refine ⟨k + 1, by omega, by go_num, fun i hi hl => ?_⟩
          by_cases hik : i = k
          · subst hik; rw [HV.out] at hl; cases hl
          · exact HNO.out i (by omega) hl
        case measure => simp [intOf]; omega
      | true =>
        rw [hv] at cl
        have HV := Lib.hid hv
        clear hv
        by_cases he : x * 65536 + ((k : Int) + 1) = h
        · have heb : (x * 65536 + ((k : Int) + 1) == h) = true := beq_iff_eq.2 he
          have HR : Hid (rightB l h = true) := right_yes hlt HV.out (by rw [ch.out]; exact he)
          clear he
          go_wp2_with (go_at_call 28; refine (rfHandle b g l.length c k x _ hc1 cg hlt hfew g0 (by omega) _ (by omega)).mono ?_; rintro e w' ⟨rfl, rfl⟩)
          go_ret
          exact ⟨by rw [HR.out]; rfl, rfl⟩
        · have heb : (x * 65536 + ((k : Int) + 1) == h) = false := beq_eq_false_iff_ne.2 he
          have HE := Lib.hid he
          clear he
          go_wp2_with (go_at_call 28; refine (rfHandle b g l.length c k x _ hc1 cg hlt hfew g0 (by omega) _ (by omega)).mono ?_; rintro e w' ⟨rfl, rfl⟩)
          go_round
          case rel =>
            refine ⟨k + 1, by omega, by go_num, fun i hi hl => ?_⟩
            by_cases hik : i = k
            · subst hik; rw [ch.out]; exact HE.out
            · exact HNO.out i (by omega) hl
          case measure => simp [intOf]; omega
    · have HR : Hid (rightB l h = false) := right_no fun i hi hl => hno i (by omega) hl
      clear hno
      go_wp2_with fail
      go_ret
      exact ⟨by rw [HR.out]; rfl, rfl⟩

/-- What a call on the reference's arena leaves. -/
def RfDid (w : World) (b base : Nat) (A : Option Addr) (c : Nat) (B : Option Addr) (d : Nat) (v : Value) (fst : Int) (l : Slots) (st db : Bool) (e : Ending) (w' : World) : Prop :=
  e = .returned v ∧ RfAt w' b base A c B d fst l st db ∧ Only (RfTwo b A B) w w'

set_option maxHeartbeats 1000000 in
theorem rfDeath_no (h G : Int) (H : RfAt w b base A c B d fst l st db) (hG : Gens l G) (hG0 : 0 ≤ G) (hG1 : G ≤ 1099511627776) (hr : rightB l h = false) :
    Calls Try.prog 13 #[.pointer (some ⟨b, 0, none⟩), .int .i64 h] w (RfDid w b base A c B d (.tuple #[]) fst l st true) := by
  have HR := Lib.hid hr
  have c4 := H.c4
  have f4 := H.fr 4
  have HH := Lib.hid H
  have HG := Lib.hid hG
  clear H hG hr
  go_enter Try.func13, Try.ntmps13
  go_wp2_with fail
  refine (rfRight_any h G HH.out HG.out hG0 hG1).mono ?_
  rw [HR.out]
  rintro e w' ⟨rfl, rfl⟩
  go_wp2_with fail
  go_end0
  exact ⟨rfl, HH.out.double true, (Only.refl (RfTwo b A B) w).setCell (p := ⟨b, 4, none⟩) (Or.inl (Or.inl rfl)) _⟩

set_option maxHeartbeats 1000000 in
theorem rfDeath_yes (i : Nat) (h G : Int) (H : RfAt w b base A c B d fst l st db) (hG : Gens l G) (hG0 : 0 ≤ G) (hG1 : G ≤ 1099511627776) (hr : rightB l h = true) (hi : slotOf h = (i : Int) + 1) (hil : i < l.length) :
    Calls Try.prog 13 #[.pointer (some ⟨b, 0, none⟩), .int .i64 h] w (RfDid w b base A c B d (.tuple #[]) fst (diedAt l i) st db) := by
  obtain ⟨g, q, rfl, rfl, hgq, hgb, hqb⟩ := H.form (by omega)
  have HR := Lib.hid hr
  have HI := Lib.hid hi
  have c2 := H.c2
  have cl := H.live i hil
  have fl := H.frq i
  have hfew := H.few
  have HH := Lib.hid H
  have HG := Lib.hid hG
  clear H hG hr hi
  go_enter Try.func13, Try.ntmps13
  go_wp2_with fail
  refine (rfRight_any h G HH.out HG.out hG0 hG1).mono ?_
  rw [HR.out]
  rintro e w' ⟨rfl, rfl⟩
  go_wp2_with fail
  have hi0 : (0 : Int) ≤ (i : Int) := by omega
  have hi1 : (i : Int) < (l.length : Int) := by omega
  have hi2 : IntKind.i64.wrap (i : Int) = (i : Int) := by rw [IntKind.wrap_i64]; omega
  go_region_with (go_at_call 22; refine (rfSlot_any _ _).mono ?_; rw [HI.out]; rintro e w' ⟨rfl, rfl⟩)
  all_goals go_wp2_with fail
  all_goals go_end0
  all_goals exact ⟨rfl, (HH.out.setLive hgq hqb i false).drew, ((Only.refl (RfTwo b (some ⟨g, 0, none⟩) (some ⟨q, 0, none⟩)) w).setCell (p := ⟨q, i, none⟩) (Or.inl (Or.inr (Or.inr ⟨_, rfl, rfl⟩))) _).drew⟩

theorem rfBirth_no (s : Int) (H : RfAt w b base A c B d fst l st db) (hs : s < 1 ∨ (1 ≤ s ∧ (l.length : Int) < s)) :
    Calls Try.prog 11 #[.pointer (some ⟨b, 0, none⟩), .int .i64 s] w fun e w' => e = .returned (.int .i64 0) ∧ w = w' := by
  have hc := H.c1
  clear H
  rcases hs with h1 | ⟨h1, h2⟩
  · go_enter Try.func11, Try.ntmps11
    go_wp2_with fail
    go_ret
    exact ⟨rfl, rfl⟩
  · go_enter Try.func11, Try.ntmps11
    go_wp2_with fail
    go_ret
    exact ⟨rfl, rfl⟩

theorem rfBorn_set {g q : Nat} {i : Nat} (hi : i < l.length) (hgq : g ≠ q) (hgb : g ≠ b) (hqb : q ≠ b) (h : RfAt w b base (some ⟨g, 0, none⟩) c (some ⟨q, 0, none⟩) d fst l st db) :
    RfAt ((w.setCell ⟨q, i, none⟩ (.bool true)).setCell ⟨g, i, none⟩ (.int .i64 (genAt l i + 1))) b base (some ⟨g, 0, none⟩) c (some ⟨q, 0, none⟩) d fst (bornAt l i) st db := by
  have := (h.setLive hgq hqb i true).setGen hgq hgb i (genAt l i + 1)
  rw [born_steps hi] at this
  exact this

set_option maxHeartbeats 2000000 in
theorem rfBirth_yes (i : Nat) (G : Int) (H : RfAt w b base A c B d fst l st db) (hG : Gens l G) (hG0 : 0 ≤ G) (hG1 : G + 1 ≤ 1099511627776) (hil : i < l.length) :
    Calls Try.prog 11 #[.pointer (some ⟨b, 0, none⟩), .int .i64 ((i : Int) + 1)] w (RfDid w b base A c B d (.int .i64 (hndAt (bornAt l i) i)) fst (bornAt l i) st (db || liveAt l i)) := by
  obtain ⟨g, q, rfl, rfl, hgq, hgb, hqb⟩ := H.form (by omega)
  have hc1 := H.c1
  have hc2 := H.c2
  have hc4 := H.c4
  have f4 := H.fr 4
  have cg := H.gen i hil
  have cl := H.live i hil
  have fg := H.frg i
  have fl := H.frq i
  have hfew := H.few
  have hgm := gen_mem hG i hG0
  have g0 := hgm.1
  have g1 := hgm.2
  have HD : Hid (hndAt (bornAt l i) i = (genAt l i + 1) * 65536 + ((i : Int) + 1)) := by unfold Hid hndAt; rw [genAt_born hil]
  have HB := Lib.hid (rfBorn_set hil hgq hgb hqb H)
  have HB2 := Lib.hid (rfBorn_set hil hgq hgb hqb (H.double true))
  have k1 := (rfBorn_set hil hgq hgb hqb H).c1
  have k2 := (rfBorn_set hil hgq hgb hqb H).gen i (by rw [born_length]; exact hil)
  have k3 := (rfBorn_set hil hgq hgb hqb (H.double true)).c1
  have k4 := (rfBorn_set hil hgq hgb hqb (H.double true)).gen i (by rw [born_length]; exact hil)
  rw [born_length] at k1 k3
  rw [genAt_born hil] at k2 k4
  clear hG hgm H
  generalize hx : genAt l i = x at *
  have HX := Lib.hid hx
  clear hx
  have hO := fun (w : World) => Only.refl (RfTwo b (some ⟨g, 0, none⟩) (some ⟨q, 0, none⟩)) w
  have HO := Lib.hid hO
  clear hO
  have K1 := Lib.hid k1
  have K2 := Lib.hid k2
  have K3 := Lib.hid k3
  have K4 := Lib.hid k4
  clear k1 k2 k3 k4
  cases hv : liveAt l i with
  | false =>
    rw [hv] at cl
    clear hv
    generalize bornAt l i = l' at *
    generalize l.length = n at *
    go_enter Try.func11, Try.ntmps11
    go_wp2_with fail
    refine (rfHandle b g n c i (x + 1) _ K1.out K2.out hil hfew (by omega) (by omega) _ rfl).mono ?_
    rintro e w' ⟨rfl, rfl⟩
    go_wp2_with fail
    go_ret
    exact ⟨by rw [HD.out]; rfl, by simpa using HB.out, ((HO.out w).setCell (p := ⟨q, i, none⟩) (Or.inl (Or.inr (Or.inr ⟨_, rfl, rfl⟩))) _).setCell (p := ⟨g, i, none⟩) (Or.inl (Or.inr (Or.inl ⟨_, rfl, rfl⟩))) _⟩
  | true =>
    rw [hv] at cl
    clear hv
    generalize bornAt l i = l' at *
    generalize l.length = n at *
    go_enter Try.func11, Try.ntmps11
    go_wp2_with fail
    refine (rfHandle b g n c i (x + 1) _ K3.out K4.out hil hfew (by omega) (by omega) _ rfl).mono ?_
    rintro e w' ⟨rfl, rfl⟩
    go_wp2_with fail
    go_ret
    exact ⟨by rw [HD.out]; rfl, by simpa using HB2.out, (((HO.out w).setCell (p := ⟨b, 4, none⟩) (Or.inl (Or.inl rfl)) _).setCell (p := ⟨q, i, none⟩) (Or.inl (Or.inr (Or.inr ⟨_, rfl, rfl⟩))) _).setCell (p := ⟨g, i, none⟩) (Or.inl (Or.inr (Or.inl ⟨_, rfl, rfl⟩))) _⟩
end
end Go.Proofs.Ytlgaihlbfjndhaa
