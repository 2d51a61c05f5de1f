/-
  Layer 4, pure: the reference's task, and that a step of the call does what the reference's does.
-/
import Derived.Test.YtpgepcmncppphaaRcuCall
import Derived.Test.YtpgepcmncppphaaCellLook
namespace Go.Proofs.Ytpgepcmncppphaa
open Go.RowKit
set_option linter.unusedVariables false

/-- The reference's task: where it is, what it saw. -/
structure Rt where
  at_ : Nat
  saw : Int
  over : Bool
  went : Bool
def rt0 : Rt := ⟨0, 0, false, false⟩
/-- Its step, on a board (the epoch, and 16 cells). -/
def rstep (kd : Int) (r : Nat) (x : Rt) (bl : List Int) : Rt × List Int :=
  if x.over then (x, bl)
  else if kd % 3 = 0 then
    if x.at_ = 0 then (⟨1, nth bl 0, false, x.went⟩, bl) else (⟨x.at_ + 1, x.saw, true, x.went⟩, bl.set (1 + r) (wrap64 (x.saw + 1)))
  else if kd % 3 = 1 then (⟨x.at_ + 1, x.saw, true, x.went⟩, bl.set (1 + r) 0)
  else if x.at_ = 0 then (⟨1, nth bl 0, false, x.went⟩, bl)
  else if x.at_ ≤ 16 then (⟨x.at_ + 1, x.saw, holds (nth bl x.at_) x.saw, x.went⟩, bl)
  else (⟨x.at_ + 1, x.saw, true, true⟩, bl.set 0 (wrap64 (x.saw + 1)))

/-- What the trail was told, where the reference is there. -/
def ToldAs (kd : Int) (x : Rt) (l : List Int) : Prop :=
  (x.at_ = 0 ∧ l = []) ∨
  (kd % 3 = 0 ∧ x.at_ = 1 ∧ l = [x.saw]) ∨
  (kd % 3 = 2 ∧ 1 ≤ x.at_ ∧ x.at_ ≤ 17 ∧ ∃ cells, l = x.saw :: cells ∧ cells.length + 1 = x.at_ ∧ ∀ c ∈ cells, holds c x.saw = false)
/-- The trail and the reference's task. -/
structure Sim (kd : Int) (x : Rt) (T : Tr) : Prop where
  over : T.over = x.over
  ph : T.ph = 0
  len : T.told.length ≤ 18
  told : x.over = false → ToldAs kd x T.told
  at_ : x.at_ ≤ 18

theorem sim_new (kd : Int) : Sim kd rt0 newTr := ⟨rfl, rfl, by simp [newTr], fun _ => .inl ⟨rfl, rfl⟩, by simp [rt0]⟩

theorem nth_seen (cs : List Int) (j : Nat) (hj : j < 17) : nth (seen cs 3 17) j = nth cs (3 + j) := by
  unfold nth seen
  simp only [List.getD_eq_getElem?_getD]
  rw [List.getElem?_take, if_pos (by show j < 17; exact hj), List.getElem?_drop]
  rfl
theorem seen_set (cs : List Int) (j : Nat) (v : Int) : seen (cs.set (3 + j) v) 3 17 = (seen cs 3 17).set j v := by
  unfold seen
  rw [List.drop_set, if_neg (by simp), List.take_set, show 3 + j - (3 : Int).toNat = j from by simp]

theorem dead_adv (a e : Int) (n r : Nat) : deadv (advFrom a e r n) = false := by
  induction n generalizing r with
  | zero => rfl
  | succ n ih =>
    show deadv (if holds 0 e then .ret false else advFrom a e (r + 1) n) = false
    rw [show holds 0 e = false from by simp [holds]]
    exact ih (r + 1)
theorem spent_adv (a e : Int) (n r : Nat) : spentv (advFrom a e r n) = false := by
  cases n with
  | zero => rfl
  | succ n =>
    show deadv (if holds 0 e then .ret false else advFrom a e (r + 1) n) = false
    rw [show holds 0 e = false from by simp [holds]]
    exact dead_adv a e n (r + 1)
theorem ends_adv (a e : Int) (n r : Nat) : ends (advFrom a e r n) = false := by cases n <;> rfl
theorem turn_adv (a e : Int) (n : Nat) (m : Mm) (cells : List Int) (r : Nat) (h : ∀ c ∈ cells, holds c e = false) : turn (advFrom a e r (cells.length + n)) cells m = turn (advFrom a e (r + cells.length) n) [] m := by
  induction cells generalizing r with
  | nil => simp
  | cons c l ih =>
    have e1 : (c :: l).length + n = (l.length + n) + 1 := by simp; omega
    rw [e1]
    show turn (if holds c e then .ret false else advFrom a e (r + 1) (l.length + n)) l m = _
    rw [h c (by simp)]
    have := ih (r + 1) (fun x hx => h x (by simp [hx]))
    simp only [Bool.false_eq_true, if_false]
    rw [this, show r + 1 + l.length = r + (c :: l).length from by simp; omega]

theorem told_load (m : Mm) (j : Nat) (hj : j < 17) (hm : m.cs.length = 30) : toldOf 0 (3 + (j : Int)) 0 m = nth (seen m.cs 3 17) j := by
  have h1 : inb (3 + (j : Int)) m = true := by simp [inb]; omega
  rw [nth_seen _ _ hj]
  simp only [toldOf, h1, if_true]
  rw [show (3 + (j : Int)).toNat = 3 + j from by omega]
  simp
theorem mem_load (m : Mm) (i : Int) : (memOf 0 i 0 0 m).cs = m.cs := by
  unfold memOf; split <;> simp
theorem mem_store (m : Mm) (j : Nat) (v : Int) (hj : j < 17) (hm : m.cs.length = 30) : (memOf 1 (3 + (j : Int)) v 0 m).cs = m.cs.set (3 + j) v := by
  have h1 : inb (3 + (j : Int)) m = true := by simp [inb]; omega
  simp only [memOf, h1, if_true]
  rw [show (3 + (j : Int)).toNat = 3 + j from by omega]

/-- What is to be shown of a step. -/
structure Agrees (kd : Int) (x y : Rt) (bl bl' : List Int) (l : List Int) (m : Mm) (u : Turn Bool) : Prop where
  over : u.over = y.over
  board : seen u.m.cs 3 17 = bl'
  size : u.m.cs.length = 30
  told : y.over = false → ToldAs kd y (l ++ u.new)
  went : (x.went || u.a) = y.went
  at_ : y.at_ ≤ 18

theorem turn_agrees (kd : Int) (r : Nat) (x : Rt) (l : List Int) (m : Mm) (hr : r < 16) (hm : m.cs.length = 30) (hk : 0 ≤ kd) (ho : x.over = false) (ht : ToldAs kd x l) :
    Agrees kd x (rstep kd r x (seen m.cs 3 17)).1 (seen m.cs 3 17) (rstep kd r x (seen m.cs 3 17)).2 l m (turn (callP kd r) l m) := by
  have hrd : isRd (r : Int) = true := by simp [isRd]; omega
  have e4 : (3 : Int) + 1 + (r : Int) = 3 + ((1 + r : Nat) : Int) := by push_cast; omega
  have e3 : (3 : Int) = 3 + ((0 : Nat) : Int) := by simp
  have hcase : kd % 3 = 0 ∨ kd % 3 = 1 ∨ kd % 3 = 2 := by omega
  rcases hcase with hc | hc | hc
  · have hP : callP kd r = .acc 0 3 0 0 fun e => .acc 1 (3 + ((1 + r : Nat) : Int)) (wrap64 (e + 1)) 0 fun _ => .ret false := by simp only [callP, enterP, hc, hrd, if_true, e4]
    rcases ht with ⟨h0, rfl⟩ | ⟨_, h1, rfl⟩ | ⟨h2, _⟩
    · have hR : rstep kd r x (seen m.cs 3 17) = (⟨1, nth (seen m.cs 3 17) 0, false, x.went⟩, seen m.cs 3 17) := by simp [rstep, ho, hc, h0]
      rw [hR, hP]
      refine ⟨rfl, ?_, ?_, fun _ => .inr (.inl ⟨hc, rfl, ?_⟩), ?_, by simp⟩
      · show seen (memOf 0 3 0 0 m).cs 3 17 = _
        rw [mem_load]
      · show (memOf 0 3 0 0 m).cs.length = 30
        rw [mem_load]; exact hm
      · show [] ++ [toldOf 0 3 0 m] = [nth (seen m.cs 3 17) 0]
        have := told_load m 0 (by omega) hm
        simp only [Int.ofNat_zero, Int.add_zero] at this
        rw [this]; rfl
      · simp [turn, okOf, spentv, deadv]
    · have hR : rstep kd r x (seen m.cs 3 17) = (⟨x.at_ + 1, x.saw, true, x.went⟩, (seen m.cs 3 17).set (1 + r) (wrap64 (x.saw + 1))) := by simp [rstep, ho, hc, h1]
      rw [hR, hP]
      refine ⟨rfl, ?_, ?_, (fun h => by cases h), ?_, by simp; omega⟩
      · show seen (memOf 1 (3 + ((1 + r : Nat) : Int)) (wrap64 (x.saw + 1)) 0 m).cs 3 17 = _
        rw [mem_store _ _ _ (by omega) hm, seen_set]
      · show (memOf 1 (3 + ((1 + r : Nat) : Int)) (wrap64 (x.saw + 1)) 0 m).cs.length = 30
        rw [mem_store _ _ _ (by omega) hm]; simpa using hm
      · simp [turn, okOf, spentv]
    · omega
  · have hP : callP kd r = .acc 1 (3 + ((1 + r : Nat) : Int)) 0 0 fun _ => .ret false := by
      simp only [callP, leaveP, hc, hrd, if_true, e4]; simp
    rcases ht with ⟨h0, rfl⟩ | ⟨h2, _⟩ | ⟨h2, _⟩
    · have hR : rstep kd r x (seen m.cs 3 17) = (⟨x.at_ + 1, x.saw, true, x.went⟩, (seen m.cs 3 17).set (1 + r) 0) := by simp [rstep, ho, hc]
      rw [hR, hP]
      refine ⟨rfl, ?_, ?_, (fun h => by cases h), ?_, by simp; omega⟩
      · show seen (memOf 1 (3 + ((1 + r : Nat) : Int)) 0 0 m).cs 3 17 = _
        rw [mem_store _ _ _ (by omega) hm, seen_set]
      · show (memOf 1 (3 + ((1 + r : Nat) : Int)) 0 0 m).cs.length = 30
        rw [mem_store _ _ _ (by omega) hm]; simpa using hm
      · simp [turn, okOf, spentv]
    · omega
    · omega
  · have hP : callP kd r = .acc 0 3 0 0 fun e => advFrom 3 e 0 16 := by
      simp only [callP, hc, advP]; simp
    rcases ht with ⟨h0, rfl⟩ | ⟨h2, _⟩ | ⟨_, h1, h17, cells, rfl, hlen, hall⟩
    · have hR : rstep kd r x (seen m.cs 3 17) = (⟨1, nth (seen m.cs 3 17) 0, false, x.went⟩, seen m.cs 3 17) := by simp [rstep, ho, hc, h0]
      rw [hR, hP]
      refine ⟨rfl, ?_, ?_, fun _ => .inr (.inr ⟨hc, by simp, by simp, [], ?_, rfl, by simp⟩), ?_, by simp⟩
      · show seen (memOf 0 3 0 0 m).cs 3 17 = _
        rw [mem_load]
      · show (memOf 0 3 0 0 m).cs.length = 30
        rw [mem_load]; exact hm
      · show [] ++ [toldOf 0 3 0 m] = [nth (seen m.cs 3 17) 0]
        have := told_load m 0 (by omega) hm
        simp only [Int.ofNat_zero, Int.add_zero] at this
        rw [this]; rfl
      · show (x.went || spentv (advFrom 3 (toldOf 0 3 0 m) 0 16)) = x.went
        rw [spent_adv]; simp
    · omega
    · have hT : turn (callP kd r) (x.saw :: cells) m = turn (advFrom 3 x.saw cells.length (16 - cells.length)) [] m := by
        rw [hP]
        show turn (advFrom 3 x.saw 0 16) cells m = _
        have := turn_adv 3 x.saw (16 - cells.length) m cells 0 hall
        rw [show cells.length + (16 - cells.length) = 16 from by omega] at this
        rw [this]; simp
      rw [hT]
      by_cases hlt : cells.length < 16
      · have hR : rstep kd r x (seen m.cs 3 17) = (⟨x.at_ + 1, x.saw, holds (nth (seen m.cs 3 17) x.at_) x.saw, x.went⟩, seen m.cs 3 17) := by
          unfold rstep
          rw [if_neg (by simp [ho]), if_neg (by omega), if_neg (by omega), if_neg (by omega), if_pos (by omega)]
        have hN : 16 - cells.length = (15 - cells.length) + 1 := by omega
        have hC : toldOf 0 (3 + 1 + (cells.length : Int)) 0 m = nth (seen m.cs 3 17) x.at_ := by
          rw [← told_load m x.at_ (by omega) hm, show (3 : Int) + 1 + (cells.length : Int) = 3 + (x.at_ : Int) from by omega]
        have hU : turn (advFrom 3 x.saw cells.length (16 - cells.length)) [] m = ⟨[nth (seen m.cs 3 17) x.at_], memOf 0 (3 + 1 + (cells.length : Int)) 0 0 m, holds (nth (seen m.cs 3 17) x.at_) x.saw, false⟩ := by
          rw [hN]
          show (if okOf 0 (3 + 1 + (cells.length : Int)) 0 m then (⟨[toldOf 0 (3 + 1 + (cells.length : Int)) 0 m], memOf 0 (3 + 1 + (cells.length : Int)) 0 0 m,
            ends (if holds (toldOf 0 (3 + 1 + (cells.length : Int)) 0 m) x.saw then .ret false else advFrom 3 x.saw (cells.length + 1) (15 - cells.length)),
            spentv (if holds (toldOf 0 (3 + 1 + (cells.length : Int)) 0 m) x.saw then .ret false else advFrom 3 x.saw (cells.length + 1) (15 - cells.length))⟩ : Turn Bool) else _) = _
          rw [if_pos (show okOf 0 (3 + 1 + (cells.length : Int)) 0 m = true from rfl), hC]
          cases hh : holds (nth (seen m.cs 3 17) x.at_) x.saw with
          | true => rfl
          | false =>
            simp only [Bool.false_eq_true, if_false]
            rw [ends_adv, spent_adv]
        rw [hR, hU]
        refine ⟨rfl, ?_, ?_, fun h => .inr (.inr ⟨hc, by simp, by simp; omega, cells ++ [nth (seen m.cs 3 17) x.at_], by simp, by simp; omega, ?_⟩), by simp, by simp; omega⟩
        · show seen (memOf 0 _ 0 0 m).cs 3 17 = _
          rw [mem_load]
        · show (memOf 0 _ 0 0 m).cs.length = 30
          rw [mem_load]; exact hm
        · intro c hcm
          rcases List.mem_append.1 hcm with h1 | h1
          · exact hall c h1
          · simp at h1; subst h1; exact h
      · have hl : cells.length = 16 := by omega
        have hR : rstep kd r x (seen m.cs 3 17) = (⟨x.at_ + 1, x.saw, true, true⟩, (seen m.cs 3 17).set 0 (wrap64 (x.saw + 1))) := by
          unfold rstep
          rw [if_neg (by simp [ho]), if_neg (by omega), if_neg (by omega), if_neg (by omega), if_neg (by omega)]
        rw [hR, hl]
        have hs := mem_store m 0 (wrap64 (x.saw + 1)) (by omega) hm
        simp only [Int.ofNat_zero, Int.add_zero] at hs
        refine ⟨rfl, ?_, ?_, (fun h => by cases h), ?_, by simp; omega⟩
        · show seen (memOf 1 3 (wrap64 (x.saw + 1)) 0 m).cs 3 17 = _
          rw [hs, seen_set]
        · show (memOf 1 3 (wrap64 (x.saw + 1)) 0 m).cs.length = 30
          rw [hs]; simpa using hm
        · simp [turn, okOf, spentv, advFrom]
end Go.Proofs.Ytpgepcmncppphaa
