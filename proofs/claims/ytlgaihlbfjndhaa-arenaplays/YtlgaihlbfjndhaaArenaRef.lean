/-
  Layer 2: the reference's arena: what it is made of, and what its calls do.
-/
import Derived.Test.YtlgaihlbfjndhaaArenaBorn
import Derived.Test.YtlgaihlbfjndhaaOwnRow
namespace Go.Proofs.Ytlgaihlbfjndhaa
open Go.ChangeShapes Go.WideShapes Go.ChangeAt Go.RowKit
set_option linter.unusedVariables false

/-- Generations and lives, as cells. -/
def gensOf (l : Slots) : List Value := l.map fun p => .int .i64 p.1
def livesOf (l : Slots) : List Value := l.map fun p => .bool p.2
theorem gensOf_at (l : Slots) (i : Nat) (h : i < l.length) : (gensOf l)[i]? = some (.int .i64 (genAt l i)) := by
  simp [gensOf, genAt, List.getD_eq_getElem?_getD, h]
theorem livesOf_at (l : Slots) (i : Nat) (h : i < l.length) : (livesOf l)[i]? = some (.bool (liveAt l i)) := by
  simp [livesOf, liveAt, List.getD_eq_getElem?_getD, h]
theorem gensOf_set (l : Slots) (i : Nat) (x : Int) (v : Bool) : (gensOf l).set i (.int .i64 x) = gensOf (l.set i (x, v)) := by simp [gensOf, List.map_set]
theorem livesOf_set (l : Slots) (i : Nat) (x : Int) (v : Bool) : (livesOf l).set i (.bool v) = livesOf (l.set i (x, v)) := by simp [livesOf, List.map_set]
theorem gensOf_same (l : Slots) (i : Nat) (v : Bool) : gensOf (l.set i (genAt l i, v)) = gensOf l := by
  rw [← gensOf_set _ _ _ v]
  by_cases h : i < l.length
  · refine List.ext_getElem? fun j => ?_
    rw [List.getElem?_set]
    split
    · rename_i hj; subst hj; rw [if_pos (by simp [gensOf, h]), gensOf_at _ _ h]
    · rfl
  · rw [List.set_eq_of_length_le (by simp [gensOf]; omega)]
theorem livesOf_same (l : Slots) (i : Nat) (x : Int) : livesOf (l.set i (x, liveAt l i)) = livesOf l := by
  rw [← livesOf_set _ _ x]
  by_cases h : i < l.length
  · refine List.ext_getElem? fun j => ?_
    rw [List.getElem?_set]
    split
    · rename_i hj; subst hj; rw [if_pos (by simp [livesOf, h]), livesOf_at _ _ h]
    · rfl
  · rw [List.set_eq_of_length_le (by simp [livesOf]; omega)]

/-- The reference's arena: its struct in block b, its two rows from 'base' on. -/
structure RfAt (w : World) (b base : Nat) (A : Option Addr) (c : Nat) (B : Option Addr) (d : Nat) (fst : Int) (l : Slots) (st db : Bool) : Prop where
  top : Whole w b 36 #[.int .i64 fst, .slice A l.length c, .slice B l.length d, .bool st, .bool db]
  own1 : w.ownsRow base 2 1 (.slice A l.length c) l.length (gensOf l)
  own2 : w.ownsRow base 4 1 (.slice B l.length d) l.length (livesOf l)
  few : l.length ≤ 1000
  lo : 0 ≤ fst
  hi : fst ≤ 65536

/-- Its blocks. -/
def RfTwo (b : Nat) (A B : Option Addr) (k : Nat) : Prop := k = b ∨ (∃ x : Addr, A = some x ∧ k = x.block) ∨ ∃ x : Addr, B = some x ∧ k = x.block

section
variable {w w' : World} {b base : Nat} {A B : Option Addr} {c d : Nat} {fst : Int} {l : Slots} {st db : Bool}
theorem RfAt.c0 (h : RfAt w b base A c B d fst l st db) : w.cell? ⟨b, 0, none⟩ = some (.int .i64 fst) := by rw [h.top.cell]; rfl
theorem RfAt.c1 (h : RfAt w b base A c B d fst l st db) : w.cell? ⟨b, 1, none⟩ = some (.slice A l.length c) := by rw [h.top.cell]; rfl
theorem RfAt.c2 (h : RfAt w b base A c B d fst l st db) : w.cell? ⟨b, 2, none⟩ = some (.slice B l.length d) := by rw [h.top.cell]; rfl
theorem RfAt.c3 (h : RfAt w b base A c B d fst l st db) : w.cell? ⟨b, 3, none⟩ = some (.bool st) := by rw [h.top.cell]; rfl
theorem RfAt.c4 (h : RfAt w b base A c B d fst l st db) : w.cell? ⟨b, 4, none⟩ = some (.bool db) := by rw [h.top.cell]; rfl
theorem RfAt.fr (h : RfAt w b base A c B d fst l st db) (i : Nat) : w.frozen? ⟨b, i, none⟩ = false := h.top.frozen i
theorem blockOf {A : Option Addr} {n c k : Nat} (h : (Value.slice A n c).ownBlock = some k) : ∃ x : Addr, A = some x ∧ k = x.block := by
  cases A with
  | none => simp [Value.ownBlock] at h
  | some x => exact ⟨x, rfl, by simpa [Value.ownBlock, eq_comm] using h⟩
theorem RfAt.only {S : Nat → Prop} (h : RfAt w b base A c B d fst l st db) (ho : Only S w w') (hS : ∀ k, RfTwo b A B k → ¬ S k) : RfAt w' b base A c B d fst l st db :=
  ⟨h.top.only ho (hS b (.inl rfl)), own_only h.own1 ho (fun k hk => hS k (.inr (.inl (blockOf hk)))), own_only h.own2 ho (fun k hk => hS k (.inr (.inr (blockOf hk)))), h.few, h.lo, h.hi⟩
theorem RfAt.still (h : RfAt w b base A c B d fst l st db) (hb : Below w.heap.size w w') : RfAt w' b base A c B d fst l st db := h.only (Only.of_below hb (fun _ => False)) (fun _ _ => id)
theorem RfAt.drewN (h : RfAt w b base A c B d fst l st db) (n : Nat) : RfAt (w.drewN n) b base A c B d fst l st db := ⟨h.top, h.own1, h.own2, h.few, h.lo, h.hi⟩
theorem RfAt.drew (h : RfAt w b base A c B d fst l st db) : RfAt w.drew b base A c B d fst l st db := ⟨h.top, h.own1, h.own2, h.few, h.lo, h.hi⟩
theorem RfAt.ap1 (h : RfAt w b base A c B d fst l st db) : (Value.slice A l.length c).ownBlock ≠ some b := own_apart h.own1 h.top (by decide)
theorem RfAt.ap2 (h : RfAt w b base A c B d fst l st db) : (Value.slice B l.length d).ownBlock ≠ some b := own_apart h.own2 h.top (by decide)
theorem RfAt.stale (h : RfAt w b base A c B d fst l st db) (v : Bool) : RfAt (w.setCell ⟨b, 3, none⟩ (.bool v)) b base A c B d fst l v db :=
  ⟨h.top.put 3 _, own_far (p := ⟨b, 3, none⟩) h.own1 h.ap1 _, own_far (p := ⟨b, 3, none⟩) h.own2 h.ap2 _, h.few, h.lo, h.hi⟩
theorem RfAt.double (h : RfAt w b base A c B d fst l st db) (v : Bool) : RfAt (w.setCell ⟨b, 4, none⟩ (.bool v)) b base A c B d fst l st v :=
  ⟨h.top.put 4 _, own_far (p := ⟨b, 4, none⟩) h.own1 h.ap1 _, own_far (p := ⟨b, 4, none⟩) h.own2 h.ap2 _, h.few, h.lo, h.hi⟩
/-- Where it has slots its rows are somewhere. -/
theorem RfAt.form (h : RfAt w b base A c B d fst l st db) (hp : 0 < l.length) : ∃ g q, A = some ⟨g, 0, none⟩ ∧ B = some ⟨q, 0, none⟩ ∧ g ≠ q ∧ g ≠ b ∧ q ≠ b := by
  obtain ⟨g, rfl, _, _⟩ := own_form h.own1 hp
  obtain ⟨q, rfl, _, _⟩ := own_form h.own2 hp
  refine ⟨g, q, rfl, rfl, ?_, ?_, ?_⟩
  · rintro rfl; exact own_rows h.own1 h.own2 (by decide) g rfl rfl
  · rintro rfl; exact h.ap1 rfl
  · rintro rfl; exact h.ap2 rfl
theorem RfAt.lo' (h : RfAt w b base A c B d fst l st db) (hb : base ≤ b) (k : Nat) (hk : RfTwo b A B k) : base ≤ k := by
  rcases hk with rfl | ⟨x, rfl, rfl⟩ | ⟨x, rfl, rfl⟩
  · exact hb
  · exact (h.own1.lt x.block rfl).1
  · exact (h.own2.lt x.block rfl).1
end
section
variable {w w' : World} {b base g q : Nat} {c d : Nat} {fst : Int} {l : Slots} {st db : Bool}
theorem RfAt.gen (h : RfAt w b base (some ⟨g, 0, none⟩) c (some ⟨q, 0, none⟩) d fst l st db) (i : Nat) (hi : i < l.length) : w.cell? ⟨g, i, none⟩ = some (.int .i64 (genAt l i)) := by
  rw [h.own1.cellAt i (by omega), gensOf_at l i hi]
theorem RfAt.live (h : RfAt w b base (some ⟨g, 0, none⟩) c (some ⟨q, 0, none⟩) d fst l st db) (i : Nat) (hi : i < l.length) : w.cell? ⟨q, i, none⟩ = some (.bool (liveAt l i)) := by
  rw [h.own2.cellAt i (by omega), livesOf_at l i hi]
theorem RfAt.frg (h : RfAt w b base (some ⟨g, 0, none⟩) c (some ⟨q, 0, none⟩) d fst l st db) (i : Nat) : w.frozen? ⟨g, i, none⟩ = false := h.own1.frozenAt i
theorem RfAt.frq (h : RfAt w b base (some ⟨g, 0, none⟩) c (some ⟨q, 0, none⟩) d fst l st db) (i : Nat) : w.frozen? ⟨q, i, none⟩ = false := h.own2.frozenAt i
theorem RfAt.setLive (h : RfAt w b base (some ⟨g, 0, none⟩) c (some ⟨q, 0, none⟩) d fst l st db) (hgq : g ≠ q) (hqb : q ≠ b) (i : Nat) (v : Bool) :
    RfAt (w.setCell ⟨q, i, none⟩ (.bool v)) b base (some ⟨g, 0, none⟩) c (some ⟨q, 0, none⟩) d fst (l.set i (genAt l i, v)) st db := by
  refine ⟨?_, ?_, ?_, by rw [List.length_set]; exact h.few, h.lo, h.hi⟩
  · rw [List.length_set]; exact h.top.far (Ne.symm hqb) _
  · rw [List.length_set, gensOf_same]; exact own_far (p := ⟨q, i, none⟩) h.own1 (by simpa [Value.ownBlock] using hgq) _
  · rw [List.length_set, ← livesOf_set]; exact (h.own2.stored i (.bool v)).1
theorem RfAt.setGen (h : RfAt w b base (some ⟨g, 0, none⟩) c (some ⟨q, 0, none⟩) d fst l st db) (hgq : g ≠ q) (hgb : g ≠ b) (i : Nat) (x : Int) :
    RfAt (w.setCell ⟨g, i, none⟩ (.int .i64 x)) b base (some ⟨g, 0, none⟩) c (some ⟨q, 0, none⟩) d fst (l.set i (x, liveAt l i)) st db := by
  refine ⟨?_, ?_, ?_, by rw [List.length_set]; exact h.few, h.lo, h.hi⟩
  · rw [List.length_set]; exact h.top.far (Ne.symm hgb) _
  · rw [List.length_set, ← gensOf_set]; exact (h.own1.stored i (.int .i64 x)).1
  · rw [List.length_set, livesOf_same]; exact own_far (p := ⟨g, i, none⟩) h.own2 (by simpa [Value.ownBlock] using Ne.symm hgq) _
end

theorem rfSlot_any (h : Int) (w : World) :
    Calls Try.prog 22 #[.int .i64 h] w fun e w' => e = .returned (.int .i64 (slotOf h)) ∧ w = w' := by
  by_cases h0 : h < 0
  · have HS := Lib.hid (slotOf_neg h0)
    go_enter Try.func22, Try.ntmps22
    go_wp2
    go_ret
    exact ⟨by rw [HS.out]; rfl, rfl⟩
  · have hp : 0 ≤ h := by omega
    have HS := Lib.hid (slotOf_pos hp)
    go_enter Try.func22, Try.ntmps22
    go_wp2
    go_ret
    exact ⟨by rw [HS.out]; rfl, rfl⟩

theorem rfHandle (b g n c : Nat) (i : Nat) (x : Int) (w : World) (hc : w.cell? ⟨b, 1, none⟩ = some (.slice (some ⟨g, 0, none⟩) n c)) (hx : w.cell? ⟨g, i, none⟩ = some (.int .i64 x)) (hi : i < n) (hn : n ≤ 1000) (h0 : 0 ≤ x) (h1 : x ≤ 1099511627776) (s : Int) (hs : s = (i : Int) + 1) :
    Calls Try.prog 28 #[.pointer (some ⟨b, 0, none⟩), .int .i64 s] w fun e w' => e = .returned (.int .i64 (x * 65536 + ((i : Int) + 1))) ∧ w = w' := by
  subst hs
  go_enter Try.func28, Try.ntmps28
  go_wp2
  go_ret
  exact ⟨rfl, rfl⟩

section
variable {w : World} {b base : Nat} {A B : Option Addr} {c d : Nat} {fst : Int} {l : Slots} {st db : Bool}

theorem rfCell_any (h word : Int) (H : RfAt w b base A c B d fst l st db) :
    Calls Try.prog 20 #[.pointer (some ⟨b, 0, none⟩), .int .i64 h, .int .i64 word] w fun e w' => e = .returned (.int .i64 (cellOf fst l.length h word)) ∧ w = w' := by
  have hc := H.c1
  have hc0 := H.c0
  have hlo := slotOf_lo h
  have hhi := slotOf_hi h
  have hfew := H.few
  have flo := H.lo
  have fhi := H.hi
  clear H
  generalize l.length = n at *
  have hcase : (slotOf h < 1) ∨ (1 ≤ slotOf h ∧ (n : Int) < slotOf h) ∨ ((1 ≤ slotOf h ∧ slotOf h ≤ n) ∧ word < 0) ∨ ((1 ≤ slotOf h ∧ slotOf h ≤ n) ∧ 0 ≤ word ∧ 27 < word) ∨ ((1 ≤ slotOf h ∧ slotOf h ≤ n) ∧ 0 ≤ word ∧ word < 28) := by omega
  rcases hcase with h1 | ⟨h1, h2⟩ | ⟨⟨h1, h2⟩, h3⟩ | ⟨⟨h1, h2⟩, h3, h4⟩ | ⟨⟨h1, h2⟩, h3, h4⟩
  case' inr.inr.inr.inr => have HC : Hid (cellOf fst n h word = fst + 28 * (slotOf h - 1) + word) := by unfold Hid cellOf; rw [if_pos ⟨⟨h1, h2⟩, h3, h4⟩]
  case' inl => have HC : Hid (cellOf fst n h word = -1) := by unfold Hid cellOf; rw [if_neg (by omega)]
  case' inr.inl => have HC : Hid (cellOf fst n h word = -1) := by unfold Hid cellOf; rw [if_neg (by omega)]
  case' inr.inr.inl => have HC : Hid (cellOf fst n h word = -1) := by unfold Hid cellOf; rw [if_neg (by omega)]
  case' inr.inr.inr.inl => have HC : Hid (cellOf fst n h word = -1) := by unfold Hid cellOf; rw [if_neg (by omega)]
  all_goals
    go_enter Try.func20, Try.ntmps20
    go_wp2_with fail
    refine (rfSlot_any _ _).mono ?_
    rintro e w' ⟨rfl, rfl⟩
    go_wp2_with fail
    go_ret
    exact ⟨by rw [HC.out]; rfl, rfl⟩
end
end Go.Proofs.Ytlgaihlbfjndhaa
