/-
  Layer 2: births and deaths, where a slot's words stand, and a new arena.
-/
import Derived.Test.YtlgaihlbfjndhaaArenaRight
import Derived.Deep.RegionWith
import Derived.Deep.RegionHeld3
namespace Go.Proofs.Ytlgaihlbfjndhaa
open Go.ChangeShapes Go.WideShapes Go.ChangeAt Go.RowKit
set_option linter.unusedVariables false

theorem stc_setLive : ∀ (l : Slots) (i : Nat) (v : Bool), (stc l).set (i * 2 + 1) (.bool v) = stc (l.set i (genAt l i, v))
  | [], i, v => by simp [stc]
  | p :: l, 0, v => rfl
  | p :: l, i + 1, v => by
    have e1 : (i + 1) * 2 + 1 = i * 2 + 1 + 1 + 1 := by omega
    rw [e1]
    simp only [stc, List.set_cons_succ]
    rw [stc_setLive l i v]
    rfl
theorem stc_setGen : ∀ (l : Slots) (i : Nat) (x : Int), (stc l).set (i * 2) (.int .i64 x) = stc (l.set i (x, liveAt l i))
  | [], i, v => by simp [stc]
  | p :: l, 0, v => rfl
  | p :: l, i + 1, v => by
    have e1 : (i + 1) * 2 = i * 2 + 1 + 1 := by omega
    rw [e1]
    simp only [stc, List.set_cons_succ]
    rw [stc_setGen l i v]
    rfl
theorem born_steps {l : Slots} {i : Nat} (hi : i < l.length) (x : Int) : ((l.set i (genAt l i, true)).set i (x, liveAt (l.set i (genAt l i, true)) i)) = l.set i (x, true) := by
  rw [liveAt_set _ _ _ _ hi, if_pos rfl, List.set_set]

section
variable {w : World} {b g : Nat} {fst : Int} {l : Slots} {st db : Bool}
theorem ArAt.drew (h : ArAt w b g fst l st db) : ArAt w.drew b g fst l st db := ⟨h.top, h.row, h.few, h.lo, h.hi⟩
theorem ArAt.setLive (h : ArAt w b g fst l st db) (i : Nat) (v : Bool) : ArAt (w.setCell ⟨g, i * 2 + 1, none⟩ (.bool v)) b g fst (l.set i (genAt l i, v)) st db := by
  refine ⟨?_, ?_, by rw [List.length_set]; exact h.few, h.lo, h.hi⟩
  · rw [List.length_set]; exact h.top.far h.ne _
  · have := h.row.put (i * 2 + 1) (.bool v)
    rw [List.setIfInBounds_toArray, stc_setLive] at this
    exact this
theorem ArAt.setGen (h : ArAt w b g fst l st db) (i : Nat) (x : Int) : ArAt (w.setCell ⟨g, i * 2, none⟩ (.int .i64 x)) b g fst (l.set i (x, liveAt l i)) st db := by
  refine ⟨?_, ?_, by rw [List.length_set]; exact h.few, h.lo, h.hi⟩
  · rw [List.length_set]; exact h.top.far h.ne _
  · have := h.row.put (i * 2) (.int .i64 x)
    rw [List.setIfInBounds_toArray, stc_setGen] at this
    exact this

set_option maxHeartbeats 1000000 in
theorem died_no (h G : Int) (H : ArAt w b g fst l st db) (hG : Gens l G) (hG0 : 0 ≤ G) (hG1 : G ≤ 1099511627776) (hh : h ≤ 9223372036854775807) (hr : rightB l h = false) :
    Calls Try.prog 12 #[.pointer (some ⟨b, 0, none⟩), .int .i64 h] w (ArDid w b g (.tuple #[]) fst l st true) := by
  have HH := Lib.hid H
  have HG := Lib.hid hG
  have HR := Lib.hid hr
  clear H hG hr
  go_enter Try.func12, Try.ntmps12
  go_wp2_with fail
  refine (right_any h G HH.out HG.out hG0 hG1 hh).mono ?_
  rw [HR.out]
  rintro e w1 ⟨rfl, hb⟩
  have h1 := HH.out.still hb
  have c3 := h1.c3
  have f3 := h1.fr 3
  have H1 := Lib.hid h1
  clear h1
  go_wp2_with fail
  go_end0
  exact ⟨rfl, H1.out.double true, (Only.of_below hb _).setCell (p := ⟨b, 3, none⟩) (.inl (.inl rfl)) _⟩

set_option maxHeartbeats 1000000 in
theorem died_yes (i : Nat) (h G : Int) (H : ArAt w b g fst l st db) (hG : Gens l G) (hG0 : 0 ≤ G) (hG1 : G ≤ 1099511627776) (hh : h ≤ 9223372036854775807) (hr : rightB l h = true) (hi : slotOf h = (i : Int) + 1) (hil : i < l.length) :
    Calls Try.prog 12 #[.pointer (some ⟨b, 0, none⟩), .int .i64 h] w (ArDid w b g (.tuple #[]) fst (diedAt l i) st db) := by
  have HH := Lib.hid H
  have HG := Lib.hid hG
  have HR := Lib.hid hr
  have HI := Lib.hid hi
  have hfew := H.few
  clear H hG hr hi
  go_enter Try.func12, Try.ntmps12
  go_wp2_with fail
  refine (right_any h G HH.out HG.out hG0 hG1 hh).mono ?_
  rw [HR.out]
  rintro e w1 ⟨rfl, hb⟩
  have h1 := HH.out.still hb
  have c1 := h1.c1
  have cl := h1.live i hil
  have fl := h1.frg (i * 2 + 1)
  have H1 := Lib.hid h1
  clear h1
  go_wp2_with fail
  have hi0 : (0 : Int) ≤ (i : Int) := by omega
  have hi1 : (i : Int) < (l.length : Int) := by omega
  have hi2 : IntKind.i64.wrap (i : Int) = (i : Int) := by rw [IntKind.wrap_i64]; omega
  go_region_with (go_at_call 21; refine (slot_any _ _ hh).mono ?_; rw [HI.out]; rintro e w' ⟨rfl, rfl⟩)
  all_goals go_wp2_with fail
  all_goals go_end0
  all_goals exact ⟨rfl, (H1.out.setLive i false).drew, ((Only.of_below hb (ArTwo b g)).setCell (p := ⟨g, i * 2 + 1, none⟩) (Or.inl (Or.inr rfl)) _).drew⟩

theorem born_no (s : Int) (H : ArAt w b g fst l st db) (hs : s < 1 ∨ (l.length : Int) < s) :
    Calls Try.prog 10 #[.pointer (some ⟨b, 0, none⟩), .int .i64 s] w fun e w' => e = .returned (.int .i64 0) ∧ w = w' := by
  have hc := H.c1
  have HS := Lib.hid hs
  clear H hs
  go_enter Try.func10, Try.ntmps10
  go_wp2_with fail
  refine (has_no b g _ _ _ hc HS.out).mono ?_
  rintro e w' ⟨rfl, rfl⟩
  go_wp2_with fail
  go_ret
  exact ⟨rfl, rfl⟩

theorem born_set {l : Slots} {i : Nat} (hi : i < l.length) {w : World} {b g : Nat} {fst : Int} {st db : Bool} (h : ArAt w b g fst l st db) :
    ArAt ((w.setCell ⟨g, i * 2 + 1, none⟩ (.bool true)).setCell ⟨g, i * 2, none⟩ (.int .i64 (genAt l i + 1))) b g fst (bornAt l i) st db := by
  have := (h.setLive i true).setGen i (genAt l i + 1)
  rw [born_steps hi] at this
  exact this

set_option maxHeartbeats 1000000 in
theorem born_yes (i : Nat) (G : Int) (H : ArAt w b g fst l st db) (hG : Gens l G) (hG0 : 0 ≤ G) (hG1 : G + 1 ≤ 1099511627776) (hil : i < l.length) :
    Calls Try.prog 10 #[.pointer (some ⟨b, 0, none⟩), .int .i64 ((i : Int) + 1)] w (ArDid w b g (.int .i64 (hndAt (bornAt l i) i)) fst (bornAt l i) st (db || liveAt l i)) := by
  have hc := H.c1
  have cg := H.gen i hil
  have cl := H.live i hil
  have fg := H.frg (i * 2)
  have fl := H.frg (i * 2 + 1)
  have fd := H.fr 3
  have cd := H.c3
  have hne := H.ne
  have hfew := H.few
  have hgm := gen_mem hG i hG0
  have g0 := hgm.1
  have g1 := hgm.2
  have HD : Hid (hndAt (bornAt l i) i = (genAt l i + 1) * 65536 + ((i : Int) + 1)) := by unfold Hid hndAt; rw [genAt_born hil]
  have HB := Lib.hid (born_set hil H)
  have HB2 := Lib.hid (born_set hil (H.double true))
  have HH := Lib.hid H
  clear H hG hgm
  generalize hx : genAt l i = x at *
  have HX := Lib.hid hx
  clear hx
  cases hv : liveAt l i with
  | false =>
    rw [hv] at cl
    clear hv
    generalize bornAt l i = l' at *
    generalize l.length = n at *
    go_enter Try.func10, Try.ntmps10
    go_wp2_with fail
    refine (has_yes b g n _ _ hc (by omega) (by omega)).mono ?_
    rintro e w' ⟨rfl, rfl⟩
    go_wp2_with fail
    refine (handle_any _ _ _ (by omega) (by omega) (by omega) (by omega)).mono ?_
    rintro e w' ⟨rfl, rfl⟩
    go_wp2_with fail
    go_ret
    refine ⟨by rw [HD.out]; rfl, by simpa using HB.out, ?_⟩
    exact ((Only.refl (ArTwo b g) w).setCell (p := ⟨g, i * 2 + 1, none⟩) (Or.inl (Or.inr rfl)) _).setCell (p := ⟨g, i * 2, none⟩) (Or.inl (Or.inr rfl)) _
  | true =>
    rw [hv] at cl
    clear hv
    generalize bornAt l i = l' at *
    generalize l.length = n at *
    go_enter Try.func10, Try.ntmps10
    go_wp2_with fail
    refine (has_yes b g n _ _ hc (by omega) (by omega)).mono ?_
    rintro e w' ⟨rfl, rfl⟩
    go_wp2_with fail
    refine (handle_any _ _ _ (by omega) (by omega) (by omega) (by omega)).mono ?_
    rintro e w' ⟨rfl, rfl⟩
    go_wp2_with fail
    go_ret
    refine ⟨by rw [HD.out]; rfl, by simpa using HB2.out, ?_⟩
    exact (((Only.refl (ArTwo b g) w).setCell (p := ⟨b, 3, none⟩) (Or.inl (Or.inl rfl)) _).setCell (p := ⟨g, i * 2 + 1, none⟩) (Or.inl (Or.inr rfl)) _).setCell (p := ⟨g, i * 2, none⟩) (Or.inl (Or.inr rfl)) _

/-- Where a word of h's slot stands. -/
def cellOf (fst : Int) (n : Nat) (h word : Int) : Int :=
  if (1 ≤ slotOf h ∧ slotOf h ≤ n) ∧ 0 ≤ word ∧ word < 28 then fst + 28 * (slotOf h - 1) + word else -1

theorem cell_any (h word : Int) (H : ArAt w b g fst l st db) (hh : h ≤ 9223372036854775807) :
    Calls Try.prog 19 #[.pointer (some ⟨b, 0, none⟩), .int .i64 h, .int .i64 word] w fun e w' => e = .returned (.int .i64 (cellOf fst l.length h word)) ∧ w = w' := by
  have hc := H.c1
  have hc0 := H.c0
  have hlo := slotOf_lo h
  have hhi := slotOf_hi h
  have hfew := H.few
  have flo := H.lo
  have fhi := H.hi
  clear H
  generalize l.length = n at *
  by_cases hin : 1 ≤ slotOf h ∧ slotOf h ≤ n
  · obtain ⟨h1, h2⟩ := hin
    by_cases hw : 0 ≤ word ∧ word < 28
    · obtain ⟨w0, w1⟩ := hw
      have HC : Hid (cellOf fst n h word = fst + 28 * (slotOf h - 1) + word) := by unfold Hid cellOf; rw [if_pos ⟨⟨h1, h2⟩, w0, w1⟩]
      go_enter Try.func19, Try.ntmps19
      go_wp2_with fail
      refine (slot_any _ _ hh).mono ?_
      rintro e w' ⟨rfl, rfl⟩
      go_wp2_with fail
      refine (has_yes b g n _ _ hc h1 h2).mono ?_
      rintro e w' ⟨rfl, rfl⟩
      go_wp2_with fail
      go_ret
      exact ⟨by rw [HC.out]; rfl, rfl⟩
    · have HC : Hid (cellOf fst n h word = -1) := by unfold Hid cellOf; rw [if_neg (by omega)]
      have hw' : word < 0 ∨ 28 ≤ word := by omega
      rcases hw' with hw0 | hw0
      all_goals
        try have hw1 : 0 ≤ word := by omega
        clear hw
        go_enter Try.func19, Try.ntmps19
        go_wp2_with fail
        refine (slot_any _ _ hh).mono ?_
        rintro e w' ⟨rfl, rfl⟩
        go_wp2_with fail
        refine (has_yes b g n _ _ hc h1 h2).mono ?_
        rintro e w' ⟨rfl, rfl⟩
        go_wp2_with fail
        go_ret
        exact ⟨by rw [HC.out]; rfl, rfl⟩
  · have HC : Hid (cellOf fst n h word = -1) := by unfold Hid cellOf; rw [if_neg (by omega)]
    have hno : slotOf h < 1 ∨ (n : Int) < slotOf h := by omega
    have HN := Lib.hid hno
    clear hin hno
    go_enter Try.func19, Try.ntmps19
    go_wp2_with fail
    refine (slot_any _ _ hh).mono ?_
    rintro e w' ⟨rfl, rfl⟩
    go_wp2_with fail
    refine (has_no b g n _ _ hc HN.out).mono ?_
    rintro e w' ⟨rfl, rfl⟩
    go_wp2_with fail
    go_ret
    exact ⟨by rw [HC.out]; rfl, rfl⟩
end

/-- None is live. -/
def fresh (n : Nat) : Slots := List.replicate n (0, false)
theorem fresh_length (n : Nat) : (fresh n).length = n := List.length_replicate
theorem stateInfo : (Try.prog.info? 54).map (fun i => (i.zero, i.size, i.bytes)) = some (some (.agg #[.int .i64 0, .bool false]), 2, 16) := by kernel_rfl
theorem statesOf (n : Nat) (hn : n ≤ 1000) (w : World) : (Instr.makeSlice 48 (.int .i64 (n : Int)) (.int .i64 (n : Int))).run Try.prog w = .ok (.slice (some ⟨w.heap.size, 0, none⟩) n n) (w.alloc (.cells (stc (fresh n)).toArray 54)) := by
  obtain ⟨i, hi, hzz⟩ := Option.map_eq_some_iff.1 stateInfo
  simp only [Prod.mk.injEq] at hzz
  obtain ⟨hz, hs, hb⟩ := hzz
  have := run_make w 48 54 i _ Try.underlying48 hi hz .i64 .i64 (n : Int) (n : Int) (by omega) (by omega) (by rw [hb]; omega) (by omega)
  rw [Int.toNat_natCast, hs] at this
  rw [this]
  have e : (Value.agg #[.int .i64 0, .bool false]).cells = #[.int .i64 0, .bool false] := rfl
  rw [e, stc_new, fresh]
theorem statesOf0 (w : World) : (Instr.makeSlice 48 (.int .i64 0) (.int .i64 0)).run Try.prog w = .ok (.slice (some ⟨w.heap.size, 0, none⟩) 0 0) (w.alloc (.cells (stc (fresh 0)).toArray 54)) := statesOf 0 (by omega) w
theorem statesOfMost (w : World) : (Instr.makeSlice 48 (.int .i64 1000) (.int .i64 1000)).run Try.prog w = .ok (.slice (some ⟨w.heap.size, 0, none⟩) 1000 1000) (w.alloc (.cells (stc (fresh 1000)).toArray 54)) := statesOf 1000 (by omega) w

/-- How many slots a new arena has, and its first cell. -/
def slotsOf (n : Int) : Nat := min n.toNat 1000
def firstOf (n : Int) : Int := if n < 0 then 0 else if 65536 < n then 65536 else n
theorem firstOf_lo (n : Int) : 0 ≤ firstOf n := by unfold firstOf; repeat' split
                                                   all_goals omega
theorem firstOf_hi (n : Int) : firstOf n ≤ 65536 := by unfold firstOf; repeat' split
                                                       all_goals omega

/-- A new arena, and nothing else has turned. -/
def ArMade (w : World) (fst : Int) (k : Nat) (e : Ending) (w' : World) : Prop :=
  e = .returned (.pointer (some ⟨w.heap.size + 1, 0, none⟩)) ∧ ArAt w' (w.heap.size + 1) w.heap.size fst (fresh k) false false ∧ Below w.heap.size w w' ∧ w'.heap.size = w.heap.size + 2

theorem arMade_of (w : World) (fst : Int) (k : Nat) (hk : k ≤ 1000) (h0 : 0 ≤ fst) (h1 : fst ≤ 65536) : ArMade w fst k (.returned (.pointer (some ⟨w.heap.size + 1, 0, none⟩)))
    ((w.alloc (.cells (stc (fresh k)).toArray 54)).alloc (.cells #[.int .i64 fst, .slice (some ⟨w.heap.size, 0, none⟩) k k, .bool false, .bool false] 50)) := by
  refine ⟨rfl, ⟨?_, ?_, by rw [fresh_length]; exact hk, h0, h1⟩, ((Below.refl _ _).alloc (Nat.le_refl _) _).alloc (by simp) _, by simp⟩
  · have := Whole.new (w.alloc (.cells (stc (fresh k)).toArray 54)) 50 #[.int .i64 fst, .slice (some ⟨w.heap.size, 0, none⟩) k k, .bool false, .bool false]
    rw [World.size_alloc] at this
    rw [fresh_length]
    exact this
  · exact (Whole.new w 54 (stc (fresh k)).toArray).alloc (.cells #[.int .i64 fst, .slice (some ⟨w.heap.size, 0, none⟩) k k, .bool false, .bool false] 50)

set_option maxHeartbeats 2000000 in
theorem arNew_any (first n : Int) (w : World) : Calls Try.prog 8 #[.int .i64 first, .int .i64 n] w (ArMade w (firstOf first) (slotsOf n)) := by
  have hf : first < 0 ∨ 65536 < first ∨ (0 ≤ first ∧ first ≤ 65536) := by omega
  have hsplit : (n < 0) ∨ (1000 < n) ∨ (∃ k : Nat, n = k ∧ k ≤ 1000) := by
    by_cases h1 : n < 0
    · exact .inl h1
    · by_cases h2 : 1000 < n
      · exact .inr (.inl h2)
      · exact .inr (.inr ⟨n.toNat, by omega, by omega⟩)
  have key : ∀ f' : Int, ((first < 0 ∧ f' = 0) ∨ (65536 < first ∧ f' = 65536) ∨ (0 ≤ first ∧ first ≤ 65536 ∧ f' = first)) → firstOf first = f' := by
    intro f' hh
    unfold firstOf
    repeat' split
    all_goals omega
  rcases hsplit with h | h | ⟨k, rfl, h⟩
  · have hm := statesOf0
    have hk : Hid (slotsOf n = 0) := by unfold Hid slotsOf; omega
    rcases hf with f | f | ⟨f, f'⟩
    · have HF := Lib.hid (key 0 (by omega))
      clear key
      go_enter Try.func8, Try.ntmps8
      go_wp2
      go_ret
      rw [hk.out, HF.out]
      exact arMade_of w 0 0 (by omega) (by omega) (by omega)
    · have HF := Lib.hid (key 65536 (by omega))
      have f0 : 0 ≤ first := by omega
      clear key
      go_enter Try.func8, Try.ntmps8
      go_wp2
      go_ret
      rw [hk.out, HF.out]
      exact arMade_of w 65536 0 (by omega) (by omega) (by omega)
    · have HF := Lib.hid (key first (by omega))
      clear key
      go_enter Try.func8, Try.ntmps8
      go_wp2
      go_ret
      rw [hk.out, HF.out]
      exact arMade_of w first 0 (by omega) f f'
  · have hm := statesOfMost
    have hk : Hid (slotsOf n = 1000) := by unfold Hid slotsOf; omega
    have hge : 0 ≤ n := by omega
    rcases hf with f | f | ⟨f, f'⟩
    · have HF := Lib.hid (key 0 (by omega))
      clear key
      go_enter Try.func8, Try.ntmps8
      go_wp2
      go_ret
      rw [hk.out, HF.out]
      exact arMade_of w 0 1000 (by omega) (by omega) (by omega)
    · have HF := Lib.hid (key 65536 (by omega))
      have f0 : 0 ≤ first := by omega
      clear key
      go_enter Try.func8, Try.ntmps8
      go_wp2
      go_ret
      rw [hk.out, HF.out]
      exact arMade_of w 65536 1000 (by omega) (by omega) (by omega)
    · have HF := Lib.hid (key first (by omega))
      clear key
      go_enter Try.func8, Try.ntmps8
      go_wp2
      go_ret
      rw [hk.out, HF.out]
      exact arMade_of w first 1000 (by omega) f f'
  · have hm := statesOf k h
    have hk : Hid (slotsOf (k : Int) = k) := by unfold Hid slotsOf; omega
    rcases hf with f | f | ⟨f, f'⟩
    · have HF := Lib.hid (key 0 (by omega))
      clear key
      go_enter Try.func8, Try.ntmps8
      go_wp2
      go_ret
      rw [hk.out, HF.out]
      exact arMade_of w 0 k (by omega) (by omega) (by omega)
    · have HF := Lib.hid (key 65536 (by omega))
      have f0 : 0 ≤ first := by omega
      clear key
      go_enter Try.func8, Try.ntmps8
      go_wp2
      go_ret
      rw [hk.out, HF.out]
      exact arMade_of w 65536 k (by omega) (by omega) (by omega)
    · have HF := Lib.hid (key first (by omega))
      clear key
      go_enter Try.func8, Try.ntmps8
      go_wp2
      go_ret
      rw [hk.out, HF.out]
      exact arMade_of w first k (by omega) f f'
end Go.Proofs.Ytlgaihlbfjndhaa
