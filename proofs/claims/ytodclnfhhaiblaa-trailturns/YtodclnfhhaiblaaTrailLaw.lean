/-
  Layer 3: a step of a program, as a call.
-/
import Derived.Test.YtodclnfhhaiblaaTrailProg
import Derived.Test.YtodclnfhhaiblaaTrailRun
namespace Go.Proofs.Ytodclnfhhaiblaa
open Go.ChangeShapes Go.WideShapes Go.ChangeAt Go.RowKit
set_option linter.unusedVariables false

/-- The blocks that a step of a program may turn. -/
def May (b g tb : Nat) (tv mv : Value) (sp : Option Addr) (k : Nat) : Prop := All b g tb tv mv k ∨ ∃ p, sp = some p ∧ k = p.block

/-- What a step of a program leaves. -/
structure Stepped (w : World) (b g tb : Nat) (tv mv : Value) (sp : Option Addr) (R : Pst × Bool) (tv' mv' : Value) (w' : World) : Prop where
  st : St w' b g tb tv' mv' (ended R.1.T) R.1.m
  only : Only (May b g tb tv mv sp) w w'
  t : ∀ k, tv'.ownBlock = some k → tv.ownBlock = some k ∨ w.heap.size ≤ k
  m : ∀ k, mv'.ownBlock = some k → mv.ownBlock = some k ∨ w.heap.size ≤ k
  sum : ∀ p, sp = some p → ¬ All b g tb tv mv p.block → p.block < w.heap.size → w'.heap[p.block]? = (if R.2 then w.setCell p (.int .i64 R.1.s) else w).heap[p.block]?

section
variable {w w' w'' : World} {b g tb : Nat} {tv mv tv' mv' : Value} {T : Tr} {m m' : Mm}

theorem heap_put_same (w w' : World) (p : Addr) (u : Value) (h : w'.heap[p.block]? = w.heap[p.block]?) : (w'.setCell p u).heap[p.block]? = (w.setCell p u).heap[p.block]? := by
  simp [World.setCell, Array.getElem?_modify, h]

theorem prog_step (time : Int) (A : Option Addr) (n c lb lo : Nat) (sp : Option Addr) (l : List Pop) (h : St w b g tb tv mv T m) (ho : T.over = false) (hp : T.ph = 0) (hn : n = l.length) (hl : OpsIn w A lb lo l)
    (hlb : 0 < l.length → ¬ All b g tb tv mv lb) (hsp : ∀ p, sp = some p → (∃ u, w.cell? p = some (.int .i64 u)) ∧ w.frozen? p = false ∧ ¬ All b g tb tv mv p.block)
    (ht : T.told.length + l.length ≤ 900) (hmk : T.marks.length + l.length ≤ 900) (hc : m.cnt + l.length ≤ 1000000) :
    Calls Try.prog 13 #[.pointer (some ⟨tb, 0, none⟩), .int .i64 time, .func (.func 14) #[.agg #[.slice A n c, .pointer sp]] #[]] w fun e w' =>
      e = .returned (.bool (!dry (stepR l time T m).1.T)) ∧ ∃ tv' mv', Stepped w b g tb tv mv sp (stepR l time T m) tv' mv' w' := by
  have h0 := h.began time
  have hm0 := moved_began w b g tb tv mv time
  have hl0 : OpsIn (beganAt w tb time) A lb lo l := ⟨hl.at_, fun h => Nat.lt_of_lt_of_le (hl.lt h) hm0.only.size, fun k o hk => (hl.ops k o hk).only hm0.only (hlb (by
    have := (List.getElem?_eq_some_iff.1 hk).1
    omega))⟩
  have hsp0 : ∀ p, sp = some p → (∃ u, (beganAt w tb time).cell? p = some (.int .i64 u)) ∧ (beganAt w tb time).frozen? p = false ∧ ¬ All b g tb tv mv p.block := by
    intro p hpp
    obtain ⟨⟨u, hu⟩, hz, hna⟩ := hsp p hpp
    have hlt := World.block_lt_of_cell? w _ hu
    exact ⟨⟨u, (hm0.only.cell hlt hna).trans hu⟩, (hm0.only.frozen hlt hna).trans hz, hna⟩
  have hf0 : Fine (began time T) := ⟨.inr (.inl rfl), fun _ => Nat.zero_le _, fun _ => ho⟩
  have hrun := prog_runs (w := beganAt w tb time) A n c lb lo sp l ⟨began time T, m, 0⟩ h0 hf0 rfl hn hl0 hlb hsp0 ht hmk hc
  refine (step_runs time 14 #[.agg #[.slice A n c, .pointer sp]]
    (fun w1 T' m' tv' mv' => T' = (stepR l time T m).1.T ∧ m' = (stepR l time T m).1.m ∧ ∃ wl, Moved (beganAt w tb time) b g tb tv mv wl tv' mv' ∧ (if (stepR l time T m).2 then laid sp (stepR l time T m).1.s wl else wl) = w1)
    (fun _ => rfl) h ho hp (hrun.mono ?_)).mono ?_
  · rintro e w1 ⟨rfl, tv', mv', wl, s1, f1, m1, hw⟩
    refine ⟨rfl, _, _, tv', mv', ?_, f1, rfl, rfl, wl, m1, hw⟩
    rw [← hw]
    split
    · cases hs : sp with
      | none => exact s1
      | some p =>
        obtain ⟨⟨u, hu⟩, _, hna⟩ := hsp0 p hs
        have hlt := World.block_lt_of_cell? _ _ hu
        have hna' : ¬ All b g tb tv' mv' p.block := fun ha => hna (m1.all hlt ha)
        have ho' : Only (fun k => k = p.block) wl (laid (some p) (runP l ⟨began time T, m, 0⟩).1.s wl) := (Only.refl (fun k => k = p.block) wl).setCell (p := p) (.inl rfl) _
        refine ⟨s1.tr.only ho' (fun he => hna' (he ▸ .inr (.inr (.inl rfl)))) (fun k hk he => hna' (he ▸ .inr (.inr (.inr (.inl hk))))) (fun k hk he => hna' (he ▸ .inr (.inr (.inr (.inr hk))))), s1.mem.only ho' (fun he => hna' (he ▸ .inl rfl)) (fun he => hna' (he ▸ .inr (.inl rfl))), s1.apart⟩
    · exact s1
  · rintro e w2 ⟨w1, T', m', tv', mv', rfl, s1, f1, ⟨rfl, rfl, wl, m1, hw⟩, rfl⟩
    have me := moved_ended w1 b g tb tv' mv' (!dry (stepR l time T m).1.T)
    have m2 := hm0.trans m1
    have hlaid : Only (May b g tb tv mv sp) w w1 := by
      have h1 : Only (May b g tb tv mv sp) w wl := m2.only.mono (fun k _ hk => .inl hk)
      rw [← hw]
      split
      · cases hs : sp with
        | none => rw [hs] at h1; exact h1
        | some p => rw [hs] at h1; exact h1.setCell (.inl (.inr ⟨p, rfl, rfl⟩)) _
      · exact h1
    refine ⟨rfl, tv', mv', s1.ended, ⟨?_, ?_, ?_, ?_, ?_⟩, m2.t, m2.m, ?_⟩
    · exact me.only.os.trans hlaid.os
    · exact me.only.tape.trans hlaid.tape
    · exact me.only.output.trans hlaid.output
    · exact Nat.le_trans hlaid.size me.only.size
    · intro k hk hn
      refine (me.only.block k (Nat.lt_of_lt_of_le hk hlaid.size) (fun ha => hn (.inl (m2.all hk ha)))).trans (hlaid.block k hk hn)
    · intro p hpp hna hlt
      have hna' : ¬ All b g tb tv' mv' p.block := fun ha => hna (m2.all hlt ha)
      rw [me.only.block p.block (Nat.lt_of_lt_of_le hlt hlaid.size) hna', ← hw, hpp]
      have e1 := m2.only.block p.block hlt hna
      split
      · exact heap_put_same _ _ _ _ e1
      · exact e1
end

/-- A new memory, wherever it lies. -/
theorem new_mem_ex (n : Int) (w : World) : Calls Try.prog 9 #[.int .i64 n] w fun e w' => ∃ b g, e = .returned (.pointer (some ⟨b, 0, none⟩)) ∧ MemAt w' b g (List.replicate (many n) 0) 0 ∧ w.heap.size ≤ b ∧ w.heap.size ≤ g ∧ Below w.heap.size w w' := by
  refine (new_mem n w).mono ?_
  rintro e w' ⟨rfl, h1, h2, h3⟩
  exact ⟨_, _, rfl, h1, by omega, by omega, h2⟩
/-- A new trail, wherever it lies. -/
theorem new_trail_ex {w : World} {b g : Nat} {m : Mm} (hm : MemAt w b g m.cs m.cnt) : Calls Try.prog 11 #[.pointer (some ⟨b, 0, none⟩)] w fun e w' =>
    ∃ tb, e = .returned (.pointer (some ⟨tb, 0, none⟩)) ∧ St w' b g tb (.slice none 0 0) (.slice none 0 0) newTr m ∧ w.heap.size ≤ tb ∧ Below w.heap.size w w' := by
  refine new_trail.mono ?_
  rintro e w' ⟨rfl, rfl⟩
  have hb : Below w.heap.size w (w.alloc (.cells #[.pointer (some ⟨b, 0, none⟩), .slice none 0 0, .slice none 0 0, .bool false, .int .i64 0, .int .i64 0, .int .i64 0] 69)) := (Below.refl _ _).alloc (Nat.le_refl _) _
  exact ⟨_, rfl, ⟨newTr_at w b, hm.only (Only.of_below hb (fun _ => False)) id id, by simp [Value.ownBlock]⟩, Nat.le_refl _, hb⟩

/-- The cells of an op. -/
def popCells (o : Pop) : Array Value := #[.int .u8 o.kd, .int .i64 o.i, .int .i64 o.v, .int .i64 o.old, .bool o.use]
theorem ops_one (w : World) (o : Pop) (lb : Nat) (h0 : 0 ≤ o.kd) (h1 : o.kd ≤ 255) (h : Whole w lb 53 #[.int .u8 o.kd, .int .i64 o.i, .int .i64 o.v, .int .i64 o.old, .bool o.use]) : OpsIn w (some ⟨lb, 0, none⟩) lb 0 [o] := by
  refine ⟨fun _ => rfl, fun _ => h.lt, fun k o' hk => ?_⟩
  match k, hk with
  | 0, hk =>
    simp at hk
    subst hk
    exact ⟨h.cell 0, h.cell 1, h.cell 2, h.cell 3, h.cell 4, h0, h1⟩
theorem not_all_new {w w' : World} {b g tb : Nat} {tv mv : Value} {T : Tr} {m : Mm} {k : Nat} (h : St w b g tb tv mv T m) (hk : w.heap.size ≤ k) : ¬ All b g tb tv mv k := by
  have h1 := h.mem.top.lt
  have h2 := h.mem.row.lt
  have h3 := h.tr.top.lt
  rintro (h4 | h4 | h4 | h4 | h4)
  · omega
  · omega
  · omega
  · have := h.tr.told.lt k h4; omega
  · have := h.tr.marks.lt k h4; omega

set_option maxHeartbeats 1000000 in
theorem tr_awake (w : World) : Calls Try.prog 7 #[] w fun e w' => e = .returned (.bool true) ∧ Below w.heap.size w w' := by
  go_enter Try.func7, Try.ntmps7
  go_wp2_with fail
  refine (new_mem_ex 1 _).mono ?_
  rintro e w1 ⟨b, g, rfl, hm, hb, hg, hbel⟩
  have HM : Hid (MemAt w1 b g (Mm.mk [0] 0).cs (Mm.mk [0] 0).cnt) := hm
  have HB := Lib.hid hbel
  have hsz1 := hbel.size
  clear hm hbel
  go_wp2_with fail
  refine (new_trail_ex (m := ⟨[0], 0⟩) HM.out).mono ?_
  rintro e w2 ⟨tb, rfl, hs, htb, hbel⟩
  have HB2 := Lib.hid (HB.out.trans (hbel.mono HB.out.size))
  have HS := Lib.hid hs
  clear hs hbel HB HM
  go_wp2_with fail
  have hb3 : Below w2.heap.size w2 ((w2.alloc (.cells #[.int .u8 2, .int .i64 0, .int .i64 5, .int .i64 0, .bool false] 53)).alloc (.cells #[.slice (some ⟨w2.heap.size, 0, none⟩) 1 1, .pointer none] 40)) := ((Below.refl _ _).alloc (Nat.le_refl _) _).alloc (by simp only [World.size_alloc]; omega) _
  have hop : Whole ((w2.alloc (.cells #[.int .u8 2, .int .i64 0, .int .i64 5, .int .i64 0, .bool false] 53)).alloc (.cells #[.slice (some ⟨w2.heap.size, 0, none⟩) 1 1, .pointer none] 40)) w2.heap.size 53 #[.int .u8 2, .int .i64 0, .int .i64 5, .int .i64 0, .bool false] := (Whole.new w2 _ _).alloc _
  refine (prog_step 0 _ 1 1 w2.heap.size 0 none [⟨2, 0, 5, 0, false⟩] (HS.out.still hb3) rfl rfl rfl (ops_one _ ⟨2, 0, 5, 0, false⟩ _ (by decide) (by decide) hop) (fun _ => not_all_new (w' := w2) HS.out (Nat.le_refl _)) (fun p hp => by cases hp) (by decide) (by decide) (by decide)).mono ?_
  rintro e w4 ⟨rfl, tv', mv', hst⟩
  obtain ⟨d1, d2, d3, d4, d5, d6, d7⟩ := step_does (l := [⟨2, 0, 5, 0, false⟩]) (time := 0) (T := newTr) (m := ⟨[0], 0⟩) (o := ⟨2, 0, 5, 0, false⟩) (q := []) (by decide) rfl rfl
  have HX := Lib.hid (overs hst.st)
  have HY := Lib.hid (steps hst.st)
  have HC := Lib.hid (count_any _ _ _ hst.st.mem.c1)
  rw [d3] at HX
  rw [d1] at HY
  rw [d5] at HC
  rw [d4]
  have HB4 : Hid (Below w.heap.size w w4) := by
    have h23 := HB2.out.trans (hb3.mono HB2.out.size)
    have hsz := HB2.out.size
    have hs2 := HS.out
    refine h23.trans (hst.only.below (fun k hk => ?_) h23.size)
    rcases hk with (hk | hk | hk | hk | hk) | ⟨p, hp, _⟩
    · omega
    · omega
    · have := HB2.out.size; omega
    · simp [Value.ownBlock] at hk
    · simp [Value.ownBlock] at hk
    · cases hp
  clear hst d1 d2 d3 d4 d5 d6 d7 hb3 hop HS
  go_wp2_with fail
  refine HX.out.mono ?_
  rintro e w5 ⟨rfl, rfl⟩
  go_wp2_with fail
  refine HY.out.mono ?_
  rintro e w5 ⟨rfl, rfl⟩
  go_wp2_with fail
  refine HC.out.mono ?_
  rintro e w5 ⟨rfl, rfl⟩
  go_wp2_with fail
  go_ret
  exact ⟨rfl, HB4.out⟩
end Go.Proofs.Ytodclnfhhaiblaa
