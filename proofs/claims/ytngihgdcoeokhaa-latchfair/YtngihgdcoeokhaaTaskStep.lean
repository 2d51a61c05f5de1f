/-
  A step of a task that is a program of accesses, and that may set a flag where it answers true: for whatever layer.
-/
import Derived.Test.YtngihgdcoeokhaaTaskPure
namespace Go.Proofs.Ytngihgdcoeokhaa
open Go.ChangeShapes Go.WideShapes Go.ChangeAt Go.RowKit
set_option linter.unusedVariables false

/-- The flag is set, if a. -/
def flagged (sp : Option Addr) (a : Bool) (w : World) : World := if a then (match sp with | some p => w.setCell p (.bool true) | none => w) else w
/-- The blocks that a step may turn. -/
def May (b g tb : Nat) (tv mv : Value) (sp : Option Addr) (k : Nat) : Prop := All b g tb tv mv k ∨ ∃ p, sp = some p ∧ k = p.block
/-- May the flag be set? -/
def FlagIn (w : World) (b g tb : Nat) (tv mv : Value) (sp : Option Addr) : Prop := ∀ p, sp = some p → (∃ u, w.cell? p = some (.bool u)) ∧ w.frozen? p = false ∧ ¬ All b g tb tv mv p.block
/-- What the task's run leaves. -/
def Ran (w : World) (b g tb : Nat) (tv mv : Value) (sp : Option Addr) (o : Out Bool) (e : Ending) (w' : World) : Prop :=
  e = .returned (.tuple #[]) ∧ ∃ tv' mv' wl, St wl b g tb tv' mv' o.T o.m ∧ Moved w b g tb tv mv wl tv' mv' ∧ flagged sp o.a wl = w'

/-- What a step leaves. -/
structure Stepped (w : World) (b g tb : Nat) (tv mv : Value) (sp : Option Addr) (T : Tr) (u : Turn Bool) (T' : Tr) (tv' mv' : Value) (w' : World) : Prop where
  st : St w' b g tb tv' mv' T' u.m
  told : T'.told = T.told ++ u.new
  over : T'.over = u.over
  ph : T'.ph = 0
  marks : T'.marks = T.marks
  only : Only (May b g tb tv mv sp) w w'
  t : ∀ k, tv'.ownBlock = some k → tv.ownBlock = some k ∨ w.heap.size ≤ k
  m : ∀ k, mv'.ownBlock = some k → mv.ownBlock = some k ∨ w.heap.size ≤ k
  flag : ∀ p, sp = some p → ¬ All b g tb tv mv p.block → p.block < w.heap.size → w'.heap[p.block]? = (flagged sp u.a w).heap[p.block]?

section
variable {w w' w'' : World} {b g tb : Nat} {tv mv tv' mv' : Value} {T T' : Tr} {m m' : Mm} {sp : Option Addr} {t : Turn Bool}

theorem FlagIn.moved (h : FlagIn w b g tb tv mv sp) (hm : Moved w b g tb tv mv w' tv' mv') : FlagIn w' b g tb tv' mv' sp := by
  intro p hpp
  obtain ⟨⟨u, hu⟩, hz, hna⟩ := h p hpp
  have hlt := World.block_lt_of_cell? w _ hu
  exact ⟨⟨u, (hm.only.cell hlt hna).trans hu⟩, (hm.only.frozen hlt hna).trans hz, fun ha => hna (hm.all hlt ha)⟩

theorem Stepped.all (h : Stepped w b g tb tv mv sp T t T' tv' mv' w') {k : Nat} (hk : k < w.heap.size) (ha : All b g tb tv' mv' k) : All b g tb tv mv k := by
  rcases ha with h1 | h1 | h1 | h1 | h1
  · exact .inl h1
  · exact .inr (.inl h1)
  · exact .inr (.inr (.inl h1))
  · rcases h.t k h1 with h2 | h2
    · exact .inr (.inr (.inr (.inl h2)))
    · omega
  · rcases h.m k h1 with h2 | h2
    · exact .inr (.inr (.inr (.inr h2)))
    · omega
/-- The flag's block, known whole. -/
theorem Stepped.flags {qb qi : Nat} {ty : TypeId} {cs : Array Value} (h : Stepped w b g tb tv mv (some ⟨qb, qi, none⟩) T t T' tv' mv' w') (hw : Whole w qb ty cs) (hn : ¬ All b g tb tv mv qb) :
    Whole w' qb ty (if t.a then cs.setIfInBounds qi (.bool true) else cs) := by
  have := h.flag ⟨qb, qi, none⟩ rfl hn hw.lt
  unfold Whole
  simp only at this
  rw [this]
  unfold flagged
  cases t.a
  · exact hw
  · exact hw.put qi (.bool true)

theorem task_step (time : Int) (F : FuncId) (first : Array Value) (p : Task Bool)
    (hcf : ∀ w, (callFunc F (first.push (.pointer (some ⟨tb, 0, none⟩)))).run Try.prog w = .ok (.enter F (first.push (.pointer (some ⟨tb, 0, none⟩)))) w)
    (h : St w b g tb tv mv T m) (ho : T.over = false) (hp : T.ph = 0) (hsp : FlagIn w b g tb tv mv sp)
    (hrun : ∀ w T, St w b g tb tv mv T m → Fine T → FlagIn w b g tb tv mv sp → T.told.length = T'.told.length → Calls Try.prog F (first.push (.pointer (some ⟨tb, 0, none⟩))) w (Ran w b g tb tv mv sp (play p T m)))
    (hl : T'.told.length = T.told.length) :
    Calls Try.prog 11 #[.pointer (some ⟨tb, 0, none⟩), .int .i64 time, .func (.func F) first #[]] w fun e w' =>
      e = .returned (.bool (turn p T.told m).over) ∧ ∃ T' tv' mv', Stepped w b g tb tv mv sp T (turn p T.told m) T' tv' mv' w' := by
  have h0 := h.began time
  have hm0 := moved_began w b g tb tv mv time
  have hsp0 := hsp.moved hm0
  have hf0 : Fine (began time T) := ⟨.inr (.inl rfl), fun _ => Nat.zero_le _, fun _ => ho⟩
  have hr := hrun (beganAt w tb time) (began time T) h0 hf0 hsp0 hl.symm
  obtain ⟨b1, b2, b3, b4, b5, b6⟩ := began_turn p time T m
  have ff := play_fine p (began time T) m hf0
  generalize play p (began time T) m = o at *
  refine (step_runs time F first
    (fun w1 T' m' tv' mv' => T' = o.T ∧ m' = o.m ∧ ∃ wl, Moved (beganAt w tb time) b g tb tv mv wl tv' mv' ∧ flagged sp o.a wl = w1)
    hcf h ho hp (hr.mono ?_)).mono ?_
  · rintro e w1 ⟨rfl, tv', mv', wl, s1, m1, hw⟩
    refine ⟨rfl, _, _, tv', mv', ?_, ff, rfl, rfl, wl, m1, hw⟩
    rw [← hw]
    unfold flagged
    split
    · cases hs : sp with
      | none => exact s1
      | some p =>
        obtain ⟨⟨u, hu⟩, _, hna⟩ := hsp0 p hs
        have hlt := World.block_lt_of_cell? _ _ hu
        have hna' : ¬ All b g tb tv' mv' p.block := fun ha => hna (m1.all hlt ha)
        have ho' : Only (fun k => k = p.block) wl (wl.setCell p (.bool true)) := (Only.refl (fun k => k = p.block) wl).setCell (p := p) (.inl rfl) _
        refine ⟨s1.tr.only ho' (fun he => hna' (he ▸ .inr (.inr (.inl rfl)))) (fun k hk he => hna' (he ▸ .inr (.inr (.inr (.inl hk))))) (fun k hk he => hna' (he ▸ .inr (.inr (.inr (.inr hk))))), s1.mem.only ho' (fun he => hna' (he ▸ .inl rfl)) (fun he => hna' (he ▸ .inr (.inl rfl))), s1.apart⟩
    · exact s1
  · rintro e w2 ⟨w1, T', m', tv', mv', rfl, s1, f1, ⟨rfl, rfl, wl, m1, hw⟩, rfl⟩
    have me := moved_ended w1 b g tb tv' mv' (!dry o.T)
    have m2 := hm0.trans m1
    have hlaid : Only (May b g tb tv mv sp) w w1 := by
      have h1 : Only (May b g tb tv mv sp) w wl := m2.only.mono (fun k _ hk => .inl hk)
      rw [← hw]
      unfold flagged
      split
      · cases hs : sp with
        | none => rw [hs] at h1; exact h1
        | some p => rw [hs] at h1; exact h1.setCell (.inl (.inr ⟨p, rfl, rfl⟩)) _
      · exact h1
    refine ⟨by rw [b6]; simp, Go.Proofs.Ytngihgdcoeokhaa.ended o.T, tv', mv', ?_, ?_, ?_, rfl, b4, ⟨?_, ?_, ?_, ?_, ?_⟩, m2.t, m2.m, ?_⟩
    · have := s1.ended
      rw [b2] at this
      exact this
    · exact b3
    · show (!dry o.T) = _
      rw [b6]; simp
    · exact me.only.os.trans hlaid.os
    · exact me.only.tape.trans hlaid.tape
    · exact me.only.output.trans hlaid.output
    · exact Nat.le_trans hlaid.size me.only.size
    · intro k hk hn
      refine (me.only.block k (Nat.lt_of_lt_of_le hk hlaid.size) (fun ha => hn (.inl (m2.all hk ha)))).trans (hlaid.block k hk hn)
    · intro p hpp hna hlt
      have hna' : ¬ All b g tb tv' mv' p.block := fun ha => hna (m2.all hlt ha)
      rw [me.only.block p.block (Nat.lt_of_lt_of_le hlt hlaid.size) hna', ← hw, ← b1, hpp]
      have e1 := m2.only.block p.block hlt hna
      unfold flagged
      split
      · exact heap_put_same _ _ _ _ e1
      · exact e1
end
end Go.Proofs.Ytngihgdcoeokhaa
