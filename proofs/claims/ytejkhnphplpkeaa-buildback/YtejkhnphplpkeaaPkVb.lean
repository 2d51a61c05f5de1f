/-
  Texts of our own, one behind the other (BdLone): what the laws' proofs rest on; each says at its head what it holds. No conditions.
-/
import Derived.Test.YtejkhnphplpkeaaPkYb
/-
  Layer 18: one trail alone, whose task reads, and lays what it answers into whatever blocks of S: for whatever such task.
-/
namespace Go.Proofs.Ytejkhnphplpkeaa
open Go.ChangeShapes Go.WideShapes Go.ChangeAt Go.RowKit
set_option linter.unusedVariables false
variable {α β : Type}

section
variable {w0 w w' : World} {b g tb ab ag : Nat} {S : Nat → Prop} {lay : Option α → World → Prop} {X : Wone (Option α)} {T : Tr} {tv mv : Value}
/-- One trail of its own, over a memory and an arena, with variables that its task lays. -/
structure SLay (w0 : World) (b g tb ab ag : Nat) (S : Nat → Prop) (lay : Option α → World → Prop) (X : Wone (Option α)) (T : Tr) (tv mv : Value) (w : World) : Prop where
  st : WSt w b g tb ab ag tv mv T X.m X.x
  told : T.told = X.told
  over : T.over = X.over
  ph : T.ph = 0
  cell : lay X.v w
  idle : X.over = false → X.v = none
  lt : ∀ k, S k → k < w.heap.size
  apart : ∀ k, S k → ¬ WAll b g tb ab ag tv mv k
  only : Only (fun k => CTwo b g k ∨ ArTwo ab ag k ∨ S k) w0 w
  new : ∀ k, All b g tb tv mv k → CTwo b g k ∨ w0.heap.size ≤ k
theorem SLay.still (k : Keeps tb lay) (h : SLay w0 b g tb ab ag S lay X T tv mv w) (hb : Below w.heap.size w w') : SLay w0 b g tb ab ag S lay X T tv mv w' :=
  ⟨h.st.still hb, h.told, h.over, h.ph, k.still _ _ _ h.cell hb, h.idle, fun k hk => Nat.lt_of_lt_of_le (h.lt k hk) hb.size, h.apart, h.only.trans (Only.of_below hb _), h.new⟩
/-- A step of it. -/
theorem SLay.step {F : FuncId} {first : Array Value} {p : WTask (Option α)} (time : Int) (k : Keeps tb lay) (h : SLay w0 b g tb ab ag S lay X T tv mv w)
    (hcf : ∀ w, (callFunc F (first.push (.pointer (some ⟨tb, 0, none⟩)))).run Try.prog w = .ok (.enter F (first.push (.pointer (some ⟨tb, 0, none⟩)))) w)
    (hidle : (wone some p X).over = false → (wone some p X).v = none)
    (hF : ∀ W T, w.heap.size = W.heap.size → WSt W b g tb ab ag tv mv T X.m X.x → Fine T → T.told = X.told → lay none W → Calls Try.prog F (first.push (.pointer (some ⟨tb, 0, none⟩))) W
      (WRan W b g tb ab ag tv mv S (fun W' => lay (wplay p T X.m).a W') (wplay p T X.m) X.x)) :
    Calls Try.prog 32 #[.pointer (some ⟨tb, 0, none⟩), .int .i64 time, .func (.func F) first #[]] w fun e w' =>
      ∃ T' tv' mv', e = .returned (.bool (wone some p X).over) ∧ SLay w0 b g tb ab ag S lay (wone some p X) T' tv' mv' w' := by
  cases ho : X.over with
  | true =>
    refine (step_over time _ h.st.st (h.over.trans ho)).mono ?_
    rintro e w' ⟨rfl, rfl⟩
    rw [wone_over some p X ho]
    exact ⟨T, tv, mv, by rw [ho], h⟩
  | false =>
    have hv0 : X.v = none := h.idle ho
    have hov : T.over = false := h.over.trans ho
    have oB : Only (fun k => k = tb) w (beganAt w tb time) := (((Only.refl (fun k => k = tb) w).setCell (p := ⟨tb, 4, none⟩) (.inl rfl) _).setCell (p := ⟨tb, 5, none⟩) (.inl rfl) _).setCell (p := ⟨tb, 6, none⟩) (.inl rfl) _
    have hB : WSt (beganAt w tb time) b g tb ab ag tv mv (began time T) X.m X.x := ⟨h.st.st.began time, h.st.ar.only oB (fun e => h.st.far (.inl rfl) (.inr (.inr (.inl e)))) (fun e => h.st.far (.inr rfl) (.inr (.inr (.inl e))))⟩
    have hf0 : Fine (began time T) := ⟨.inr (.inl rfl), fun _ => Nat.zero_le _, fun _ => hov⟩
    have b1 := (began_wturn p time T X.m).1
    rw [h.told] at b1
    have hl0 : lay none (beganAt w tb time) := k.began (by rw [← hv0]; exact h.cell) time
    have hr := hF (beganAt w tb time) (began time T) (by simp [beganAt]) hB hf0 (by rw [← h.told]; rfl) hl0
    refine (task_tells time F first p S _ (fun W b' u hq hb' i => k.put _ _ _ _ hq) hcf h.st hov h.ph hr).mono ?_
    rw [h.told, b1]
    rintro e w' ⟨rfl, T', tv', mv', hS⟩
    have e1 : wone some p X = ⟨X.told ++ (wturn p X.told X.m).new, (wturn p X.told X.m).over, (wturn p X.told X.m).m, evsW X.x (wturn p X.told X.m).evs, (wturn p X.told X.m).a⟩ := by
      unfold wone
      rw [ho]
      simp only [Bool.false_eq_true, if_false]
      cases (wturn p X.told X.m).a with
      | none => rw [hv0]
      | some r => rfl
    rw [e1] at hidle ⊢
    have hM : ∀ k, k < w.heap.size → WAll b g tb ab ag tv' mv' k → WAll b g tb ab ag tv mv k := fun k hk ha => by
      rcases ha with (h1 | h1 | h1 | h1 | h1) | h1
      · exact .inl (.inl h1)
      · exact .inl (.inr (.inl h1))
      · exact .inl (.inr (.inr (.inl h1)))
      · rcases hS.t k h1 with h2 | h2
        · exact .inl (.inr (.inr (.inr (.inl h2))))
        · omega
      · rcases hS.m k h1 with h2 | h2
        · exact .inl (.inr (.inr (.inr (.inr h2))))
        · omega
      · exact .inr h1
    refine ⟨T', tv', mv', rfl, hS.st, ?_, hS.over, hS.ph, hS.q, hidle, fun k hk => Nat.lt_of_lt_of_le (h.lt k hk) hS.only.size, fun k hk ha => h.apart k hk (hM k (h.lt k hk) ha), ?_, fun k hk => ?_⟩
    · rw [hS.told, h.told]
    · refine ⟨hS.only.os.trans h.only.os, hS.only.tape.trans h.only.tape, hS.only.output.trans h.only.output, Nat.le_trans h.only.size hS.only.size, fun k hk hn => ?_⟩
      refine (hS.only.block k (Nat.lt_of_lt_of_le hk h.only.size) ?_).trans (h.only.block k hk hn)
      rintro ((hA | hA) | hA)
      · rcases h.new k hA with h2 | h2
        · exact hn (.inl h2)
        · omega
      · exact hn (.inr (.inl hA))
      · exact hn (.inr (.inr hA))
    · by_cases hlt : k < w.heap.size
      · rcases hM k hlt (.inl hk) with h2 | h2
        · exact h.new k h2
        · exact (hS.st.far h2 hk).elim
      · have := h.only.size; exact .inr (by omega)

/-- F does what p says, and lays its answer; in at most N reads. -/
def RunsS (N : Nat) (b g tb ab ag : Nat) (S : Nat → Prop) (lay : Option α → World → Prop) (F : FuncId) (first : Array Value) (p : Sk α) (x : Wi) : Prop :=
  ∀ (W : World) (tv mv : Value) (T : Tr) (m : Mm) (x' : Wi) (G : Int), Sat W b g tb ab ag tv mv T m x' G N → x'.fst = x.fst → x'.l = x.l → lay none W → (∀ k, S k → ¬ WAll b g tb ab ag tv mv k) → (∀ k, S k → k < W.heap.size) →
    Calls Try.prog F (first.push (.pointer (some ⟨tb, 0, none⟩))) W (WRan W b g tb ab ag tv mv S (fun W' => lay (wplay p.laid.toW T m).a W') (wplay p.laid.toW T m) x')
/-- A step, alone, behind n reads. -/
theorem alone_steps {N : Nat} {F : FuncId} {first : Array Value} {p : Sk α} {m : Mm} {x : Wi} {G : Int} (n : Nat) (k : Keeps tb lay) (hrun : RunsS N b g tb ab ag S lay F first p x)
    (hcf : ∀ w, (callFunc F (first.push (.pointer (some ⟨tb, 0, none⟩)))).run Try.prog w = .ok (.enter F (first.push (.pointer (some ⟨tb, 0, none⟩)))) w)
    (hn : n < (p.reads m).length) (hN : (p.reads m).length + N ≤ 60000) (hc : m.cnt + 60000 ≤ 4611686018427387904) (hx : WiOk x G) (hm : Fits m.cs)
    (h : SLay w0 b g tb ab ag S lay (p.after some m x none n) T tv mv w) :
    Calls Try.prog 32 #[.pointer (some ⟨tb, 0, none⟩), .int .i64 n, .func (.func F) first #[]] w fun e w' =>
      ∃ T' tv' mv', e = .returned (.bool (decide (n + 1 = (p.reads m).length))) ∧ SLay w0 b g tb ab ag S lay (p.after some m x none (n + 1)) T' tv' mv' w' := by
  have e1 : wone some p.laid.toW (p.after some m x none n) = p.after some m x none (n + 1) := by
    rw [← Sk.alone some p m x none (n + 1) (by omega) (by omega), ← Sk.alone some p m x none n (by omega) (by omega)]
    rfl
  have t1 := touches_same x ((p.reads m).take n)
  have hb := inbs_le m ((p.reads m).take n)
  have hlen : ((p.reads m).take n).length = n := by simp; omega
  have := SLay.step (F := F) (first := first) (p := p.laid.toW) (n : Int) k h hcf (by rw [e1]; simp only [Sk.after]; intro hd; rw [if_neg (by simpa using hd)]) (fun W T' hsz hs hf ht hl => by
    refine hrun W tv mv T' _ _ G ⟨hs, hf, ?_, ?_, ⟨?_, hx.lo, hx.hi⟩, ?_, hm⟩ t1.1 t1.2.1 hl h.apart (by rw [← hsz]; exact h.lt)
    · rw [ht]; simp only [Sk.after]; rw [List.length_map, hlen]; omega
    · simp only [Sk.after]; rw [hlen] at hb; omega
    · show Gens (evsW x _).l G
      rw [t1.2.1]; exact hx.gens
    · rw [ht]; exact fits_map _ _ (fun q => rdv_fits hm q.1))
  rw [e1] at this
  exact this

/-- A new trail and a variable that holds none. -/
theorem SLay.fresh {w1 : World} {m : Mm} {x : Wi} (p : Sk α) (hN : 0 < (p.reads m).length) (hs : WSt w1 b g tb ab ag (.slice none 0 0) (.slice none 0 0) newTr m x) (ho : Only (fun k => CTwo b g k ∨ ArTwo ab ag k ∨ S k) w0 w1) (htb : w0.heap.size ≤ tb) (hlt : ∀ k, S k → k < w1.heap.size) (hl : lay none w1)
    (hap : ∀ k, S k → ¬ WAll b g tb ab ag (.slice none 0 0) (.slice none 0 0) k) :
    SLay w0 b g tb ab ag S lay (p.after some m x none 0) newTr (.slice none 0 0) (.slice none 0 0) w1 := by
  have e0 : p.after some m x none 0 = ⟨[], false, m, x, none⟩ := by
    unfold Sk.after
    have h1 : ¬ 0 = (p.reads m).length := by omega
    simp [inbs, evsW, h1]
  rw [e0]
  refine ⟨hs, rfl, rfl, rfl, hl, fun _ => rfl, hlt, hap, ho, ?_⟩
  rintro k (hk | hk | hk | hk | hk)
  · exact .inl (.inl hk)
  · exact .inl (.inr hk)
  · exact .inr (by omega)
  · simp [Value.ownBlock] at hk
  · simp [Value.ownBlock] at hk
end
end Go.Proofs.Ytejkhnphplpkeaa
