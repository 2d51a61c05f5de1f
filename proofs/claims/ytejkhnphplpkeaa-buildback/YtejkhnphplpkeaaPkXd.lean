/-
  Texts of our own, one behind the other (SkPure, SkAlone): what the laws' proofs rest on; each says at its head what it holds. No conditions.
-/
import Derived.Test.YtejkhnphplpkeaaPkXc
/-
  Tasks that only read (layers 16, 17), pure: what they come to alone, an access a step.
-/
namespace Go.Proofs.Ytejkhnphplpkeaa
open Go.RowKit
set_option linter.unusedVariables false

/-- A task that reads words of handles (the cell, the handle), and asks whether the trail is dry. -/
inductive Sk (α : Type) where
  | ret (a : α)
  | read (c h : Int) (next : Int → Sk α)
  | ask (next : Bool → Sk α)
variable {α β : Type}
def Sk.bind : Sk α → (α → Sk β) → Sk β
  | .ret a, f => f a
  | .read c h g, f => .read c h fun x => (g x).bind f
  | .ask g, f => .ask fun d => (g d).bind f
/-- As a task. -/
def Sk.toW : Sk α → WTask α
  | .ret a => .ret a
  | .read c h f => .acc 0 c 0 0 fun v => .fsh fun b => if b then .tell (.touch h) (f v).toW else (f v).toW
  | .ask f => .ask fun d => (f d).toW
theorem Sk.toW_read (c h : Int) (f : Int → Sk α) : (Sk.read c h f).toW = .acc 0 c 0 0 fun v => .fsh fun b => if b then .tell (.touch h) (f v).toW else (f v).toW := rfl
/-- What a read is told. -/
def rdv (m : Mm) (c : Int) : Int := if inb c m then nth m.cs c.toNat else 0
theorem rdv_told (m : Mm) (c : Int) : toldOf 0 c 0 m = rdv m c := by simp [toldOf, rdv]
/-- All that it reads, alone: the cells, the handles. -/
def Sk.reads : Sk α → Mm → List (Int × Int)
  | .ret _, _ => []
  | .read c h f, m => (c, h) :: (f (rdv m c)).reads m
  | .ask f, m => (f false).reads m
/-- What it answers, alone. -/
def Sk.ans : Sk α → Mm → α
  | .ret a, _ => a
  | .read c _ f, m => (f (rdv m c)).ans m
  | .ask f, m => (f false).ans m
theorem Sk.ans_bind (p : Sk α) (f : α → Sk β) (m : Mm) : (p.bind f).ans m = (f (p.ans m)).ans m := by
  induction p with
  | ret a => rfl
  | read c h g ih => exact ih _
  | ask g ih => exact ih _
theorem Sk.reads_bind (p : Sk α) (f : α → Sk β) (m : Mm) : (p.bind f).reads m = p.reads m ++ (f (p.ans m)).reads m := by
  induction p with
  | ret a => rfl
  | read c h g ih => simp only [Sk.bind, Sk.reads, Sk.ans, List.cons_append]; rw [ih]
  | ask g ih => exact ih _
/-- A load changes no cell. -/
theorem memOf_load (c : Int) (m : Mm) : (memOf 0 c 0 0 m).cs = m.cs ∧ (memOf 0 c 0 0 m).cnt = m.cnt + (if inb c m then 1 else 0) := by
  unfold memOf
  cases inb c m <;> simp
theorem rdv_same {m m' : Mm} (h : m'.cs = m.cs) (c : Int) : rdv m' c = rdv m c := by
  unfold rdv inb
  rw [h]
theorem Sk.same {m m' : Mm} (h : m'.cs = m.cs) (p : Sk α) : p.reads m' = p.reads m ∧ p.ans m' = p.ans m := by
  induction p with
  | ret a => exact ⟨rfl, rfl⟩
  | read c x f ih =>
    simp only [Sk.reads, Sk.ans, rdv_same h]
    obtain ⟨h1, h2⟩ := ih (rdv m c)
    exact ⟨by rw [h1], h2⟩
  | ask f ih => exact ih false

/-- Behind an access nothing more is read in that step. -/
theorem Sk.behind (p : Sk α) (m : Mm) : (wbehind false p.toW).ends = (p.reads m).isEmpty ∧ (wbehind false p.toW).mks = [] ∧ ((p.reads m).isEmpty = true → (wbehind false p.toW).a = p.ans m ∧ (wbehind false p.toW).evs = []) ∧ ∀ e ∈ (wbehind false p.toW).evs, False := by
  induction p with
  | ret a => exact ⟨rfl, rfl, fun _ => ⟨rfl, rfl⟩, by simp [Sk.toW, wbehind]⟩
  | ask f ih => exact ih false
  | read c h f ih =>
    refine ⟨rfl, rfl, fun h => by simp [Sk.reads] at h, ?_⟩
    have : ∀ q : Sk α, (wdead q.toW).2 = [] := by
      intro q
      induction q with
      | ret a => rfl
      | ask f ih => exact ih true
      | read c h f ih => exact ih 0
    intro e he
    have h2 : (wbehind false (Sk.read c h f).toW).evs = (wdead (f 0).toW).2 := rfl
    rw [h2, this] at he
    cases he

/-- A step, alone, behind k accesses: the next access is done; it is over with the last one. -/
theorem Sk.turn (p : Sk α) (m m' : Mm) (hm : m'.cs = m.cs) (k : Nat) (hk : k < (p.reads m).length) :
    (wturn p.toW (((p.reads m).take k).map fun q => rdv m q.1) m').new = [rdv m ((p.reads m).getD k (0, 0)).1] ∧
    (wturn p.toW (((p.reads m).take k).map fun q => rdv m q.1) m').m = memOf 0 ((p.reads m).getD k (0, 0)).1 0 0 m' ∧
    (wturn p.toW (((p.reads m).take k).map fun q => rdv m q.1) m').over = decide (k + 1 = (p.reads m).length) ∧
    (wturn p.toW (((p.reads m).take k).map fun q => rdv m q.1) m').evs = [.touch ((p.reads m).getD k (0, 0)).2] ∧
    (wturn p.toW (((p.reads m).take k).map fun q => rdv m q.1) m').mks = [] ∧
    (k + 1 = (p.reads m).length → (wturn p.toW (((p.reads m).take k).map fun q => rdv m q.1) m').a = p.ans m) := by
  induction p generalizing k with
  | ret a => simp [Sk.reads] at hk
  | ask f ih => exact ih false k hk
  | read c h f ih =>
    match k with
    | 0 =>
      have e1 : toldOf 0 c 0 m' = rdv m c := by rw [rdv_told, rdv_same hm]
      have e2 : okOf 0 c 0 m' = true := rfl
      obtain ⟨b1, b2, b3, b4⟩ := Sk.behind (f (rdv m c)) m
      simp only [Sk.reads, List.take_zero, List.map_nil, Sk.toW, wturn, e2, if_true, e1, List.getD_cons_zero, List.length_cons, wbehind]
      refine ⟨trivial, trivial, ?_, ?_, b2, fun hl => ?_⟩
      · rw [b1]
        have hL : ∀ L : List (Int × Int), L.isEmpty = decide (0 + 1 = L.length + 1) := fun L => by cases L <;> simp
        exact hL _
      · have : (wbehind false (f (rdv m c)).toW).evs = [] := by
          cases he : (wbehind false (f (rdv m c)).toW).evs with
          | nil => rfl
          | cons a l => exact (b4 a (by rw [he]; simp)).elim
        rw [this]
      · have hr : ((f (rdv m c)).reads m).isEmpty = true := by
          cases hr : (f (rdv m c)).reads m with
          | nil => rfl
          | cons a l => rw [hr] at hl; simp at hl
        exact (b3 hr).1
    | k + 1 =>
      have hk' : k < ((f (rdv m c)).reads m).length := by simp [Sk.reads] at hk; omega
      obtain ⟨i1, i2, i3, i4, i5, i6⟩ := ih (rdv m c) k hk'
      simp only [Sk.reads, List.take_succ_cons, List.map_cons, Sk.toW, wturn, List.getD_cons_succ, List.length_cons, Bool.false_eq_true, if_false]
      refine ⟨i1, i2, ?_, i4, i5, fun hl => ?_⟩
      · rw [i3]; simp
      · exact i6 (by omega)
end Go.Proofs.Ytejkhnphplpkeaa

/-
  Tasks that only read, alone, step by step; and one trail alone, whose task tells a witness, and lays its answer into a variable.
-/
namespace Go.Proofs.Ytejkhnphplpkeaa
open Go.ChangeShapes Go.WideShapes Go.ChangeAt Go.RowKit
set_option linter.unusedVariables false
variable {α β : Type}

/-- What it answers is laid, where the trail isn't dry. -/
def Sk.laid (p : Sk α) : Sk (Option α) := p.bind fun r => .ask fun d => .ret (if d then none else some r)
theorem Sk.laid_reads (p : Sk α) (m : Mm) : p.laid.reads m = p.reads m := by
  unfold Sk.laid
  rw [Sk.reads_bind]
  simp [Sk.reads]
theorem Sk.laid_ans (p : Sk α) (m : Mm) : p.laid.ans m = some (p.ans m) := by
  unfold Sk.laid
  rw [Sk.ans_bind]
  simp [Sk.ans]
theorem Sk.laid_dead (p : Sk α) : (wdead p.laid.toW).1 = none := by
  induction p with
  | ret a => rfl
  | ask f ih => exact ih true
  | read c h f ih => exact ih 0
theorem Sk.laid_behind (p : Sk α) (m : Mm) (h : p.reads m ≠ []) : (wbehind false p.laid.toW).a = none := by
  induction p with
  | ret a => exact absurd rfl h
  | ask f ih => exact ih false h
  | read c x f ih => exact Sk.laid_dead (f 0)
theorem Sk.laid_turn (p : Sk α) (m m' : Mm) (hm : m'.cs = m.cs) (k : Nat) (hk : k + 1 < (p.reads m).length) : (wturn p.laid.toW (((p.reads m).take k).map fun q => rdv m q.1) m').a = none := by
  induction p generalizing k with
  | ret a => simp [Sk.reads] at hk
  | ask f ih => exact ih false k hk
  | read c h f ih =>
    match k with
    | 0 =>
      have e1 : toldOf 0 c 0 m' = rdv m c := by rw [rdv_told, rdv_same hm]
      have e2 : okOf 0 c 0 m' = true := rfl
      have hr : (f (rdv m c)).reads m ≠ [] := fun e => by simp [Sk.reads, e] at hk
      have := Sk.laid_behind (f (rdv m c)) m hr
      show (wturn (Sk.read c h fun x => (f x).laid).toW _ m').a = none
      simp only [Sk.reads, List.take_zero, List.map_nil, Sk.toW, wturn, e2, if_true, e1, wbehind]
      exact this
    | k + 1 =>
      have hk' : k + 1 < ((f (rdv m c)).reads m).length := by simp [Sk.reads] at hk; omega
      have := ih (rdv m c) k hk'
      show (wturn (Sk.read c h fun x => (f x).laid).toW _ m').a = none
      simp only [Sk.reads, List.take_succ_cons, List.map_cons, Sk.toW, wturn, Bool.false_eq_true, if_false]
      exact this

/-- Where a task is: what it was told, whether it is over, the memory, the witness, what lies in its variable. -/
structure Wone (β : Type) where
  told : List Int
  over : Bool
  m : Mm
  x : Wi
  v : β
/-- A step of it. -/
def wone (enc : α → β) (p : WTask (Option α)) (X : Wone β) : Wone β :=
  if X.over then X else ⟨X.told ++ (wturn p X.told X.m).new, (wturn p X.told X.m).over, (wturn p X.told X.m).m, evsW X.x (wturn p X.told X.m).evs, match (wturn p X.told X.m).a with | none => X.v | some r => enc r⟩
def wones (enc : α → β) (p : WTask (Option α)) : Nat → Wone β → Wone β
  | 0, X => X
  | n + 1, X => wone enc p (wones enc p n X)
/-- How many of these cells there are. -/
def inbs (m : Mm) (l : List (Int × Int)) : Int := ((l.filter fun q => inb q.1 m).length : Int)
theorem inbs_app (m : Mm) (l : List (Int × Int)) (q : Int × Int) : inbs m (l ++ [q]) = inbs m l + (if inb q.1 m then 1 else 0) := by
  unfold inbs
  rw [List.filter_append]
  cases h : inb q.1 m <;> simp [h]
theorem inb_same {m m' : Mm} (h : m'.cs = m.cs) (c : Int) : inb c m' = inb c m := by unfold inb; rw [h]
/-- Where it is behind n steps. -/
def Sk.after (enc : α → β) (p : Sk α) (m : Mm) (x : Wi) (v0 : β) (n : Nat) : Wone β :=
  ⟨((p.reads m).take n).map (fun q => rdv m q.1), decide (n = (p.reads m).length), ⟨m.cs, m.cnt + inbs m ((p.reads m).take n)⟩, evsW x (((p.reads m).take n).map fun q => .touch q.2), if n = (p.reads m).length then enc (p.ans m) else v0⟩
theorem skTake_more {γ : Type} (l : List γ) (d : γ) {n : Nat} (h : n < l.length) : l.take (n + 1) = l.take n ++ [l.getD n d] := by
  rw [List.take_add_one, List.getElem?_eq_getElem h, List.getD_eq_getElem?_getD, List.getElem?_eq_getElem h]
  rfl
theorem Sk.alone (enc : α → β) (p : Sk α) (m : Mm) (x : Wi) (v0 : β) (n : Nat) (hn : n ≤ (p.reads m).length) (hN : 0 < (p.reads m).length) : wones enc p.laid.toW n ⟨[], false, m, x, v0⟩ = p.after enc m x v0 n := by
  induction n with
  | zero =>
    unfold Sk.after
    have h1 : ¬ 0 = (p.reads m).length := by omega
    simp [wones, inbs, evsW, h1]
  | succ n ih =>
    have hlt : n < (p.reads m).length := by omega
    rw [wones, ih (by omega)]
    have hov : (p.after enc m x v0 n).over = false := by simp [Sk.after]; omega
    unfold wone
    rw [hov]
    have hr := p.laid_reads m
    obtain ⟨t1, t2, t3, t4, t5, t6⟩ := Sk.turn p.laid m ⟨m.cs, m.cnt + inbs m ((p.reads m).take n)⟩ rfl n (by rw [hr]; exact hlt)
    rw [hr] at t1 t2 t3 t4 t5 t6
    obtain ⟨l1, l2⟩ := memOf_load ((p.reads m).getD n (0, 0)).1 ⟨m.cs, m.cnt + inbs m ((p.reads m).take n)⟩
    have ei : inb ((p.reads m).getD n (0, 0)).1 ⟨m.cs, m.cnt + inbs m ((p.reads m).take n)⟩ = inb ((p.reads m).getD n (0, 0)).1 m := inb_same rfl _
    rw [ei] at l2
    have em : memOf 0 ((p.reads m).getD n (0, 0)).1 0 0 ⟨m.cs, m.cnt + inbs m ((p.reads m).take n)⟩ = ⟨m.cs, m.cnt + inbs m ((p.reads m).take (n + 1))⟩ := by
      rw [skTake_more _ (0, 0) hlt, inbs_app]
      generalize memOf 0 ((p.reads m).getD n (0, 0)).1 0 0 ⟨m.cs, m.cnt + inbs m ((p.reads m).take n)⟩ = M at *
      obtain ⟨c1, c2⟩ := M
      simp only at l1 l2
      rw [l1, l2]
      congr 1
      omega
    simp only [Bool.false_eq_true, if_false, Sk.after]
    rw [t1, t2, t3, t4, em]
    have ea : (match (wturn p.laid.toW (((p.reads m).take n).map fun q => rdv m q.1) ⟨m.cs, m.cnt + inbs m ((p.reads m).take n)⟩).a with | none => (if n = (p.reads m).length then enc (p.ans m) else v0) | some r => enc r) = if n + 1 = (p.reads m).length then enc (p.ans m) else v0 := by
      by_cases he : n + 1 = (p.reads m).length
      · have hA := t6 he
        rw [p.laid_ans] at hA
        rw [hA, if_pos he]
      · have hA := Sk.laid_turn p m ⟨m.cs, m.cnt + inbs m ((p.reads m).take n)⟩ rfl n (by omega)
        rw [hA, if_neg he]
        show (if n = (p.reads m).length then enc (p.ans m) else v0) = v0
        rw [if_neg (by omega)]
    rw [ea, skTake_more _ (0, 0) hlt, List.map_append, List.map_append]
    rw [evsW_app]
    rfl
theorem wone_over (enc : α → β) (p : WTask (Option α)) (X : Wone β) (h : X.over = true) : wone enc p X = X := by simp [wone, h]
/-- Behind its last access nothing turns any more. -/
theorem Sk.alone_end (enc : α → β) (p : Sk α) (m : Mm) (x : Wi) (v0 : β) (n : Nat) (hn : (p.reads m).length ≤ n) (hN : 0 < (p.reads m).length) : wones enc p.laid.toW n ⟨[], false, m, x, v0⟩ = p.after enc m x v0 (p.reads m).length := by
  induction n with
  | zero => omega
  | succ n ih =>
    by_cases he : n + 1 = (p.reads m).length
    · rw [he]; exact p.alone enc m x v0 _ (Nat.le_refl _) hN
    · rw [wones, ih (by omega)]
      exact wone_over _ _ _ (by simp [Sk.after])
/-- Touches of handles that are right tell nothing. -/
theorem evsW_right {x : Wi} (l : List (Int × Int)) (h : ∀ q ∈ l, rightB x.l q.2 = true) : evsW x (l.map fun q => .touch q.2) = x := by
  induction l with
  | nil => rfl
  | cons q l ih =>
    simp only [List.map_cons]
    rw [evsW_cons]
    have e : evW x (.touch q.2) = x := by simp [evW, h q (by simp)]
    rw [e]
    exact ih (fun r hr => h r (by simp [hr]))

section
variable {w0 w w' : World} {b g tb ab ag rb : Nat} {ty : TypeId} {X : Wone (Array Value)} {T : Tr} {tv mv : Value}
/-- One trail of its own, over a memory and an arena, with a variable that its task lays. -/
structure WLone (w0 : World) (b g tb ab ag rb : Nat) (ty : TypeId) (X : Wone (Array Value)) (T : Tr) (tv mv : Value) (w : World) : Prop where
  st : WSt w b g tb ab ag tv mv T X.m X.x
  told : T.told = X.told
  over : T.over = X.over
  ph : T.ph = 0
  cell : Whole w rb ty X.v
  apart : ¬ WAll b g tb ab ag tv mv rb
  only : Only (fun k => CTwo b g k ∨ ArTwo ab ag k) w0 w
  new : ∀ k, All b g tb tv mv k → CTwo b g k ∨ w0.heap.size ≤ k
  rnew : w0.heap.size ≤ rb
theorem WLone.still (h : WLone w0 b g tb ab ag rb ty X T tv mv w) (hb : Below w.heap.size w w') : WLone w0 b g tb ab ag rb ty X T tv mv w' :=
  ⟨h.st.still hb, h.told, h.over, h.ph, h.cell.below hb h.cell.lt, h.apart, h.only.trans (Only.of_below hb _), h.new, h.rnew⟩
/-- A step of it. -/
theorem WLone.step {enc : α → Array Value} {F : FuncId} {first : Array Value} {p : WTask (Option α)} (time : Int) (h : WLone w0 b g tb ab ag rb ty X T tv mv w)
    (hcf : ∀ w, (callFunc F (first.push (.pointer (some ⟨tb, 0, none⟩)))).run Try.prog w = .ok (.enter F (first.push (.pointer (some ⟨tb, 0, none⟩)))) w)
    (hF : ∀ W T, WSt W b g tb ab ag tv mv T X.m X.x → Fine T → T.told = X.told → Whole W rb ty X.v → Calls Try.prog F (first.push (.pointer (some ⟨tb, 0, none⟩))) W
      (WRan W b g tb ab ag tv mv (fun k => k = rb) (fun W' => Whole W' rb ty (match (wplay p T X.m).a with | none => X.v | some r => enc r)) (wplay p T X.m) X.x)) :
    Calls Try.prog 32 #[.pointer (some ⟨tb, 0, none⟩), .int .i64 time, .func (.func F) first #[]] w fun e w' =>
      ∃ T' tv' mv', e = .returned (.bool (wone enc p X).over) ∧ WLone w0 b g tb ab ag rb ty (wone enc p X) T' tv' mv' w' := by
  cases ho : X.over with
  | true =>
    refine (step_over time _ h.st.st (h.over.trans ho)).mono ?_
    rintro e w' ⟨rfl, rfl⟩
    rw [wone_over enc p X ho]
    exact ⟨T, tv, mv, by rw [ho], h⟩
  | false =>
    have hne : rb ≠ tb := fun e => h.apart (.inl (.inr (.inr (.inl e))))
    have hov : T.over = false := h.over.trans ho
    have oB : Only (fun k => k = tb) w (beganAt w tb time) := (((Only.refl (fun k => k = tb) w).setCell (p := ⟨tb, 4, none⟩) (.inl rfl) _).setCell (p := ⟨tb, 5, none⟩) (.inl rfl) _).setCell (p := ⟨tb, 6, none⟩) (.inl rfl) _
    have hB : WSt (beganAt w tb time) b g tb ab ag tv mv (began time T) X.m X.x := ⟨h.st.st.began time, h.st.ar.only oB (fun e => h.st.far (.inl rfl) (.inr (.inr (.inl e)))) (fun e => h.st.far (.inr rfl) (.inr (.inr (.inl e))))⟩
    have hf0 : Fine (began time T) := ⟨.inr (.inl rfl), fun _ => Nat.zero_le _, fun _ => hov⟩
    have b1 := (began_wturn p time T X.m).1
    rw [h.told] at b1
    have hr := hF (beganAt w tb time) (began time T) hB hf0 (by rw [← h.told]; rfl) (h.cell.only oB hne)
    refine (task_tells time F first p (fun k => k = rb) _ (fun W b' u hq _ i => hq.far (p := ⟨tb, i, none⟩) hne u) hcf h.st hov h.ph hr).mono ?_
    rw [h.told, b1]
    rintro e w' ⟨rfl, T', tv', mv', hS⟩
    have e1 : wone enc p X = ⟨X.told ++ (wturn p X.told X.m).new, (wturn p X.told X.m).over, (wturn p X.told X.m).m, evsW X.x (wturn p X.told X.m).evs, match (wturn p X.told X.m).a with | none => X.v | some r => enc r⟩ := by unfold wone; rw [ho]; rfl
    rw [e1]
    have hrlt := h.cell.lt
    have hM : ∀ k, k < w.heap.size → WAll b g tb ab ag tv' mv' k → WAll b g tb ab ag tv mv k := fun k hk ha => by
      rcases ha with (h1 | h1 | h1 | h1 | h1) | h1
      · exact .inl (.inl h1)
      · exact .inl (.inr (.inl h1))
      · exact .inl (.inr (.inr (.inl h1)))
      · rcases hS.t k h1 with h2 | h2
        · exact .inl (.inr (.inr (.inr (.inl h2))))
        · omega
      · rcases hS.m k h1 with h2 | h2
        · exact .inl (.inr (.inr (.inr (.inr h2))))
        · omega
      · exact .inr h1
    refine ⟨T', tv', mv', rfl, hS.st, ?_, hS.over, hS.ph, hS.q, fun ha => h.apart (hM rb hrlt ha), ?_, fun k hk => ?_, h.rnew⟩
    · rw [hS.told, h.told]
    · refine ⟨hS.only.os.trans h.only.os, hS.only.tape.trans h.only.tape, hS.only.output.trans h.only.output, Nat.le_trans h.only.size hS.only.size, fun k hk hn => ?_⟩
      refine (hS.only.block k (Nat.lt_of_lt_of_le hk h.only.size) ?_).trans (h.only.block k hk hn)
      rintro ((hA | hA) | hA)
      · rcases h.new k hA with h2 | h2
        · exact hn (.inl h2)
        · omega
      · exact hn (.inr hA)
      · have := h.rnew; omega
    · by_cases hlt : k < w.heap.size
      · rcases hM k hlt (.inl hk) with h2 | h2
        · exact h.new k h2
        · exact (hS.st.far h2 hk).elim
      · have := h.only.size; exact .inr (by omega)
end
end Go.Proofs.Ytejkhnphplpkeaa
