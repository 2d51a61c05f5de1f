/-
  Texts of our own, one behind the other (SeekLone, SeekRes, SeekRun): what the laws' proofs rest on; each says at its head what it holds. No conditions.
-/
import Derived.Test.YtejkhnphplpkeaaPkYa
/-
  Layer 16: one trail alone, whose task reads, and lays what it answers into a variable: for whatever such task and variable.
-/
namespace Go.Proofs.Ytejkhnphplpkeaa
open Go.ChangeShapes Go.WideShapes Go.ChangeAt Go.RowKit
set_option linter.unusedVariables false
variable {α β : Type}

section
variable {w0 w w' : World} {b g tb ab ag rb : Nat} {lay : Option α → World → Prop} {X : Wone (Option α)} {T : Tr} {tv mv : Value}
/-- One trail of its own, over a memory and an arena, with a variable that its task lays. -/
structure WLay (w0 : World) (b g tb ab ag rb : Nat) (lay : Option α → World → Prop) (X : Wone (Option α)) (T : Tr) (tv mv : Value) (w : World) : Prop where
  st : WSt w b g tb ab ag tv mv T X.m X.x
  told : T.told = X.told
  over : T.over = X.over
  ph : T.ph = 0
  cell : lay X.v w
  idle : X.over = false → X.v = none
  lt : rb < w.heap.size
  apart : ¬ WAll b g tb ab ag tv mv rb
  only : Only (fun k => CTwo b g k ∨ ArTwo ab ag k ∨ k = rb) w0 w
  new : ∀ k, All b g tb tv mv k → CTwo b g k ∨ w0.heap.size ≤ k
/-- What the variable holds stays. -/
structure Keeps (tb : Nat) (lay : Option α → World → Prop) : Prop where
  still : ∀ r W W', lay r W → Below W.heap.size W W' → lay r W'
  put : ∀ r W i u, lay r W → lay r (W.setCell ⟨tb, i, none⟩ u)
theorem Keeps.began (k : Keeps tb lay) {r : Option α} (h : lay r w) (time : Int) : lay r (beganAt w tb time) := k.put _ _ _ _ (k.put _ _ _ _ (k.put _ _ _ _ h))
theorem WLay.still (k : Keeps tb lay) (h : WLay w0 b g tb ab ag rb lay X T tv mv w) (hb : Below w.heap.size w w') : WLay w0 b g tb ab ag rb lay X T tv mv w' :=
  ⟨h.st.still hb, h.told, h.over, h.ph, k.still _ _ _ h.cell hb, h.idle, Nat.lt_of_lt_of_le h.lt hb.size, h.apart, h.only.trans (Only.of_below hb _), h.new⟩
/-- A step of it. -/
theorem WLay.step {F : FuncId} {first : Array Value} {p : WTask (Option α)} (time : Int) (k : Keeps tb lay) (h : WLay w0 b g tb ab ag rb lay X T tv mv w)
    (hcf : ∀ w, (callFunc F (first.push (.pointer (some ⟨tb, 0, none⟩)))).run Try.prog w = .ok (.enter F (first.push (.pointer (some ⟨tb, 0, none⟩)))) w)
    (hidle : (wone some p X).over = false → (wone some p X).v = none)
    (hF : ∀ W T, w.heap.size = W.heap.size → WSt W b g tb ab ag tv mv T X.m X.x → Fine T → T.told = X.told → lay none W → Calls Try.prog F (first.push (.pointer (some ⟨tb, 0, none⟩))) W
      (WRan W b g tb ab ag tv mv (fun k => k = rb) (fun W' => lay (wplay p T X.m).a W') (wplay p T X.m) X.x)) :
    Calls Try.prog 32 #[.pointer (some ⟨tb, 0, none⟩), .int .i64 time, .func (.func F) first #[]] w fun e w' =>
      ∃ T' tv' mv', e = .returned (.bool (wone some p X).over) ∧ WLay w0 b g tb ab ag rb lay (wone some p X) T' tv' mv' w' := by
  cases ho : X.over with
  | true =>
    refine (step_over time _ h.st.st (h.over.trans ho)).mono ?_
    rintro e w' ⟨rfl, rfl⟩
    rw [wone_over some p X ho]
    exact ⟨T, tv, mv, by rw [ho], h⟩
  | false =>
    have hv0 : X.v = none := h.idle ho
    have hov : T.over = false := h.over.trans ho
    have oB : Only (fun k => k = tb) w (beganAt w tb time) := (((Only.refl (fun k => k = tb) w).setCell (p := ⟨tb, 4, none⟩) (.inl rfl) _).setCell (p := ⟨tb, 5, none⟩) (.inl rfl) _).setCell (p := ⟨tb, 6, none⟩) (.inl rfl) _
    have hB : WSt (beganAt w tb time) b g tb ab ag tv mv (began time T) X.m X.x := ⟨h.st.st.began time, h.st.ar.only oB (fun e => h.st.far (.inl rfl) (.inr (.inr (.inl e)))) (fun e => h.st.far (.inr rfl) (.inr (.inr (.inl e))))⟩
    have hf0 : Fine (began time T) := ⟨.inr (.inl rfl), fun _ => Nat.zero_le _, fun _ => hov⟩
    have b1 := (began_wturn p time T X.m).1
    rw [h.told] at b1
    have hl0 : lay none (beganAt w tb time) := k.began (by rw [← hv0]; exact h.cell) time
    have hr := hF (beganAt w tb time) (began time T) (by simp [beganAt]) hB hf0 (by rw [← h.told]; rfl) hl0
    refine (task_tells time F first p (fun k => k = rb) _ (fun W b' u hq hb' i => k.put _ _ _ _ hq) hcf h.st hov h.ph hr).mono ?_
    rw [h.told, b1]
    rintro e w' ⟨rfl, T', tv', mv', hS⟩
    have e1 : wone some p X = ⟨X.told ++ (wturn p X.told X.m).new, (wturn p X.told X.m).over, (wturn p X.told X.m).m, evsW X.x (wturn p X.told X.m).evs, (wturn p X.told X.m).a⟩ := by
      unfold wone
      rw [ho]
      simp only [Bool.false_eq_true, if_false]
      cases (wturn p X.told X.m).a with
      | none => rw [hv0]
      | some r => rfl
    rw [e1] at hidle ⊢
    have hrlt := h.lt
    have hM : ∀ k, k < w.heap.size → WAll b g tb ab ag tv' mv' k → WAll b g tb ab ag tv mv k := fun k hk ha => by
      rcases ha with (h1 | h1 | h1 | h1 | h1) | h1
      · exact .inl (.inl h1)
      · exact .inl (.inr (.inl h1))
      · exact .inl (.inr (.inr (.inl h1)))
      · rcases hS.t k h1 with h2 | h2
        · exact .inl (.inr (.inr (.inr (.inl h2))))
        · omega
      · rcases hS.m k h1 with h2 | h2
        · exact .inl (.inr (.inr (.inr (.inr h2))))
        · omega
      · exact .inr h1
    refine ⟨T', tv', mv', rfl, hS.st, ?_, hS.over, hS.ph, hS.q, hidle, Nat.lt_of_lt_of_le hrlt hS.only.size, fun ha => h.apart (hM rb hrlt ha), ?_, fun k hk => ?_⟩
    · rw [hS.told, h.told]
    · refine ⟨hS.only.os.trans h.only.os, hS.only.tape.trans h.only.tape, hS.only.output.trans h.only.output, Nat.le_trans h.only.size hS.only.size, fun k hk hn => ?_⟩
      refine (hS.only.block k (Nat.lt_of_lt_of_le hk h.only.size) ?_).trans (h.only.block k hk hn)
      rintro ((hA | hA) | hA)
      · rcases h.new k hA with h2 | h2
        · exact hn (.inl h2)
        · omega
      · exact hn (.inr (.inl hA))
      · exact hn (.inr (.inr hA))
    · by_cases hlt : k < w.heap.size
      · rcases hM k hlt (.inl hk) with h2 | h2
        · exact h.new k h2
        · exact (hS.st.far h2 hk).elim
      · have := h.only.size; exact .inr (by omega)

/-- The reads touch slots, and nothing else is told. -/
theorem touches_same (x : Wi) (l : List (Int × Int)) : (evsW x (l.map fun q => .touch q.2)).fst = x.fst ∧ (evsW x (l.map fun q => .touch q.2)).l = x.l ∧ (evsW x (l.map fun q => .touch q.2)).db = x.db := by
  induction l generalizing x with
  | nil => exact ⟨rfl, rfl, rfl⟩
  | cons q l ih =>
    simp only [List.map_cons]
    rw [evsW_cons]
    exact ih (evW x (.touch q.2))
theorem inbs_le (m : Mm) (l : List (Int × Int)) : inbs m l ≤ (l.length : Int) := by
  unfold inbs
  have := List.length_filter_le (fun q : Int × Int => inb q.1 m) l
  omega
theorem fits_map {γ : Type} (f : γ → Int) (l : List γ) (h : ∀ q, -9223372036854775808 ≤ f q ∧ f q ≤ 9223372036854775807) : Fits (l.map f) := by
  intro i hi
  rw [List.length_map] at hi
  have : nth (l.map f) i = f l[i] := by
    unfold nth
    rw [List.getD_eq_getElem?_getD, List.getElem?_map, List.getElem?_eq_getElem hi]
    rfl
  rw [this]
  exact h _

/-- F does what p says, and lays its answer; in at most N reads. -/
def RunsBy (N : Nat) (b g tb ab ag rb : Nat) (lay : Option α → World → Prop) (F : FuncId) (first : Array Value) (p : Sk α) (x : Wi) : Prop :=
  ∀ (W : World) (tv mv : Value) (T : Tr) (m : Mm) (x' : Wi) (G : Int), Sat W b g tb ab ag tv mv T m x' G N → x'.fst = x.fst → x'.l = x.l → lay none W → ¬ WAll b g tb ab ag tv mv rb → rb < W.heap.size →
    Calls Try.prog F (first.push (.pointer (some ⟨tb, 0, none⟩))) W (WRan W b g tb ab ag tv mv (fun k => k = rb) (fun W' => lay (wplay p.laid.toW T m).a W') (wplay p.laid.toW T m) x')
/-- A step, alone, behind n reads. -/
theorem alone_step {N : Nat} {F : FuncId} {first : Array Value} {p : Sk α} {m : Mm} {x : Wi} {G : Int} (n : Nat) (k : Keeps tb lay) (hrun : RunsBy N b g tb ab ag rb lay F first p x)
    (hcf : ∀ w, (callFunc F (first.push (.pointer (some ⟨tb, 0, none⟩)))).run Try.prog w = .ok (.enter F (first.push (.pointer (some ⟨tb, 0, none⟩)))) w)
    (hn : n < (p.reads m).length) (hN : (p.reads m).length + N ≤ 60000) (hc : m.cnt + 60000 ≤ 4611686018427387904) (hx : WiOk x G) (hm : Fits m.cs)
    (h : WLay w0 b g tb ab ag rb lay (p.after some m x none n) T tv mv w) :
    Calls Try.prog 32 #[.pointer (some ⟨tb, 0, none⟩), .int .i64 n, .func (.func F) first #[]] w fun e w' =>
      ∃ T' tv' mv', e = .returned (.bool (decide (n + 1 = (p.reads m).length))) ∧ WLay w0 b g tb ab ag rb lay (p.after some m x none (n + 1)) T' tv' mv' w' := by
  have e1 : wone some p.laid.toW (p.after some m x none n) = p.after some m x none (n + 1) := by
    rw [← Sk.alone some p m x none (n + 1) (by omega) (by omega), ← Sk.alone some p m x none n (by omega) (by omega)]
    rfl
  have t1 := touches_same x ((p.reads m).take n)
  have hb := inbs_le m ((p.reads m).take n)
  have hlen : ((p.reads m).take n).length = n := by simp; omega
  have := WLay.step (F := F) (first := first) (p := p.laid.toW) (n : Int) k h hcf (by rw [e1]; simp only [Sk.after]; intro hd; rw [if_neg (by simpa using hd)]) (fun W T' hsz hs hf ht hl => by
    refine hrun W tv mv T' _ _ G ⟨hs, hf, ?_, ?_, ⟨?_, hx.lo, hx.hi⟩, ?_, hm⟩ t1.1 t1.2.1 hl h.apart (by rw [← hsz]; exact h.lt)
    · rw [ht]; simp only [Sk.after]; rw [List.length_map, hlen]; omega
    · simp only [Sk.after]; rw [hlen] at hb; omega
    · show Gens (evsW x _).l G
      rw [t1.2.1]; exact hx.gens
    · rw [ht]; exact fits_map _ _ (fun q => rdv_fits hm q.1))
  rw [e1] at this
  exact this

/-- A new trail and a variable that holds none. -/
theorem WLay.fresh {w1 : World} {m : Mm} {x : Wi} (p : Sk α) (hN : 0 < (p.reads m).length) (hs : WSt w1 b g tb ab ag (.slice none 0 0) (.slice none 0 0) newTr m x) (ho : Only (fun k => CTwo b g k ∨ ArTwo ab ag k ∨ k = rb) w0 w1) (htb : w0.heap.size ≤ tb) (hlt : rb < w1.heap.size) (hl : lay none w1)
    (hap : ¬ WAll b g tb ab ag (.slice none 0 0) (.slice none 0 0) rb) :
    WLay w0 b g tb ab ag rb lay (p.after some m x none 0) newTr (.slice none 0 0) (.slice none 0 0) w1 := by
  have e0 : p.after some m x none 0 = ⟨[], false, m, x, none⟩ := by
    unfold Sk.after
    have h1 : ¬ 0 = (p.reads m).length := by omega
    simp [inbs, evsW, h1]
  rw [e0]
  refine ⟨hs, rfl, rfl, rfl, hl, fun _ => rfl, hlt, hap, ho, ?_⟩
  rintro k (hk | hk | hk | hk | hk)
  · exact .inl (.inl hk)
  · exact .inl (.inr hk)
  · exact .inr (by omega)
  · simp [Value.ownBlock] at hk
  · simp [Value.ownBlock] at hk
end
end Go.Proofs.Ytejkhnphplpkeaa

/-
  Layer 16: what comes of a task, in a variable: its fourteen cells.
-/
namespace Go.Proofs.Ytejkhnphplpkeaa
open Go.ChangeShapes Go.WideShapes Go.ChangeAt Go.RowKit
set_option linter.unusedVariables false

/-- What came of it. -/
structure Rs where
  V : Int
  I : Bool
  O : Bool
  A : Ar
  N : Nd
def Rs.nil : Rs := ⟨0, false, false, Ar.nil, Nd.nil⟩
def Rs.cells (r : Rs) (e s g : Value) : Array Value := #[.int .i64 r.V, .bool r.I, .bool r.O, .int .i64 r.A.s, .int .i64 r.A.e, .int .i64 r.A.p, .bool r.A.sh, .int .i64 r.A.bk, .int .i64 r.A.off, .bool r.N.inner, .int .i64 r.N.lo, e, s, g]
def nilR : Array Value := #[.int .i64 0, .bool false, .bool false, .int .i64 0, .int .i64 0, .int .i64 0, .bool false, .int .i64 0, .int .i64 0, .bool false, .int .i64 0, .slice none 0 0, .slice none 0 0, .slice none 0 0]
def set14 (w : World) (q : Nat) (x0 x1 x2 x3 x4 x5 x6 x7 x8 x9 x10 x11 x12 x13 : Value) : World := (((((((((((((w.setCell ⟨q, 0, none⟩ x0).setCell ⟨q, 1, none⟩ x1).setCell ⟨q, 2, none⟩ x2).setCell ⟨q, 3, none⟩ x3).setCell ⟨q, 4, none⟩ x4).setCell ⟨q, 5, none⟩ x5).setCell ⟨q, 6, none⟩ x6).setCell ⟨q, 7, none⟩ x7).setCell ⟨q, 8, none⟩ x8).setCell ⟨q, 9, none⟩ x9).setCell ⟨q, 10, none⟩ x10).setCell ⟨q, 11, none⟩ x11).setCell ⟨q, 12, none⟩ x12).setCell ⟨q, 13, none⟩ x13
theorem put14 {w : World} {q : Nat} {t : TypeId} {y0 y1 y2 y3 y4 y5 y6 y7 y8 y9 y10 y11 y12 y13 : Value} (h : Whole w q t #[y0, y1, y2, y3, y4, y5, y6, y7, y8, y9, y10, y11, y12, y13]) (x0 x1 x2 x3 x4 x5 x6 x7 x8 x9 x10 x11 x12 x13 : Value) : Whole (set14 w q x0 x1 x2 x3 x4 x5 x6 x7 x8 x9 x10 x11 x12 x13) q t #[x0, x1, x2, x3, x4, x5, x6, x7, x8, x9, x10, x11, x12, x13] := by
  have h0 : Whole _ q t #[x0, y1, y2, y3, y4, y5, y6, y7, y8, y9, y10, y11, y12, y13] := Whole.put h 0 x0
  have h1 : Whole _ q t #[x0, x1, y2, y3, y4, y5, y6, y7, y8, y9, y10, y11, y12, y13] := Whole.put h0 1 x1
  have h2 : Whole _ q t #[x0, x1, x2, y3, y4, y5, y6, y7, y8, y9, y10, y11, y12, y13] := Whole.put h1 2 x2
  have h3 : Whole _ q t #[x0, x1, x2, x3, y4, y5, y6, y7, y8, y9, y10, y11, y12, y13] := Whole.put h2 3 x3
  have h4 : Whole _ q t #[x0, x1, x2, x3, x4, y5, y6, y7, y8, y9, y10, y11, y12, y13] := Whole.put h3 4 x4
  have h5 : Whole _ q t #[x0, x1, x2, x3, x4, x5, y6, y7, y8, y9, y10, y11, y12, y13] := Whole.put h4 5 x5
  have h6 : Whole _ q t #[x0, x1, x2, x3, x4, x5, x6, y7, y8, y9, y10, y11, y12, y13] := Whole.put h5 6 x6
  have h7 : Whole _ q t #[x0, x1, x2, x3, x4, x5, x6, x7, y8, y9, y10, y11, y12, y13] := Whole.put h6 7 x7
  have h8 : Whole _ q t #[x0, x1, x2, x3, x4, x5, x6, x7, x8, y9, y10, y11, y12, y13] := Whole.put h7 8 x8
  have h9 : Whole _ q t #[x0, x1, x2, x3, x4, x5, x6, x7, x8, x9, y10, y11, y12, y13] := Whole.put h8 9 x9
  have h10 : Whole _ q t #[x0, x1, x2, x3, x4, x5, x6, x7, x8, x9, x10, y11, y12, y13] := Whole.put h9 10 x10
  have h11 : Whole _ q t #[x0, x1, x2, x3, x4, x5, x6, x7, x8, x9, x10, x11, y12, y13] := Whole.put h10 11 x11
  have h12 : Whole _ q t #[x0, x1, x2, x3, x4, x5, x6, x7, x8, x9, x10, x11, x12, y13] := Whole.put h11 12 x12
  have h13 : Whole _ q t #[x0, x1, x2, x3, x4, x5, x6, x7, x8, x9, x10, x11, x12, x13] := Whole.put h12 13 x13
  exact h13
theorem only14 (w : World) (q : Nat) (x0 x1 x2 x3 x4 x5 x6 x7 x8 x9 x10 x11 x12 x13 : Value) : Only (fun k => k = q) w (set14 w q x0 x1 x2 x3 x4 x5 x6 x7 x8 x9 x10 x11 x12 x13) := by
  have h := Only.refl (fun k => k = q) w
  have h := h.setCell (p := ⟨q, 0, none⟩) (.inl rfl) x0
  have h := h.setCell (p := ⟨q, 1, none⟩) (.inl rfl) x1
  have h := h.setCell (p := ⟨q, 2, none⟩) (.inl rfl) x2
  have h := h.setCell (p := ⟨q, 3, none⟩) (.inl rfl) x3
  have h := h.setCell (p := ⟨q, 4, none⟩) (.inl rfl) x4
  have h := h.setCell (p := ⟨q, 5, none⟩) (.inl rfl) x5
  have h := h.setCell (p := ⟨q, 6, none⟩) (.inl rfl) x6
  have h := h.setCell (p := ⟨q, 7, none⟩) (.inl rfl) x7
  have h := h.setCell (p := ⟨q, 8, none⟩) (.inl rfl) x8
  have h := h.setCell (p := ⟨q, 9, none⟩) (.inl rfl) x9
  have h := h.setCell (p := ⟨q, 10, none⟩) (.inl rfl) x10
  have h := h.setCell (p := ⟨q, 11, none⟩) (.inl rfl) x11
  have h := h.setCell (p := ⟨q, 12, none⟩) (.inl rfl) x12
  have h := h.setCell (p := ⟨q, 13, none⟩) (.inl rfl) x13
  exact h
theorem row14 {w : World} {q : Nat} {t : TypeId} {y0 y1 y2 y3 y4 y5 y6 y7 y8 y9 y10 y11 y12 y13 : Value} (h : Whole w q t #[y0, y1, y2, y3, y4, y5, y6, y7, y8, y9, y10, y11, y12, y13]) : w.cell? ⟨q, 0, none⟩ = some y0 ∧ w.cell? ⟨q, 1, none⟩ = some y1 ∧ w.cell? ⟨q, 2, none⟩ = some y2 ∧ w.cell? ⟨q, 3, none⟩ = some y3 ∧ w.cell? ⟨q, 4, none⟩ = some y4 ∧ w.cell? ⟨q, 5, none⟩ = some y5 ∧ w.cell? ⟨q, 6, none⟩ = some y6 ∧ w.cell? ⟨q, 7, none⟩ = some y7 ∧ w.cell? ⟨q, 8, none⟩ = some y8 ∧ w.cell? ⟨q, 9, none⟩ = some y9 ∧ w.cell? ⟨q, 10, none⟩ = some y10 ∧ w.cell? ⟨q, 11, none⟩ = some y11 ∧ w.cell? ⟨q, 12, none⟩ = some y12 ∧ w.cell? ⟨q, 13, none⟩ = some y13 :=
  ⟨h.cell 0, h.cell 1, h.cell 2, h.cell 3, h.cell 4, h.cell 5, h.cell 6, h.cell 7, h.cell 8, h.cell 9, h.cell 10, h.cell 11, h.cell 12, h.cell 13⟩
theorem row14f {w : World} {q : Nat} {t : TypeId} {y0 y1 y2 y3 y4 y5 y6 y7 y8 y9 y10 y11 y12 y13 : Value} (h : Whole w q t #[y0, y1, y2, y3, y4, y5, y6, y7, y8, y9, y10, y11, y12, y13]) : w.frozen? ⟨q, 0, none⟩ = false ∧ w.frozen? ⟨q, 1, none⟩ = false ∧ w.frozen? ⟨q, 2, none⟩ = false ∧ w.frozen? ⟨q, 3, none⟩ = false ∧ w.frozen? ⟨q, 4, none⟩ = false ∧ w.frozen? ⟨q, 5, none⟩ = false ∧ w.frozen? ⟨q, 6, none⟩ = false ∧ w.frozen? ⟨q, 7, none⟩ = false ∧ w.frozen? ⟨q, 8, none⟩ = false ∧ w.frozen? ⟨q, 9, none⟩ = false ∧ w.frozen? ⟨q, 10, none⟩ = false ∧ w.frozen? ⟨q, 11, none⟩ = false ∧ w.frozen? ⟨q, 12, none⟩ = false ∧ w.frozen? ⟨q, 13, none⟩ = false :=
  ⟨h.frozen 0, h.frozen 1, h.frozen 2, h.frozen 3, h.frozen 4, h.frozen 5, h.frozen 6, h.frozen 7, h.frozen 8, h.frozen 9, h.frozen 10, h.frozen 11, h.frozen 12, h.frozen 13⟩

/-- What the tasks are, with all that comes of them. -/
def lookRs (c : Int → Int) (h addr : Int) : Sk Rs := (lookP c h addr).bind fun r => .ret ⟨r.1, r.2.1, r.2.2, Ar.nil, Nd.nil⟩
def areaR : Option (Ar × Bool) → Rs
  | none => Rs.nil
  | some (a, d) => ⟨0, d, true, a, Nd.nil⟩
noncomputable def areaRs (c : Int → Int) (h : Int) : Sk Rs := (areaP c h).bind fun r => .ret (areaR r)
def nodeR : Option Nd → Rs
  | none => Rs.nil
  | some n => ⟨0, false, true, Ar.nil, n⟩
noncomputable def nodeRs (c : Int → Int) (h : Int) : Sk Rs := (nodeP c h).bind fun r => .ret (nodeR r)
def wordRs (c : Int → Int) (h word : Int) : Sk Rs := (wordP c h word).bind fun v => .ret ⟨v, false, false, Ar.nil, Nd.nil⟩
variable {α β : Type}
/-- Laid, where the trail isn't dry. -/
theorem wend_laid (q : Sk α) (f : α → β) (T : Tr) (m : Mm) (x : Wi) : wend (Sk.laid (q.bind fun r => .ret (f r))) T m x = ⟨if dry (wend q T m x).T then none else some (f (wend q T m x).a), (wend q T m x).T, (wend q T m x).m, (wend q T m x).x⟩ := by
  unfold Sk.laid
  rw [wend_bind, wend_bind]
  rfl
/-- The laws' looker. -/
def looker (ab : Nat) (h addr kind : Int) (rb : Nat) : Value := .agg #[.pointer (some ⟨ab, 0, none⟩), .int .i64 h, .int .i64 addr, .int .i64 kind, .pointer (some ⟨rb, 0, none⟩)]
end Go.Proofs.Ytejkhnphplpkeaa

/-
  Layer 16: the laws' looker: its run, for each of its kinds.
-/
namespace Go.Proofs.Ytejkhnphplpkeaa
open Go.ChangeShapes Go.WideShapes Go.ChangeAt Go.RowKit
set_option linter.unusedVariables false
variable {α : Type}

section
variable {w w2 : World} {b g tb ab ag rb base : Nat} {tv mv tv' mv' : Value} {T T' : Tr} {m m' : Mm} {x x' : Wi} {G : Int} {n : Nat} {q : Sk α} {f : α → Rs} {a : α}
theorem moved_only {k : Nat} {w3 : World} (mo : WMoved w b g tb ab ag tv mv w2 tv' mv') (ho : Only (fun i => i = k) w2 w3) : Only (fun i => WAll b g tb ab ag tv mv i ∨ i = k) w w3 :=
  ⟨ho.os.trans mo.only.os, ho.tape.trans mo.only.tape, ho.output.trans mo.only.output, Nat.le_trans mo.only.size ho.size, fun i hi hn => (ho.block i (Nat.lt_of_lt_of_le hi mo.only.size) (fun e => hn (.inr e))).trans (mo.only.block i hi (fun e => hn (.inl e)))⟩
theorem mine_nil (w : World) : NdMine base w Nd.nil (.slice none 0 0) (.slice none 0 0) (.slice none 0 0) := ⟨Mw.nil _ _, Mw.nil _ _, Mw.nil _ _, fun k h => by simp [Value.ownBlock] at h, fun k h => by simp [Value.ownBlock] at h, fun k h => by simp [Value.ownBlock] at h⟩
theorem lk5 {q : Nat} {t : TypeId} {a b c d e : Value} (h : Whole w q t #[a, b, c, d, e]) : w.cell? ⟨q, 0, none⟩ = some a ∧ w.cell? ⟨q, 1, none⟩ = some b ∧ w.cell? ⟨q, 2, none⟩ = some c ∧ w.cell? ⟨q, 3, none⟩ = some d ∧ w.cell? ⟨q, 4, none⟩ = some e := ⟨h.cell 0, h.cell 1, h.cell 2, h.cell 3, h.cell 4⟩
end

section
variable {b g tb ab ag rb base : Nat} {x : Wi} {N : Nat}

end
end Go.Proofs.Ytejkhnphplpkeaa
