/-
  Texts of our own, one behind the other (SeekLone, SeekRes, SeekRun): what the laws' proofs rest on; each says at its head what it holds. No conditions.
-/
import Derived.Test.YtiiclmaphiajmaaPkYa
/-
  Layer 16: one trail alone, whose task reads, and lays what it answers into a variable: for whatever such task and variable.
-/
namespace Go.Proofs.Ytiiclmaphiajmaa
open Go.ChangeShapes Go.WideShapes Go.ChangeAt Go.RowKit
set_option linter.unusedVariables false
variable {α β : Type}

section
variable {w0 w w' : World} {b g tb ab ag rb : Nat} {lay : Option α → World → Prop} {X : Wone (Option α)} {T : Tr} {tv mv : Value}
/-- One trail of its own, over a memory and an arena, with a variable that its task lays. -/
structure WLay (w0 : World) (b g tb ab ag rb : Nat) (lay : Option α → World → Prop) (X : Wone (Option α)) (T : Tr) (tv mv : Value) (w : World) : Prop where
  st : WSt w b g tb ab ag tv mv T X.m X.x
  told : T.told = X.told
  over : T.over = X.over
  ph : T.ph = 0
  cell : lay X.v w
  idle : X.over = false → X.v = none
  lt : rb < w.heap.size
  apart : ¬ WAll b g tb ab ag tv mv rb
  only : Only (fun k => CTwo b g k ∨ ArTwo ab ag k ∨ k = rb) w0 w
  new : ∀ k, All b g tb tv mv k → CTwo b g k ∨ w0.heap.size ≤ k
/-- What the variable holds stays. -/
structure Keeps (tb : Nat) (lay : Option α → World → Prop) : Prop where
  still : ∀ r W W', lay r W → Below W.heap.size W W' → lay r W'
  put : ∀ r W i u, lay r W → lay r (W.setCell ⟨tb, i, none⟩ u)
theorem Keeps.began (k : Keeps tb lay) {r : Option α} (h : lay r w) (time : Int) : lay r (beganAt w tb time) := k.put _ _ _ _ (k.put _ _ _ _ (k.put _ _ _ _ h))
theorem WLay.still (k : Keeps tb lay) (h : WLay w0 b g tb ab ag rb lay X T tv mv w) (hb : Below w.heap.size w w') : WLay w0 b g tb ab ag rb lay X T tv mv w' :=
  ⟨h.st.still hb, h.told, h.over, h.ph, k.still _ _ _ h.cell hb, h.idle, Nat.lt_of_lt_of_le h.lt hb.size, h.apart, h.only.trans (Only.of_below hb _), h.new⟩
/-- A step of it. -/
theorem WLay.step {F : FuncId} {first : Array Value} {p : WTask (Option α)} (time : Int) (k : Keeps tb lay) (h : WLay w0 b g tb ab ag rb lay X T tv mv w)
    (hcf : ∀ w, (callFunc F (first.push (.pointer (some ⟨tb, 0, none⟩)))).run Try.prog w = .ok (.enter F (first.push (.pointer (some ⟨tb, 0, none⟩)))) w)
    (hidle : (wone some p X).over = false → (wone some p X).v = none)
    (hF : ∀ W T, w.heap.size = W.heap.size → WSt W b g tb ab ag tv mv T X.m X.x → Fine T → T.told = X.told → lay none W → Calls Try.prog F (first.push (.pointer (some ⟨tb, 0, none⟩))) W
      (WRan W b g tb ab ag tv mv (fun k => k = rb) (fun W' => lay (wplay p T X.m).a W') (wplay p T X.m) X.x)) :
    Calls Try.prog 28 #[.pointer (some ⟨tb, 0, none⟩), .int .i64 time, .func (.func F) first #[]] w fun e w' =>
      ∃ T' tv' mv', e = .returned (.bool (wone some p X).over) ∧ WLay w0 b g tb ab ag rb lay (wone some p X) T' tv' mv' w' := by
  cases ho : X.over with
  | true =>
    refine (step_over time _ h.st.st (h.over.trans ho)).mono ?_
    rintro e w' ⟨rfl, rfl⟩
    rw [wone_over some p X ho]
    exact ⟨T, tv, mv, by rw [ho], h⟩
  | false =>
    have hv0 : X.v = none := h.idle ho
    have hov : T.over = false := h.over.trans ho
    have oB : Only (fun k => k = tb) w (beganAt w tb time) := (((Only.refl (fun k => k = tb) w).setCell (p := ⟨tb, 4, none⟩) (.inl rfl) _).setCell (p := ⟨tb, 5, none⟩) (.inl rfl) _).setCell (p := ⟨tb, 6, none⟩) (.inl rfl) _
    have hB : WSt (beganAt w tb time) b g tb ab ag tv mv (began time T) X.m X.x := ⟨h.st.st.began time, h.st.ar.only oB (fun e => h.st.far (.inl rfl) (.inr (.inr (.inl e)))) (fun e => h.st.far (.inr rfl) (.inr (.inr (.inl e))))⟩
    have hf0 : Fine (began time T) := ⟨.inr (.inl rfl), fun _ => Nat.zero_le _, fun _ => hov⟩
    have b1 := (began_wturn p time T X.m).1
    rw [h.told] at b1
    have hl0 : lay none (beganAt w tb time) := k.began (by rw [← hv0]; exact h.cell) time
    have hr := hF (beganAt w tb time) (began time T) (by simp [beganAt]) hB hf0 (by rw [← h.told]; rfl) hl0
    refine (task_tells time F first p (fun k => k = rb) _ (fun W b' u hq hb' i => k.put _ _ _ _ hq) hcf h.st hov h.ph hr).mono ?_
    rw [h.told, b1]
    rintro e w' ⟨rfl, T', tv', mv', hS⟩
    have e1 : wone some p X = ⟨X.told ++ (wturn p X.told X.m).new, (wturn p X.told X.m).over, (wturn p X.told X.m).m, evsW X.x (wturn p X.told X.m).evs, (wturn p X.told X.m).a⟩ := by
      unfold wone
      rw [ho]
      simp only [Bool.false_eq_true, if_false]
      cases (wturn p X.told X.m).a with
      | none => rw [hv0]
      | some r => rfl
    rw [e1] at hidle ⊢
    have hrlt := h.lt
    have hM : ∀ k, k < w.heap.size → WAll b g tb ab ag tv' mv' k → WAll b g tb ab ag tv mv k := fun k hk ha => by
      rcases ha with (h1 | h1 | h1 | h1 | h1) | h1
      · exact .inl (.inl h1)
      · exact .inl (.inr (.inl h1))
      · exact .inl (.inr (.inr (.inl h1)))
      · rcases hS.t k h1 with h2 | h2
        · exact .inl (.inr (.inr (.inr (.inl h2))))
        · omega
      · rcases hS.m k h1 with h2 | h2
        · exact .inl (.inr (.inr (.inr (.inr h2))))
        · omega
      · exact .inr h1
    refine ⟨T', tv', mv', rfl, hS.st, ?_, hS.over, hS.ph, hS.q, hidle, Nat.lt_of_lt_of_le hrlt hS.only.size, fun ha => h.apart (hM rb hrlt ha), ?_, fun k hk => ?_⟩
    · rw [hS.told, h.told]
    · refine ⟨hS.only.os.trans h.only.os, hS.only.tape.trans h.only.tape, hS.only.output.trans h.only.output, Nat.le_trans h.only.size hS.only.size, fun k hk hn => ?_⟩
      refine (hS.only.block k (Nat.lt_of_lt_of_le hk h.only.size) ?_).trans (h.only.block k hk hn)
      rintro ((hA | hA) | hA)
      · rcases h.new k hA with h2 | h2
        · exact hn (.inl h2)
        · omega
      · exact hn (.inr (.inl hA))
      · exact hn (.inr (.inr hA))
    · by_cases hlt : k < w.heap.size
      · rcases hM k hlt (.inl hk) with h2 | h2
        · exact h.new k h2
        · exact (hS.st.far h2 hk).elim
      · have := h.only.size; exact .inr (by omega)

/-- The reads touch slots, and nothing else is told. -/
theorem touches_same (x : Wi) (l : List (Int × Int)) : (evsW x (l.map fun q => .touch q.2)).fst = x.fst ∧ (evsW x (l.map fun q => .touch q.2)).l = x.l ∧ (evsW x (l.map fun q => .touch q.2)).db = x.db := by
  induction l generalizing x with
  | nil => exact ⟨rfl, rfl, rfl⟩
  | cons q l ih =>
    simp only [List.map_cons]
    rw [evsW_cons]
    exact ih (evW x (.touch q.2))
theorem inbs_le (m : Mm) (l : List (Int × Int)) : inbs m l ≤ (l.length : Int) := by
  unfold inbs
  have := List.length_filter_le (fun q : Int × Int => inb q.1 m) l
  omega
theorem fits_map {γ : Type} (f : γ → Int) (l : List γ) (h : ∀ q, -9223372036854775808 ≤ f q ∧ f q ≤ 9223372036854775807) : Fits (l.map f) := by
  intro i hi
  rw [List.length_map] at hi
  have : nth (l.map f) i = f l[i] := by
    unfold nth
    rw [List.getD_eq_getElem?_getD, List.getElem?_map, List.getElem?_eq_getElem hi]
    rfl
  rw [this]
  exact h _

/-- F does what p says, and lays its answer; in at most N reads. -/
def RunsBy (N : Nat) (b g tb ab ag rb : Nat) (lay : Option α → World → Prop) (F : FuncId) (first : Array Value) (p : Sk α) (x : Wi) : Prop :=
  ∀ (W : World) (tv mv : Value) (T : Tr) (m : Mm) (x' : Wi) (G : Int), Sat W b g tb ab ag tv mv T m x' G N → x'.fst = x.fst → x'.l = x.l → lay none W → ¬ WAll b g tb ab ag tv mv rb → rb < W.heap.size →
    Calls Try.prog F (first.push (.pointer (some ⟨tb, 0, none⟩))) W (WRan W b g tb ab ag tv mv (fun k => k = rb) (fun W' => lay (wplay p.laid.toW T m).a W') (wplay p.laid.toW T m) x')
/-- A step, alone, behind n reads. -/
theorem alone_step {N : Nat} {F : FuncId} {first : Array Value} {p : Sk α} {m : Mm} {x : Wi} {G : Int} (n : Nat) (k : Keeps tb lay) (hrun : RunsBy N b g tb ab ag rb lay F first p x)
    (hcf : ∀ w, (callFunc F (first.push (.pointer (some ⟨tb, 0, none⟩)))).run Try.prog w = .ok (.enter F (first.push (.pointer (some ⟨tb, 0, none⟩)))) w)
    (hn : n < (p.reads m).length) (hN : (p.reads m).length + N ≤ 1000) (hc : m.cnt + 2000 ≤ 4611686018427387904) (hx : WiOk x G) (hm : Fits m.cs)
    (h : WLay w0 b g tb ab ag rb lay (p.after some m x none n) T tv mv w) :
    Calls Try.prog 28 #[.pointer (some ⟨tb, 0, none⟩), .int .i64 n, .func (.func F) first #[]] w fun e w' =>
      ∃ T' tv' mv', e = .returned (.bool (decide (n + 1 = (p.reads m).length))) ∧ WLay w0 b g tb ab ag rb lay (p.after some m x none (n + 1)) T' tv' mv' w' := by
  have e1 : wone some p.laid.toW (p.after some m x none n) = p.after some m x none (n + 1) := by
    rw [← Sk.alone some p m x none (n + 1) (by omega) (by omega), ← Sk.alone some p m x none n (by omega) (by omega)]
    rfl
  have t1 := touches_same x ((p.reads m).take n)
  have hb := inbs_le m ((p.reads m).take n)
  have hlen : ((p.reads m).take n).length = n := by simp; omega
  have := WLay.step (F := F) (first := first) (p := p.laid.toW) (n : Int) k h hcf (by rw [e1]; simp only [Sk.after]; intro hd; rw [if_neg (by simpa using hd)]) (fun W T' hsz hs hf ht hl => by
    refine hrun W tv mv T' _ _ G ⟨hs, hf, ?_, ?_, ⟨?_, hx.lo, hx.hi⟩, ?_, hm⟩ t1.1 t1.2.1 hl h.apart (by rw [← hsz]; exact h.lt)
    · rw [ht]; simp only [Sk.after]; rw [List.length_map, hlen]; omega
    · simp only [Sk.after]; rw [hlen] at hb; omega
    · show Gens (evsW x _).l G
      rw [t1.2.1]; exact hx.gens
    · rw [ht]; exact fits_map _ _ (fun q => rdv_fits hm q.1))
  rw [e1] at this
  exact this

/-- A new trail and a variable that holds none. -/
theorem WLay.fresh {w1 : World} {m : Mm} {x : Wi} (p : Sk α) (hN : 0 < (p.reads m).length) (hs : WSt w1 b g tb ab ag (.slice none 0 0) (.slice none 0 0) newTr m x) (ho : Only (fun k => CTwo b g k ∨ ArTwo ab ag k ∨ k = rb) w0 w1) (htb : w0.heap.size ≤ tb) (hlt : rb < w1.heap.size) (hl : lay none w1)
    (hap : ¬ WAll b g tb ab ag (.slice none 0 0) (.slice none 0 0) rb) :
    WLay w0 b g tb ab ag rb lay (p.after some m x none 0) newTr (.slice none 0 0) (.slice none 0 0) w1 := by
  have e0 : p.after some m x none 0 = ⟨[], false, m, x, none⟩ := by
    unfold Sk.after
    have h1 : ¬ 0 = (p.reads m).length := by omega
    simp [inbs, evsW, h1]
  rw [e0]
  refine ⟨hs, rfl, rfl, rfl, hl, fun _ => rfl, hlt, hap, ho, ?_⟩
  rintro k (hk | hk | hk | hk | hk)
  · exact .inl (.inl hk)
  · exact .inl (.inr hk)
  · exact .inr (by omega)
  · simp [Value.ownBlock] at hk
  · simp [Value.ownBlock] at hk
end
end Go.Proofs.Ytiiclmaphiajmaa

/-
  Layer 16: what comes of a task, in a variable: its fourteen cells.
-/
namespace Go.Proofs.Ytiiclmaphiajmaa
open Go.ChangeShapes Go.WideShapes Go.ChangeAt Go.RowKit
set_option linter.unusedVariables false

/-- What came of it. -/
structure Rs where
  V : Int
  I : Bool
  O : Bool
  A : Ar
  N : Nd
def Rs.nil : Rs := ⟨0, false, false, Ar.nil, Nd.nil⟩
def Rs.cells (r : Rs) (e s g : Value) : Array Value := #[.int .i64 r.V, .bool r.I, .bool r.O, .int .i64 r.A.s, .int .i64 r.A.e, .int .i64 r.A.p, .bool r.A.sh, .int .i64 r.A.bk, .int .i64 r.A.off, .bool r.N.inner, .int .i64 r.N.lo, e, s, g]
def nilR : Array Value := #[.int .i64 0, .bool false, .bool false, .int .i64 0, .int .i64 0, .int .i64 0, .bool false, .int .i64 0, .int .i64 0, .bool false, .int .i64 0, .slice none 0 0, .slice none 0 0, .slice none 0 0]
/-- It lies in block rb. -/
def Lay (base rb : Nat) (r : Option Rs) (w : World) : Prop :=
  match r with
  | none => Whole w rb 35 nilR
  | some r => ∃ e s g, Whole w rb 35 (r.cells e s g) ∧ NdMine base w r.N e s g
theorem lay_keeps {base rb tb : Nat} (h1 : rb ≠ tb) (h2 : tb < base) : Keeps tb (Lay base rb) := by
  have hn : ∀ (w : World) (n : Nd) (e s g : Value), NdMine base w n e s g → ∀ i u, NdMine base (w.setCell ⟨tb, i, none⟩ u) n e s g := fun w n e s g m i u =>
    ⟨own_far (p := ⟨tb, i, none⟩) m.me (fun he => by have := (World.ownsRow.lt m.me tb he).1; omega) u, own_far (p := ⟨tb, i, none⟩) m.ms (fun he => by have := (World.ownsRow.lt m.ms tb he).1; omega) u, own_far (p := ⟨tb, i, none⟩) m.mg (fun he => by have := (World.ownsRow.lt m.mg tb he).1; omega) u, m.es, m.eg, m.sg⟩
  constructor
  · intro r W W' h hb
    cases r with
    | none => exact Whole.below h hb (Whole.lt h)
    | some r =>
      obtain ⟨e, s, g, hw, hm⟩ := h
      exact ⟨e, s, g, hw.below hb hw.lt, hm.still hb⟩
  · intro r W i u h
    cases r with
    | none => exact Whole.far (p := ⟨tb, i, none⟩) h h1 u
    | some r =>
      obtain ⟨e, s, g, hw, hm⟩ := h
      exact ⟨e, s, g, hw.far (p := ⟨tb, i, none⟩) h1 u, hn _ _ _ _ _ hm i u⟩

def set14 (w : World) (q : Nat) (x0 x1 x2 x3 x4 x5 x6 x7 x8 x9 x10 x11 x12 x13 : Value) : World := (((((((((((((w.setCell ⟨q, 0, none⟩ x0).setCell ⟨q, 1, none⟩ x1).setCell ⟨q, 2, none⟩ x2).setCell ⟨q, 3, none⟩ x3).setCell ⟨q, 4, none⟩ x4).setCell ⟨q, 5, none⟩ x5).setCell ⟨q, 6, none⟩ x6).setCell ⟨q, 7, none⟩ x7).setCell ⟨q, 8, none⟩ x8).setCell ⟨q, 9, none⟩ x9).setCell ⟨q, 10, none⟩ x10).setCell ⟨q, 11, none⟩ x11).setCell ⟨q, 12, none⟩ x12).setCell ⟨q, 13, none⟩ x13
theorem put14 {w : World} {q : Nat} {t : TypeId} {y0 y1 y2 y3 y4 y5 y6 y7 y8 y9 y10 y11 y12 y13 : Value} (h : Whole w q t #[y0, y1, y2, y3, y4, y5, y6, y7, y8, y9, y10, y11, y12, y13]) (x0 x1 x2 x3 x4 x5 x6 x7 x8 x9 x10 x11 x12 x13 : Value) : Whole (set14 w q x0 x1 x2 x3 x4 x5 x6 x7 x8 x9 x10 x11 x12 x13) q t #[x0, x1, x2, x3, x4, x5, x6, x7, x8, x9, x10, x11, x12, x13] := by
  have h0 : Whole _ q t #[x0, y1, y2, y3, y4, y5, y6, y7, y8, y9, y10, y11, y12, y13] := Whole.put h 0 x0
  have h1 : Whole _ q t #[x0, x1, y2, y3, y4, y5, y6, y7, y8, y9, y10, y11, y12, y13] := Whole.put h0 1 x1
  have h2 : Whole _ q t #[x0, x1, x2, y3, y4, y5, y6, y7, y8, y9, y10, y11, y12, y13] := Whole.put h1 2 x2
  have h3 : Whole _ q t #[x0, x1, x2, x3, y4, y5, y6, y7, y8, y9, y10, y11, y12, y13] := Whole.put h2 3 x3
  have h4 : Whole _ q t #[x0, x1, x2, x3, x4, y5, y6, y7, y8, y9, y10, y11, y12, y13] := Whole.put h3 4 x4
  have h5 : Whole _ q t #[x0, x1, x2, x3, x4, x5, y6, y7, y8, y9, y10, y11, y12, y13] := Whole.put h4 5 x5
  have h6 : Whole _ q t #[x0, x1, x2, x3, x4, x5, x6, y7, y8, y9, y10, y11, y12, y13] := Whole.put h5 6 x6
  have h7 : Whole _ q t #[x0, x1, x2, x3, x4, x5, x6, x7, y8, y9, y10, y11, y12, y13] := Whole.put h6 7 x7
  have h8 : Whole _ q t #[x0, x1, x2, x3, x4, x5, x6, x7, x8, y9, y10, y11, y12, y13] := Whole.put h7 8 x8
  have h9 : Whole _ q t #[x0, x1, x2, x3, x4, x5, x6, x7, x8, x9, y10, y11, y12, y13] := Whole.put h8 9 x9
  have h10 : Whole _ q t #[x0, x1, x2, x3, x4, x5, x6, x7, x8, x9, x10, y11, y12, y13] := Whole.put h9 10 x10
  have h11 : Whole _ q t #[x0, x1, x2, x3, x4, x5, x6, x7, x8, x9, x10, x11, y12, y13] := Whole.put h10 11 x11
  have h12 : Whole _ q t #[x0, x1, x2, x3, x4, x5, x6, x7, x8, x9, x10, x11, x12, y13] := Whole.put h11 12 x12
  have h13 : Whole _ q t #[x0, x1, x2, x3, x4, x5, x6, x7, x8, x9, x10, x11, x12, x13] := Whole.put h12 13 x13
  exact h13
theorem only14 (w : World) (q : Nat) (x0 x1 x2 x3 x4 x5 x6 x7 x8 x9 x10 x11 x12 x13 : Value) : Only (fun k => k = q) w (set14 w q x0 x1 x2 x3 x4 x5 x6 x7 x8 x9 x10 x11 x12 x13) := by
  have h := Only.refl (fun k => k = q) w
  have h := h.setCell (p := ⟨q, 0, none⟩) (.inl rfl) x0
  have h := h.setCell (p := ⟨q, 1, none⟩) (.inl rfl) x1
  have h := h.setCell (p := ⟨q, 2, none⟩) (.inl rfl) x2
  have h := h.setCell (p := ⟨q, 3, none⟩) (.inl rfl) x3
  have h := h.setCell (p := ⟨q, 4, none⟩) (.inl rfl) x4
  have h := h.setCell (p := ⟨q, 5, none⟩) (.inl rfl) x5
  have h := h.setCell (p := ⟨q, 6, none⟩) (.inl rfl) x6
  have h := h.setCell (p := ⟨q, 7, none⟩) (.inl rfl) x7
  have h := h.setCell (p := ⟨q, 8, none⟩) (.inl rfl) x8
  have h := h.setCell (p := ⟨q, 9, none⟩) (.inl rfl) x9
  have h := h.setCell (p := ⟨q, 10, none⟩) (.inl rfl) x10
  have h := h.setCell (p := ⟨q, 11, none⟩) (.inl rfl) x11
  have h := h.setCell (p := ⟨q, 12, none⟩) (.inl rfl) x12
  have h := h.setCell (p := ⟨q, 13, none⟩) (.inl rfl) x13
  exact h
theorem row14 {w : World} {q : Nat} {t : TypeId} {y0 y1 y2 y3 y4 y5 y6 y7 y8 y9 y10 y11 y12 y13 : Value} (h : Whole w q t #[y0, y1, y2, y3, y4, y5, y6, y7, y8, y9, y10, y11, y12, y13]) : w.cell? ⟨q, 0, none⟩ = some y0 ∧ w.cell? ⟨q, 1, none⟩ = some y1 ∧ w.cell? ⟨q, 2, none⟩ = some y2 ∧ w.cell? ⟨q, 3, none⟩ = some y3 ∧ w.cell? ⟨q, 4, none⟩ = some y4 ∧ w.cell? ⟨q, 5, none⟩ = some y5 ∧ w.cell? ⟨q, 6, none⟩ = some y6 ∧ w.cell? ⟨q, 7, none⟩ = some y7 ∧ w.cell? ⟨q, 8, none⟩ = some y8 ∧ w.cell? ⟨q, 9, none⟩ = some y9 ∧ w.cell? ⟨q, 10, none⟩ = some y10 ∧ w.cell? ⟨q, 11, none⟩ = some y11 ∧ w.cell? ⟨q, 12, none⟩ = some y12 ∧ w.cell? ⟨q, 13, none⟩ = some y13 :=
  ⟨h.cell 0, h.cell 1, h.cell 2, h.cell 3, h.cell 4, h.cell 5, h.cell 6, h.cell 7, h.cell 8, h.cell 9, h.cell 10, h.cell 11, h.cell 12, h.cell 13⟩
theorem row14f {w : World} {q : Nat} {t : TypeId} {y0 y1 y2 y3 y4 y5 y6 y7 y8 y9 y10 y11 y12 y13 : Value} (h : Whole w q t #[y0, y1, y2, y3, y4, y5, y6, y7, y8, y9, y10, y11, y12, y13]) : w.frozen? ⟨q, 0, none⟩ = false ∧ w.frozen? ⟨q, 1, none⟩ = false ∧ w.frozen? ⟨q, 2, none⟩ = false ∧ w.frozen? ⟨q, 3, none⟩ = false ∧ w.frozen? ⟨q, 4, none⟩ = false ∧ w.frozen? ⟨q, 5, none⟩ = false ∧ w.frozen? ⟨q, 6, none⟩ = false ∧ w.frozen? ⟨q, 7, none⟩ = false ∧ w.frozen? ⟨q, 8, none⟩ = false ∧ w.frozen? ⟨q, 9, none⟩ = false ∧ w.frozen? ⟨q, 10, none⟩ = false ∧ w.frozen? ⟨q, 11, none⟩ = false ∧ w.frozen? ⟨q, 12, none⟩ = false ∧ w.frozen? ⟨q, 13, none⟩ = false :=
  ⟨h.frozen 0, h.frozen 1, h.frozen 2, h.frozen 3, h.frozen 4, h.frozen 5, h.frozen 6, h.frozen 7, h.frozen 8, h.frozen 9, h.frozen 10, h.frozen 11, h.frozen 12, h.frozen 13⟩

/-- What the tasks are, with all that comes of them. -/
def lookRs (c : Int → Int) (h addr : Int) : Sk Rs := (lookP c h addr).bind fun r => .ret ⟨r.1, r.2.1, r.2.2, Ar.nil, Nd.nil⟩
def areaR : Option (Ar × Bool) → Rs
  | none => Rs.nil
  | some (a, d) => ⟨0, d, true, a, Nd.nil⟩
noncomputable def areaRs (c : Int → Int) (h : Int) : Sk Rs := (areaP c h).bind fun r => .ret (areaR r)
def nodeR : Option Nd → Rs
  | none => Rs.nil
  | some n => ⟨0, false, true, Ar.nil, n⟩
noncomputable def nodeRs (c : Int → Int) (h : Int) : Sk Rs := (nodeP c h).bind fun r => .ret (nodeR r)
def wordRs (c : Int → Int) (h word : Int) : Sk Rs := (wordP c h word).bind fun v => .ret ⟨v, false, false, Ar.nil, Nd.nil⟩
variable {α β : Type}
/-- Laid, where the trail isn't dry. -/
theorem wend_laid (q : Sk α) (f : α → β) (T : Tr) (m : Mm) (x : Wi) : wend (Sk.laid (q.bind fun r => .ret (f r))) T m x = ⟨if dry (wend q T m x).T then none else some (f (wend q T m x).a), (wend q T m x).T, (wend q T m x).m, (wend q T m x).x⟩ := by
  unfold Sk.laid
  rw [wend_bind, wend_bind]
  rfl
/-- The laws' looker. -/
def looker (ab : Nat) (h addr kind : Int) (rb : Nat) : Value := .agg #[.pointer (some ⟨ab, 0, none⟩), .int .i64 h, .int .i64 addr, .int .i64 kind, .pointer (some ⟨rb, 0, none⟩)]
/-- What its run leaves, of what a call has left. -/
theorem run_ends {w w' : World} {b g tb ab ag rb : Nat} {tv mv tv' mv' : Value} {T T' : Tr} {m m' : Mm} {x x' : Wi} {q : Sk α} {f : α → Rs} {base : Nat} {a : α} (hb : wend q T m x = ⟨a, T', m', x'⟩) (hs : WSt w' b g tb ab ag tv' mv' T' m' x')
    (ho : Only (fun k => WAll b g tb ab ag tv mv k ∨ k = rb) w w') (ht : ∀ k, tv'.ownBlock = some k → tv.ownBlock = some k ∨ w.heap.size ≤ k) (hm : ∀ k, mv'.ownBlock = some k → mv.ownBlock = some k ∨ w.heap.size ≤ k)
    (hl : Lay base rb (if dry T' then none else some (f a)) w') :
    WRan w b g tb ab ag tv mv (fun k => k = rb) (fun W' => Lay base rb (wplay (Sk.laid (q.bind fun r => .ret (f r))).toW T m).a W') (wplay (Sk.laid (q.bind fun r => .ret (f r))).toW T m) x (.returned (.tuple #[])) w' := by
  have e := wend_laid q f T m x
  rw [hb] at e
  have ea : (wplay (Sk.laid (q.bind fun r => .ret (f r))).toW T m).a = (if dry T' then none else some (f a)) := congrArg WEnd.a e
  have eT : (wplay (Sk.laid (q.bind fun r => .ret (f r))).toW T m).T = T' := congrArg WEnd.T e
  have em : (wplay (Sk.laid (q.bind fun r => .ret (f r))).toW T m).m = m' := congrArg WEnd.m e
  have ex : evsW x (wplay (Sk.laid (q.bind fun r => .ret (f r))).toW T m).evs = x' := congrArg WEnd.x e
  refine ⟨rfl, tv', mv', ?_, ho, ht, hm, ?_⟩
  · rw [eT, em, ex]; exact hs
  · show Lay base rb (wplay (Sk.laid (q.bind fun r => .ret (f r))).toW T m).a w'
    rw [ea]; exact hl
end Go.Proofs.Ytiiclmaphiajmaa

/-
  Layer 16: the laws' looker: its run, for each of its kinds.
-/
namespace Go.Proofs.Ytiiclmaphiajmaa
open Go.ChangeShapes Go.WideShapes Go.ChangeAt Go.RowKit
set_option linter.unusedVariables false
variable {α : Type}

section
variable {w w2 : World} {b g tb ab ag rb base : Nat} {tv mv tv' mv' : Value} {T T' : Tr} {m m' : Mm} {x x' : Wi} {G : Int} {n : Nat} {q : Sk α} {f : α → Rs} {a : α}
theorem moved_only {k : Nat} {w3 : World} (mo : WMoved w b g tb ab ag tv mv w2 tv' mv') (ho : Only (fun i => i = k) w2 w3) : Only (fun i => WAll b g tb ab ag tv mv i ∨ i = k) w w3 :=
  ⟨ho.os.trans mo.only.os, ho.tape.trans mo.only.tape, ho.output.trans mo.only.output, Nat.le_trans mo.only.size ho.size, fun i hi hn => (ho.block i (Nat.lt_of_lt_of_le hi mo.only.size) (fun e => hn (.inr e))).trans (mo.only.block i hi (fun e => hn (.inl e)))⟩
theorem mine_only {w3 : World} {n : Nd} {e s g : Value} {cs : Array Value} (h : NdMine base w2 n e s g) (hr : Whole w2 rb 35 cs) (ho : Only (fun k => k = rb) w2 w3) : NdMine base w3 n e s g :=
  ⟨h.me.only ho (fun k hk hq => by subst hq; exact own_apart h.me hr (by decide) hk), h.ms.only ho (fun k hk hq => by subst hq; exact own_apart h.ms hr (by decide) hk), h.mg.only ho (fun k hk hq => by subst hq; exact own_apart h.mg hr (by decide) hk), h.es, h.eg, h.sg⟩
theorem mine_nil (w : World) : NdMine base w Nd.nil (.slice none 0 0) (.slice none 0 0) (.slice none 0 0) := ⟨Mw.nil _ _, Mw.nil _ _, Mw.nil _ _, fun k h => by simp [Value.ownBlock] at h, fun k h => by simp [Value.ownBlock] at h, fun k h => by simp [Value.ownBlock] at h⟩
theorem run_wet {e s gg : Value} (hb : wend q T m x = ⟨a, T', m', x'⟩) (hd : dry T' = false) (hs : Sat w2 b g tb ab ag tv' mv' T' m' x' G n) (mo : WMoved w b g tb ab ag tv mv w2 tv' mv') (hr : Beside w2 b g tb ab ag tv' mv' rb 35 nilR) (hm : NdMine base w2 (f a).N e s gg) :
    WRan w b g tb ab ag tv mv (fun k => k = rb) (fun W' => Lay base rb (wplay (Sk.laid (q.bind fun r => .ret (f r))).toW T m).a W') (wplay (Sk.laid (q.bind fun r => .ret (f r))).toW T m) x (.returned (.tuple #[]))
      (set14 w2 rb (.int .i64 (f a).V) (.bool (f a).I) (.bool (f a).O) (.int .i64 (f a).A.s) (.int .i64 (f a).A.e) (.int .i64 (f a).A.p) (.bool (f a).A.sh) (.int .i64 (f a).A.bk) (.int .i64 (f a).A.off) (.bool (f a).N.inner) (.int .i64 (f a).N.lo) e s gg) := by
  have ho := only14 w2 rb (.int .i64 (f a).V) (.bool (f a).I) (.bool (f a).O) (.int .i64 (f a).A.s) (.int .i64 (f a).A.e) (.int .i64 (f a).A.p) (.bool (f a).A.sh) (.int .i64 (f a).A.bk) (.int .i64 (f a).A.off) (.bool (f a).N.inner) (.int .i64 (f a).N.lo) e s gg
  refine run_ends hb (hs.beside hr.far ho).st (moved_only mo ho) mo.t mo.m ?_
  rw [hd]
  exact ⟨e, s, gg, put14 hr.here .., mine_only hm hr.here ho⟩
theorem run_dry (hb : wend q T m x = ⟨a, T', m', x'⟩) (hd : dry T' = true) (hs : Sat w2 b g tb ab ag tv' mv' T' m' x' G n) (mo : WMoved w b g tb ab ag tv mv w2 tv' mv') (hr : Beside w2 b g tb ab ag tv' mv' rb 35 nilR) :
    WRan w b g tb ab ag tv mv (fun k => k = rb) (fun W' => Lay base rb (wplay (Sk.laid (q.bind fun r => .ret (f r))).toW T m).a W') (wplay (Sk.laid (q.bind fun r => .ret (f r))).toW T m) x (.returned (.tuple #[])) w2 := by
  refine run_ends hb hs.st (mo.only.mono (fun k _ hk => .inl hk)) mo.t mo.m ?_
  rw [hd]
  exact hr.here
/-- Where a run begins: its looker and its result. -/
theorem run_boxes (H : Sat w b g tb ab ag tv mv T m x G n) (h addr kind : Int) : Sat ((w.alloc (.cells #[.pointer (some ⟨ab, 0, none⟩), .int .i64 h, .int .i64 addr, .int .i64 kind, .pointer (some ⟨rb, 0, none⟩)] 40)).alloc (.cells nilR 35)) b g tb ab ag tv mv T m x G n ∧
    WMoved w b g tb ab ag tv mv ((w.alloc (.cells #[.pointer (some ⟨ab, 0, none⟩), .int .i64 h, .int .i64 addr, .int .i64 kind, .pointer (some ⟨rb, 0, none⟩)] 40)).alloc (.cells nilR 35)) tv mv ∧
    Beside ((w.alloc (.cells #[.pointer (some ⟨ab, 0, none⟩), .int .i64 h, .int .i64 addr, .int .i64 kind, .pointer (some ⟨rb, 0, none⟩)] 40)).alloc (.cells nilR 35)) b g tb ab ag tv mv w.heap.size 40 #[.pointer (some ⟨ab, 0, none⟩), .int .i64 h, .int .i64 addr, .int .i64 kind, .pointer (some ⟨rb, 0, none⟩)] ∧
    Beside ((w.alloc (.cells #[.pointer (some ⟨ab, 0, none⟩), .int .i64 h, .int .i64 addr, .int .i64 kind, .pointer (some ⟨rb, 0, none⟩)] 40)).alloc (.cells nilR 35)) b g tb ab ag tv mv (w.heap.size + 1) 35 nilR := by
  have B := Bag.two w 40 35 #[.pointer (some ⟨ab, 0, none⟩), .int .i64 h, .int .i64 addr, .int .i64 kind, .pointer (some ⟨rb, 0, none⟩)] nilR
  exact ⟨H.still B.bel, WMoved.still B.bel b g tb ab ag tv mv, .of_new H.st B.v1 (by omega), .of_new H.st B.v0 (by omega)⟩
theorem lk5 {q : Nat} {t : TypeId} {a b c d e : Value} (h : Whole w q t #[a, b, c, d, e]) : w.cell? ⟨q, 0, none⟩ = some a ∧ w.cell? ⟨q, 1, none⟩ = some b ∧ w.cell? ⟨q, 2, none⟩ = some c ∧ w.cell? ⟨q, 3, none⟩ = some d ∧ w.cell? ⟨q, 4, none⟩ = some e := ⟨h.cell 0, h.cell 1, h.cell 2, h.cell 3, h.cell 4⟩
end

section
variable {b g tb ab ag rb base : Nat} {x : Wi} {N : Nat}

set_option maxRecDepth 4000 in
set_option maxHeartbeats 8000000 in
theorem run_word (h addr : Int) (hh : h ≤ 9223372036854775807) : RunsBy (N + 1) b g tb ab ag rb (Lay base rb) 29 #[looker ab h addr 3 rb] (wordRs (cellOf x.fst x.l.length h) h addr) x := by
  intro w tv mv T m x' G H hf hl lay0 hap hlt
  have hnot : ∀ (x : Bool) (w : World), (Op.unary .not (.bool x)).run Try.prog w = .ok (.bool (!x)) w := fun _ _ => rfl
  show Calls Try.prog 29 #[looker ab h addr 3 rb, .pointer (some ⟨tb, 0, none⟩)] w _
  have HB : Hid (tb < w.heap.size) := Lib.hid H.st.st.tr.top.lt
  have HRQ : Hid (rb ≠ w.heap.size + 1) := Lib.hid (by omega)
  obtain ⟨s1, mo1, k0, k1⟩ := run_boxes (rb := rb) H h addr 3
  have LR : Hid (Beside w b g tb ab ag tv mv rb 35 nilR) := Lib.hid ⟨lay0, hap⟩
  obtain ⟨R, hR⟩ : ∃ R, WRan w b g tb ab ag tv mv (fun k => k = rb) (fun W' => Lay base rb (wplay (Sk.laid (wordRs (cellOf x.fst x.l.length h) h addr)).toW T m).a W') (wplay (Sk.laid (wordRs (cellOf x.fst x.l.length h) h addr)).toW T m) x' = R := ⟨_, rfl⟩
  rw [hR]
  have HR := Lib.hid hR
  have LR1 := Lib.hid (LR.out.moved mo1)
  have M1 := Lib.hid mo1
  have K0 := Lib.hid k0
  have K1 := Lib.hid k1
  have Q1 : Hid (w.heap.size ≤ w.heap.size + 1) := Lib.hid (by omega)
  have C := Lib.hid (read_c (n := N) h addr s1 hh)
  rw [hf, hl] at C
  clear s1 mo1 k0 k1 hR H lay0 hap hlt hf hl LR
  unfold looker nilR at *
  go_enter Try.func29, Try.ntmps29
  go_upto_region 2 with (fail)
  generalize (w.alloc (.cells #[.pointer (some ⟨ab, 0, none⟩), .int .i64 h, .int .i64 addr, .int .i64 3, .pointer (some ⟨rb, 0, none⟩)] 40)).alloc _ = wA at *
  generalize w.heap.size + 1 = q1 at *
  obtain ⟨q0, hq0⟩ : ∃ q0, w.heap.size = q0 := ⟨_, rfl⟩
  have HQ0 := Lib.hid hq0
  rw [hq0] at K0
  obtain ⟨a0, a1, a2, a3, a4⟩ := lk5 K0.out.here
  have hne : ¬ q0 = q1 := K0.out.here.apart K1.out.here (by decide)
  have HNE := Lib.hid hne
  go_wp2_with fail
  refine C.out.mono ?_
  rintro e w2 ⟨v, T2, m2, x2, tv2, mv2, rfl, hv, s2, mo2, hx2, e2⟩
  have E2 : Hid (wend (wordP (cellOf x.fst x.l.length h) h addr) T m x' = ⟨v, T2, m2, x2⟩) := Lib.hid (e2 _ _)
  have K1b := Lib.hid (K1.out.moved mo2)
  have y0 := K1b.out.here.cell 0
  have g0 := K1b.out.here.frozen 0
  have S3 := Lib.hid (s2.beside K1b.out.far (only_one w2 q1 0 (.int .i64 v)))
  have M3 := Lib.hid ((M1.out.trans mo2).put Q1.out 0 (.int .i64 v))
  have K03 := Lib.hid ((K0.out.moved mo2).far_put HNE.out 0 (.int .i64 v))
  have K13 : Hid (Beside (w2.setCell ⟨q1, 0, none⟩ (.int .i64 v)) b g tb ab ag tv2 mv2 q1 35 #[.int .i64 v, .bool false, .bool false, .int .i64 0, .int .i64 0, .int .i64 0, .bool false, .int .i64 0, .int .i64 0, .bool false, .int .i64 0, .slice none 0 0, .slice none 0 0, .slice none 0 0]) := Lib.hid (K1b.out.put 0 (.int .i64 v))
  have LR3 := Lib.hid ((LR1.out.moved mo2).far_put HRQ.out 0 (.int .i64 v))
  clear s2 mo2 hx2 hv e2 C M1 K0 K1 LR1 a0 a1 a2 a3 a4
  go_upto_region 13 with (fail)
  generalize w2.setCell ⟨q1, 0, none⟩ (.int .i64 v) = w3 at *
  clear K1b y0 g0
  have DR := Lib.hid (dry_c S3.out)
  obtain ⟨a0, a1, a2, a3, a4⟩ := lk5 K03.out.here
  obtain ⟨z0, z1, z2, z3, z4, z5, z6, z7, z8, z9, z10, z11, z12, z13⟩ := row14 K13.out.here
  obtain ⟨r0, r1, r2, r3, r4, r5, r6, r7, r8, r9, r10, r11, r12, r13⟩ := row14 LR3.out.here
  obtain ⟨f0, f1, f2, f3, f4, f5, f6, f7, f8, f9, f10, f11, f12, f13⟩ := row14f LR3.out.here
  cases hd : dry T2 with
  | true =>
    rw [hd] at DR
    have FX : Hid (R (.returned (.tuple #[])) w3) := Lib.hid (by rw [← HR.out]; exact run_dry (f := fun v => ⟨v, false, false, Ar.nil, Nd.nil⟩) E2.out hd S3.out M3.out LR3.out)
    clear HR S3 M3 K03 K13 LR3 E2
    go_wp2_with fail
    refine DR.out.mono ?_
    rintro e w9 ⟨rfl, rfl⟩
    go_wp2_with fail
    go_end0
    exact FX.out
  | false =>
    rw [hd] at DR
    have FX := Lib.hid (run_wet (base := base) (f := fun v => ⟨v, false, false, Ar.nil, Nd.nil⟩) E2.out hd S3.out M3.out LR3.out (mine_nil _))
    have FY : Hid (R (.returned (.tuple #[])) (set14 w3 rb (.int .i64 v) (.bool false) (.bool false) (.int .i64 0) (.int .i64 0) (.int .i64 0) (.bool false) (.int .i64 0) (.int .i64 0) (.bool false) (.int .i64 0) (.slice none 0 0) (.slice none 0 0) (.slice none 0 0))) := Lib.hid (by rw [← HR.out]; exact FX.out)
    clear HR S3 M3 K03 K13 LR3 E2 FX
    go_wp2_with fail
    refine DR.out.mono ?_
    rintro e w9 ⟨rfl, rfl⟩
    go_wp2_with fail
    go_end0
    exact FY.out


set_option maxRecDepth 4000 in
set_option maxHeartbeats 8000000 in
theorem run_look (h addr : Int) (hh : h ≤ 9223372036854775807) : RunsBy (N + 10) b g tb ab ag rb (Lay base rb) 29 #[looker ab h addr 0 rb] (lookRs (cellOf x.fst x.l.length h) h addr) x := by
  intro w tv mv T m x' G H hf hl lay0 hap hlt
  have hnot : ∀ (x : Bool) (w : World), (Op.unary .not (.bool x)).run Try.prog w = .ok (.bool (!x)) w := fun _ _ => rfl
  show Calls Try.prog 29 #[looker ab h addr 0 rb, .pointer (some ⟨tb, 0, none⟩)] w _
  have HB : Hid (tb < w.heap.size) := Lib.hid H.st.st.tr.top.lt
  have HRQ : Hid (rb ≠ w.heap.size + 1) := Lib.hid (by omega)
  obtain ⟨s1, mo1, k0, k1⟩ := run_boxes (rb := rb) H h addr 0
  have LR : Hid (Beside w b g tb ab ag tv mv rb 35 nilR) := Lib.hid ⟨lay0, hap⟩
  obtain ⟨R, hR⟩ : ∃ R, WRan w b g tb ab ag tv mv (fun k => k = rb) (fun W' => Lay base rb (wplay (Sk.laid (lookRs (cellOf x.fst x.l.length h) h addr)).toW T m).a W') (wplay (Sk.laid (lookRs (cellOf x.fst x.l.length h) h addr)).toW T m) x' = R := ⟨_, rfl⟩
  rw [hR]
  have HR := Lib.hid hR
  have LR1 := Lib.hid (LR.out.moved mo1)
  have M1 := Lib.hid mo1
  have K0 := Lib.hid k0
  have K1 := Lib.hid k1
  have Q1 : Hid (w.heap.size ≤ w.heap.size + 1) := Lib.hid (by omega)
  have C := Lib.hid (look_c (n := N) h addr s1 hh)
  rw [hf, hl] at C
  clear s1 mo1 k0 k1 hR H lay0 hap hlt hf hl LR
  unfold looker nilR at *
  go_enter Try.func29, Try.ntmps29
  go_upto_region 2 with (fail)
  generalize (w.alloc (.cells #[.pointer (some ⟨ab, 0, none⟩), .int .i64 h, .int .i64 addr, .int .i64 0, .pointer (some ⟨rb, 0, none⟩)] 40)).alloc _ = wA at *
  generalize w.heap.size + 1 = q1 at *
  obtain ⟨q0, hq0⟩ : ∃ q0, w.heap.size = q0 := ⟨_, rfl⟩
  have HQ0 := Lib.hid hq0
  rw [hq0] at K0
  obtain ⟨a0, a1, a2, a3, a4⟩ := lk5 K0.out.here
  have hne : ¬ q0 = q1 := K0.out.here.apart K1.out.here (by decide)
  have HNE := Lib.hid hne
  go_wp2_with fail
  obtain ⟨O, hO⟩ : ∃ O, wend (lookP (cellOf x.fst x.l.length h) h addr) T m x' = O := ⟨_, rfl⟩
  rw [hO] at C
  have E2 := Lib.hid hO
  clear hO
  obtain ⟨⟨v, i, ok⟩, T2, m2, x2⟩ := O
  refine C.out.mono ?_
  rintro e w2 ⟨val, tv2, mv2, rfl, rfl, s2, mo2⟩
  have S2 := Lib.hid s2
  have M2 := Lib.hid (M1.out.trans mo2)
  have K1b := Lib.hid (K1.out.moved mo2)
  have K0b := Lib.hid (K0.out.moved mo2)
  have LRb := Lib.hid (LR1.out.moved mo2)
  clear s2 mo2 C M1 K0 K1 LR1 a0 a1 a2 a3 a4
  unfold lookV
  have S3 := Lib.hid (S2.out.beside K1b.out.far (only14 w2 q1 (.int .i64 v) (.bool i) (.bool ok) (.int .i64 0) (.int .i64 0) (.int .i64 0) (.bool false) (.int .i64 0) (.int .i64 0) (.bool false) (.int .i64 0) (.slice none 0 0) (.slice none 0 0) (.slice none 0 0)))
  have M3 := Lib.hid (M2.out.then_only Q1.out (only14 w2 q1 (.int .i64 v) (.bool i) (.bool ok) (.int .i64 0) (.int .i64 0) (.int .i64 0) (.bool false) (.int .i64 0) (.int .i64 0) (.bool false) (.int .i64 0) (.slice none 0 0) (.slice none 0 0) (.slice none 0 0)))
  have K03 : Hid (Beside (set14 w2 q1 (.int .i64 v) (.bool i) (.bool ok) (.int .i64 0) (.int .i64 0) (.int .i64 0) (.bool false) (.int .i64 0) (.int .i64 0) (.bool false) (.int .i64 0) (.slice none 0 0) (.slice none 0 0) (.slice none 0 0)) b g tb ab ag tv2 mv2 q0 40 _) := Lib.hid ⟨K0b.out.here.only (only14 w2 q1 (.int .i64 v) (.bool i) (.bool ok) (.int .i64 0) (.int .i64 0) (.int .i64 0) (.bool false) (.int .i64 0) (.int .i64 0) (.bool false) (.int .i64 0) (.slice none 0 0) (.slice none 0 0) (.slice none 0 0)) HNE.out, K0b.out.far⟩
  have K13 : Hid (Beside (set14 w2 q1 (.int .i64 v) (.bool i) (.bool ok) (.int .i64 0) (.int .i64 0) (.int .i64 0) (.bool false) (.int .i64 0) (.int .i64 0) (.bool false) (.int .i64 0) (.slice none 0 0) (.slice none 0 0) (.slice none 0 0)) b g tb ab ag tv2 mv2 q1 35 #[.int .i64 v, .bool i, .bool ok, .int .i64 0, .int .i64 0, .int .i64 0, .bool false, .int .i64 0, .int .i64 0, .bool false, .int .i64 0, .slice none 0 0, .slice none 0 0, .slice none 0 0]) := Lib.hid ⟨put14 K1b.out.here .., K1b.out.far⟩
  have LR3 : Hid (Beside (set14 w2 q1 (.int .i64 v) (.bool i) (.bool ok) (.int .i64 0) (.int .i64 0) (.int .i64 0) (.bool false) (.int .i64 0) (.int .i64 0) (.bool false) (.int .i64 0) (.slice none 0 0) (.slice none 0 0) (.slice none 0 0)) b g tb ab ag tv2 mv2 rb 35 _) := Lib.hid ⟨LRb.out.here.only (only14 w2 q1 (.int .i64 v) (.bool i) (.bool ok) (.int .i64 0) (.int .i64 0) (.int .i64 0) (.bool false) (.int .i64 0) (.int .i64 0) (.bool false) (.int .i64 0) (.slice none 0 0) (.slice none 0 0) (.slice none 0 0)) HRQ.out, LRb.out.far⟩
  obtain ⟨z0, z1, z2, z3, z4, z5, z6, z7, z8, z9, z10, z11, z12, z13⟩ := row14 K1b.out.here
  obtain ⟨f0, f1, f2, f3, f4, f5, f6, f7, f8, f9, f10, f11, f12, f13⟩ := row14f K1b.out.here
  clear S2 M2 LRb K0b
  go_upto_region 13 with (fail)
  unfold set14 at S3 M3 K03 K13 LR3
  generalize World.setCell (World.setCell _ _ _) ⟨q1, 13, none⟩ _ = w3 at *
  clear K1b z0 z1 z2 z3 z4 z5 z6 z7 z8 z9 z10 z11 z12 z13 f0 f1 f2 f3 f4 f5 f6 f7 f8 f9 f10 f11 f12 f13
  have DR := Lib.hid (dry_c S3.out)
  obtain ⟨a0, a1, a2, a3, a4⟩ := lk5 K03.out.here
  obtain ⟨z0, z1, z2, z3, z4, z5, z6, z7, z8, z9, z10, z11, z12, z13⟩ := row14 K13.out.here
  obtain ⟨r0, r1, r2, r3, r4, r5, r6, r7, r8, r9, r10, r11, r12, r13⟩ := row14 LR3.out.here
  obtain ⟨f0, f1, f2, f3, f4, f5, f6, f7, f8, f9, f10, f11, f12, f13⟩ := row14f LR3.out.here
  cases hd : dry T2 with
  | true =>
    rw [hd] at DR
    have FX : Hid (R (.returned (.tuple #[])) w3) := Lib.hid (by rw [← HR.out]; exact run_dry (f := fun r => ⟨r.1, r.2.1, r.2.2, Ar.nil, Nd.nil⟩) E2.out hd S3.out M3.out LR3.out)
    clear HR S3 M3 K03 K13 LR3 E2
    go_wp2_with fail
    refine DR.out.mono ?_
    rintro e w9 ⟨rfl, rfl⟩
    go_wp2_with fail
    go_end0
    exact FX.out
  | false =>
    rw [hd] at DR
    have FX := Lib.hid (run_wet (base := base) (f := fun r => ⟨r.1, r.2.1, r.2.2, Ar.nil, Nd.nil⟩) E2.out hd S3.out M3.out LR3.out (mine_nil _))
    have FY : Hid (R (.returned (.tuple #[])) (set14 w3 rb (.int .i64 v) (.bool i) (.bool ok) (.int .i64 0) (.int .i64 0) (.int .i64 0) (.bool false) (.int .i64 0) (.int .i64 0) (.bool false) (.int .i64 0) (.slice none 0 0) (.slice none 0 0) (.slice none 0 0))) := Lib.hid (by rw [← HR.out]; exact FX.out)
    clear HR S3 M3 K03 K13 LR3 E2 FX
    go_wp2_with fail
    refine DR.out.mono ?_
    rintro e w9 ⟨rfl, rfl⟩
    go_wp2_with fail
    go_end0
    exact FY.out


set_option maxRecDepth 4000 in
set_option maxHeartbeats 8000000 in
theorem run_area (h addr : Int) (hh : h ≤ 9223372036854775807) : RunsBy (N + 8) b g tb ab ag rb (Lay base rb) 29 #[looker ab h addr 1 rb] (areaRs (cellOf x.fst x.l.length h) h) x := by
  intro w tv mv T m x' G H hf hl lay0 hap hlt
  have hnot : ∀ (x : Bool) (w : World), (Op.unary .not (.bool x)).run Try.prog w = .ok (.bool (!x)) w := fun _ _ => rfl
  show Calls Try.prog 29 #[looker ab h addr 1 rb, .pointer (some ⟨tb, 0, none⟩)] w _
  have HB : Hid (tb < w.heap.size) := Lib.hid H.st.st.tr.top.lt
  have HRQ : Hid (rb ≠ w.heap.size + 1) := Lib.hid (by omega)
  obtain ⟨s1, mo1, k0, k1⟩ := run_boxes (rb := rb) H h addr 1
  have LR : Hid (Beside w b g tb ab ag tv mv rb 35 nilR) := Lib.hid ⟨lay0, hap⟩
  obtain ⟨R, hR⟩ : ∃ R, WRan w b g tb ab ag tv mv (fun k => k = rb) (fun W' => Lay base rb (wplay (Sk.laid (areaRs (cellOf x.fst x.l.length h) h)).toW T m).a W') (wplay (Sk.laid (areaRs (cellOf x.fst x.l.length h) h)).toW T m) x' = R := ⟨_, rfl⟩
  rw [hR]
  have HR := Lib.hid hR
  have LR1 := Lib.hid (LR.out.moved mo1)
  have M1 := Lib.hid mo1
  have K0 := Lib.hid k0
  have K1 := Lib.hid k1
  have Q1 : Hid (w.heap.size ≤ w.heap.size + 1) := Lib.hid (by omega)
  have C := Lib.hid (area_c (n := N) h s1 hh)
  rw [hf, hl] at C
  clear s1 mo1 k0 k1 hR H lay0 hap hlt hf hl LR
  unfold looker nilR at *
  go_enter Try.func29, Try.ntmps29
  go_upto_region 2 with (fail)
  generalize (w.alloc (.cells #[.pointer (some ⟨ab, 0, none⟩), .int .i64 h, .int .i64 addr, .int .i64 1, .pointer (some ⟨rb, 0, none⟩)] 40)).alloc _ = wA at *
  generalize w.heap.size + 1 = q1 at *
  obtain ⟨q0, hq0⟩ : ∃ q0, w.heap.size = q0 := ⟨_, rfl⟩
  have HQ0 := Lib.hid hq0
  rw [hq0] at K0
  obtain ⟨a0, a1, a2, a3, a4⟩ := lk5 K0.out.here
  have hne : ¬ q0 = q1 := K0.out.here.apart K1.out.here (by decide)
  have HNE := Lib.hid hne
  go_wp2_with fail
  obtain ⟨O, hO⟩ : ∃ O, wend (areaP (cellOf x.fst x.l.length h) h) T m x' = O := ⟨_, rfl⟩
  rw [hO] at C
  have E2 := Lib.hid hO
  clear hO
  obtain ⟨r, T2, m2, x2⟩ := O
  refine C.out.mono ?_
  rintro e w2 ⟨val, tv2, mv2, rfl, hA, s2, mo2⟩
  have S2 := Lib.hid s2
  have M2 := Lib.hid (M1.out.trans mo2)
  have K1b := Lib.hid (K1.out.moved mo2)
  have K0b := Lib.hid (K0.out.moved mo2)
  have LRb := Lib.hid (LR1.out.moved mo2)
  clear s2 mo2 C M1 K0 K1 LR1 a0 a1 a2 a3 a4
  subst hA
  match r, E2 with
  | none, E2 =>
    unfold areaV
    simp only [area_cells, Ar.nil]
    have S2 := Lib.hid (S2.out.still (below_new _ (.cells #[.int .i64 0, .int .i64 0, .int .i64 0, .bool false, .int .i64 0, .int .i64 0] 31)))
    have M2 := Lib.hid (M2.out.then_below (below_new _ (.cells #[.int .i64 0, .int .i64 0, .int .i64 0, .bool false, .int .i64 0, .int .i64 0] 31)))
    have QN : Hid (w2.heap.size ≠ q1) := Lib.hid (fun h => absurd (Whole.lt K1b.out.here) (by omega))
    have QL := Lib.hid (K1b.out.here.lt)
    have K1b := Lib.hid (K1b.out.still (below_new _ (.cells #[.int .i64 0, .int .i64 0, .int .i64 0, .bool false, .int .i64 0, .int .i64 0] 31)))
    have K0b := Lib.hid (K0b.out.still (below_new _ (.cells #[.int .i64 0, .int .i64 0, .int .i64 0, .bool false, .int .i64 0, .int .i64 0] 31)))
    have LRb := Lib.hid (LRb.out.still (below_new _ (.cells #[.int .i64 0, .int .i64 0, .int .i64 0, .bool false, .int .i64 0, .int .i64 0] 31)))
    have WN := Lib.hid (Whole.new w2 31 #[.int .i64 0, .int .i64 0, .int .i64 0, .bool false, .int .i64 0, .int .i64 0])
    go_upto_region 9 with (fail)
    generalize hw4 : w2.alloc (.cells #[.int .i64 0, .int .i64 0, .int .i64 0, .bool false, .int .i64 0, .int .i64 0] 31) = w4 at *
    generalize w2.heap.size = qa at *
    clear hw4 QL
    obtain ⟨b0, b1, b2, b3, b4, b5⟩ := row6 WN.out
    have S3 := Lib.hid (S2.out.beside K1b.out.far (only14 w4 q1 (.int .i64 0) (.bool false) (.bool false) (.int .i64 0) (.int .i64 0) (.int .i64 0) (.bool false) (.int .i64 0) (.int .i64 0) (.bool false) (.int .i64 0) (.slice none 0 0) (.slice none 0 0) (.slice none 0 0)))
    have M3 := Lib.hid (M2.out.then_only Q1.out (only14 w4 q1 (.int .i64 0) (.bool false) (.bool false) (.int .i64 0) (.int .i64 0) (.int .i64 0) (.bool false) (.int .i64 0) (.int .i64 0) (.bool false) (.int .i64 0) (.slice none 0 0) (.slice none 0 0) (.slice none 0 0)))
    have K03 : Hid (Beside (set14 w4 q1 (.int .i64 0) (.bool false) (.bool false) (.int .i64 0) (.int .i64 0) (.int .i64 0) (.bool false) (.int .i64 0) (.int .i64 0) (.bool false) (.int .i64 0) (.slice none 0 0) (.slice none 0 0) (.slice none 0 0)) b g tb ab ag tv2 mv2 q0 40 _) := Lib.hid ⟨K0b.out.here.only (only14 w4 q1 (.int .i64 0) (.bool false) (.bool false) (.int .i64 0) (.int .i64 0) (.int .i64 0) (.bool false) (.int .i64 0) (.int .i64 0) (.bool false) (.int .i64 0) (.slice none 0 0) (.slice none 0 0) (.slice none 0 0)) HNE.out, K0b.out.far⟩
    have K13 : Hid (Beside (set14 w4 q1 (.int .i64 0) (.bool false) (.bool false) (.int .i64 0) (.int .i64 0) (.int .i64 0) (.bool false) (.int .i64 0) (.int .i64 0) (.bool false) (.int .i64 0) (.slice none 0 0) (.slice none 0 0) (.slice none 0 0)) b g tb ab ag tv2 mv2 q1 35 #[.int .i64 0, .bool false, .bool false, .int .i64 0, .int .i64 0, .int .i64 0, .bool false, .int .i64 0, .int .i64 0, .bool false, .int .i64 0, .slice none 0 0, .slice none 0 0, .slice none 0 0]) := Lib.hid ⟨put14 K1b.out.here .., K1b.out.far⟩
    have LR3 : Hid (Beside (set14 w4 q1 (.int .i64 0) (.bool false) (.bool false) (.int .i64 0) (.int .i64 0) (.int .i64 0) (.bool false) (.int .i64 0) (.int .i64 0) (.bool false) (.int .i64 0) (.slice none 0 0) (.slice none 0 0) (.slice none 0 0)) b g tb ab ag tv2 mv2 rb 35 _) := Lib.hid ⟨LRb.out.here.only (only14 w4 q1 (.int .i64 0) (.bool false) (.bool false) (.int .i64 0) (.int .i64 0) (.int .i64 0) (.bool false) (.int .i64 0) (.int .i64 0) (.bool false) (.int .i64 0) (.slice none 0 0) (.slice none 0 0) (.slice none 0 0)) HRQ.out, LRb.out.far⟩
    obtain ⟨z0, z1, z2, z3, z4, z5, z6, z7, z8, z9, z10, z11, z12, z13⟩ := row14 K1b.out.here
    obtain ⟨f0, f1, f2, f3, f4, f5, f6, f7, f8, f9, f10, f11, f12, f13⟩ := row14f K1b.out.here
    clear S2 M2 LRb K0b
    go_upto_region 13 with (fail)
    unfold set14 at S3 M3 K03 K13 LR3
    generalize World.setCell (World.setCell _ _ _) ⟨q1, 13, none⟩ _ = w3 at *
    clear K1b z0 z1 z2 z3 z4 z5 z6 z7 z8 z9 z10 z11 z12 z13 f0 f1 f2 f3 f4 f5 f6 f7 f8 f9 f10 f11 f12 f13
    have DR := Lib.hid (dry_c S3.out)
    obtain ⟨a0, a1, a2, a3, a4⟩ := lk5 K03.out.here
    obtain ⟨z0, z1, z2, z3, z4, z5, z6, z7, z8, z9, z10, z11, z12, z13⟩ := row14 K13.out.here
    obtain ⟨r0, r1, r2, r3, r4, r5, r6, r7, r8, r9, r10, r11, r12, r13⟩ := row14 LR3.out.here
    obtain ⟨f0, f1, f2, f3, f4, f5, f6, f7, f8, f9, f10, f11, f12, f13⟩ := row14f LR3.out.here
    cases hd : dry T2 with
    | true =>
      rw [hd] at DR
      have FX : Hid (R (.returned (.tuple #[])) w3) := Lib.hid (by rw [← HR.out]; exact run_dry (f := areaR) E2.out hd S3.out M3.out LR3.out)
      clear HR S3 M3 K03 K13 LR3 E2
      go_wp2_with fail
      refine DR.out.mono ?_
      rintro e w9 ⟨rfl, rfl⟩
      go_wp2_with fail
      go_end0
      exact FX.out
    | false =>
      rw [hd] at DR
      have FX := Lib.hid (run_wet (base := base) (f := areaR) E2.out hd S3.out M3.out LR3.out (mine_nil _))
      have FY : Hid (R (.returned (.tuple #[])) (set14 w3 rb (.int .i64 0) (.bool false) (.bool false) (.int .i64 0) (.int .i64 0) (.int .i64 0) (.bool false) (.int .i64 0) (.int .i64 0) (.bool false) (.int .i64 0) (.slice none 0 0) (.slice none 0 0) (.slice none 0 0))) := Lib.hid (by rw [← HR.out]; exact FX.out)
      clear HR S3 M3 K03 K13 LR3 E2 FX
      go_wp2_with fail
      refine DR.out.mono ?_
      rintro e w9 ⟨rfl, rfl⟩
      go_wp2_with fail
      go_end0
      exact FY.out
  | some (a, d), E2 =>
    unfold areaV
    simp only [area_cells]
    have S2 := Lib.hid (S2.out.still (below_new _ (.cells #[.int .i64 a.s, .int .i64 a.e, .int .i64 a.p, .bool a.sh, .int .i64 a.bk, .int .i64 a.off] 31)))
    have M2 := Lib.hid (M2.out.then_below (below_new _ (.cells #[.int .i64 a.s, .int .i64 a.e, .int .i64 a.p, .bool a.sh, .int .i64 a.bk, .int .i64 a.off] 31)))
    have QN : Hid (w2.heap.size ≠ q1) := Lib.hid (fun h => absurd (Whole.lt K1b.out.here) (by omega))
    have QL := Lib.hid (K1b.out.here.lt)
    have K1b := Lib.hid (K1b.out.still (below_new _ (.cells #[.int .i64 a.s, .int .i64 a.e, .int .i64 a.p, .bool a.sh, .int .i64 a.bk, .int .i64 a.off] 31)))
    have K0b := Lib.hid (K0b.out.still (below_new _ (.cells #[.int .i64 a.s, .int .i64 a.e, .int .i64 a.p, .bool a.sh, .int .i64 a.bk, .int .i64 a.off] 31)))
    have LRb := Lib.hid (LRb.out.still (below_new _ (.cells #[.int .i64 a.s, .int .i64 a.e, .int .i64 a.p, .bool a.sh, .int .i64 a.bk, .int .i64 a.off] 31)))
    have WN := Lib.hid (Whole.new w2 31 #[.int .i64 a.s, .int .i64 a.e, .int .i64 a.p, .bool a.sh, .int .i64 a.bk, .int .i64 a.off])
    go_upto_region 9 with (fail)
    generalize hw4 : w2.alloc (.cells #[.int .i64 a.s, .int .i64 a.e, .int .i64 a.p, .bool a.sh, .int .i64 a.bk, .int .i64 a.off] 31) = w4 at *
    generalize w2.heap.size = qa at *
    clear hw4 QL
    obtain ⟨b0, b1, b2, b3, b4, b5⟩ := row6 WN.out
    have S3 := Lib.hid (S2.out.beside K1b.out.far (only14 w4 q1 (.int .i64 0) (.bool d) (.bool true) (.int .i64 a.s) (.int .i64 a.e) (.int .i64 a.p) (.bool a.sh) (.int .i64 a.bk) (.int .i64 a.off) (.bool false) (.int .i64 0) (.slice none 0 0) (.slice none 0 0) (.slice none 0 0)))
    have M3 := Lib.hid (M2.out.then_only Q1.out (only14 w4 q1 (.int .i64 0) (.bool d) (.bool true) (.int .i64 a.s) (.int .i64 a.e) (.int .i64 a.p) (.bool a.sh) (.int .i64 a.bk) (.int .i64 a.off) (.bool false) (.int .i64 0) (.slice none 0 0) (.slice none 0 0) (.slice none 0 0)))
    have K03 : Hid (Beside (set14 w4 q1 (.int .i64 0) (.bool d) (.bool true) (.int .i64 a.s) (.int .i64 a.e) (.int .i64 a.p) (.bool a.sh) (.int .i64 a.bk) (.int .i64 a.off) (.bool false) (.int .i64 0) (.slice none 0 0) (.slice none 0 0) (.slice none 0 0)) b g tb ab ag tv2 mv2 q0 40 _) := Lib.hid ⟨K0b.out.here.only (only14 w4 q1 (.int .i64 0) (.bool d) (.bool true) (.int .i64 a.s) (.int .i64 a.e) (.int .i64 a.p) (.bool a.sh) (.int .i64 a.bk) (.int .i64 a.off) (.bool false) (.int .i64 0) (.slice none 0 0) (.slice none 0 0) (.slice none 0 0)) HNE.out, K0b.out.far⟩
    have K13 : Hid (Beside (set14 w4 q1 (.int .i64 0) (.bool d) (.bool true) (.int .i64 a.s) (.int .i64 a.e) (.int .i64 a.p) (.bool a.sh) (.int .i64 a.bk) (.int .i64 a.off) (.bool false) (.int .i64 0) (.slice none 0 0) (.slice none 0 0) (.slice none 0 0)) b g tb ab ag tv2 mv2 q1 35 #[.int .i64 0, .bool d, .bool true, .int .i64 a.s, .int .i64 a.e, .int .i64 a.p, .bool a.sh, .int .i64 a.bk, .int .i64 a.off, .bool false, .int .i64 0, .slice none 0 0, .slice none 0 0, .slice none 0 0]) := Lib.hid ⟨put14 K1b.out.here .., K1b.out.far⟩
    have LR3 : Hid (Beside (set14 w4 q1 (.int .i64 0) (.bool d) (.bool true) (.int .i64 a.s) (.int .i64 a.e) (.int .i64 a.p) (.bool a.sh) (.int .i64 a.bk) (.int .i64 a.off) (.bool false) (.int .i64 0) (.slice none 0 0) (.slice none 0 0) (.slice none 0 0)) b g tb ab ag tv2 mv2 rb 35 _) := Lib.hid ⟨LRb.out.here.only (only14 w4 q1 (.int .i64 0) (.bool d) (.bool true) (.int .i64 a.s) (.int .i64 a.e) (.int .i64 a.p) (.bool a.sh) (.int .i64 a.bk) (.int .i64 a.off) (.bool false) (.int .i64 0) (.slice none 0 0) (.slice none 0 0) (.slice none 0 0)) HRQ.out, LRb.out.far⟩
    obtain ⟨z0, z1, z2, z3, z4, z5, z6, z7, z8, z9, z10, z11, z12, z13⟩ := row14 K1b.out.here
    obtain ⟨f0, f1, f2, f3, f4, f5, f6, f7, f8, f9, f10, f11, f12, f13⟩ := row14f K1b.out.here
    clear S2 M2 LRb K0b
    go_upto_region 13 with (fail)
    unfold set14 at S3 M3 K03 K13 LR3
    generalize World.setCell (World.setCell _ _ _) ⟨q1, 13, none⟩ _ = w3 at *
    clear K1b z0 z1 z2 z3 z4 z5 z6 z7 z8 z9 z10 z11 z12 z13 f0 f1 f2 f3 f4 f5 f6 f7 f8 f9 f10 f11 f12 f13
    have DR := Lib.hid (dry_c S3.out)
    obtain ⟨a0, a1, a2, a3, a4⟩ := lk5 K03.out.here
    obtain ⟨z0, z1, z2, z3, z4, z5, z6, z7, z8, z9, z10, z11, z12, z13⟩ := row14 K13.out.here
    obtain ⟨r0, r1, r2, r3, r4, r5, r6, r7, r8, r9, r10, r11, r12, r13⟩ := row14 LR3.out.here
    obtain ⟨f0, f1, f2, f3, f4, f5, f6, f7, f8, f9, f10, f11, f12, f13⟩ := row14f LR3.out.here
    cases hd : dry T2 with
    | true =>
      rw [hd] at DR
      have FX : Hid (R (.returned (.tuple #[])) w3) := Lib.hid (by rw [← HR.out]; exact run_dry (f := areaR) E2.out hd S3.out M3.out LR3.out)
      clear HR S3 M3 K03 K13 LR3 E2
      go_wp2_with fail
      refine DR.out.mono ?_
      rintro e w9 ⟨rfl, rfl⟩
      go_wp2_with fail
      go_end0
      exact FX.out
    | false =>
      rw [hd] at DR
      have FX := Lib.hid (run_wet (base := base) (f := areaR) E2.out hd S3.out M3.out LR3.out (mine_nil _))
      have FY : Hid (R (.returned (.tuple #[])) (set14 w3 rb (.int .i64 0) (.bool d) (.bool true) (.int .i64 a.s) (.int .i64 a.e) (.int .i64 a.p) (.bool a.sh) (.int .i64 a.bk) (.int .i64 a.off) (.bool false) (.int .i64 0) (.slice none 0 0) (.slice none 0 0) (.slice none 0 0))) := Lib.hid (by rw [← HR.out]; exact FX.out)
      clear HR S3 M3 K03 K13 LR3 E2 FX
      go_wp2_with fail
      refine DR.out.mono ?_
      rintro e w9 ⟨rfl, rfl⟩
      go_wp2_with fail
      go_end0
      exact FY.out


set_option maxRecDepth 4000 in
set_option maxHeartbeats 8000000 in
theorem run_node (h addr : Int) (hh : h ≤ 9223372036854775807) (hbase : base = tb + 1) : RunsBy (N + 26) b g tb ab ag rb (Lay base rb) 29 #[looker ab h addr 2 rb] (nodeRs (cellOf x.fst x.l.length h) h) x := by
  intro w tv mv T m x' G H hf hl lay0 hap hlt
  have hnot : ∀ (x : Bool) (w : World), (Op.unary .not (.bool x)).run Try.prog w = .ok (.bool (!x)) w := fun _ _ => rfl
  show Calls Try.prog 29 #[looker ab h addr 2 rb, .pointer (some ⟨tb, 0, none⟩)] w _
  have HB : Hid (tb < w.heap.size) := Lib.hid H.st.st.tr.top.lt
  have HBA : Hid (base ≤ w.heap.size) := Lib.hid (by have := HB.out; omega)
  have HRQ : Hid (rb ≠ w.heap.size + 1) := Lib.hid (by omega)
  obtain ⟨s1, mo1, k0, k1⟩ := run_boxes (rb := rb) H h addr 2
  have LR : Hid (Beside w b g tb ab ag tv mv rb 35 nilR) := Lib.hid ⟨lay0, hap⟩
  obtain ⟨R, hR⟩ : ∃ R, WRan w b g tb ab ag tv mv (fun k => k = rb) (fun W' => Lay base rb (wplay (Sk.laid (nodeRs (cellOf x.fst x.l.length h) h)).toW T m).a W') (wplay (Sk.laid (nodeRs (cellOf x.fst x.l.length h) h)).toW T m) x' = R := ⟨_, rfl⟩
  rw [hR]
  have HR := Lib.hid hR
  have LR1 := Lib.hid (LR.out.moved mo1)
  have M1 := Lib.hid mo1
  have K0 := Lib.hid k0
  have K1 := Lib.hid k1
  have Q1 : Hid (w.heap.size ≤ w.heap.size + 1) := Lib.hid (by omega)
  have C := Lib.hid (node_c (n := N) h s1 hh)
  rw [hf, hl] at C
  clear s1 mo1 k0 k1 hR H lay0 hap hlt hf hl LR
  unfold looker nilR at *
  go_enter Try.func29, Try.ntmps29
  go_upto_region 2 with (fail)
  generalize (w.alloc (.cells #[.pointer (some ⟨ab, 0, none⟩), .int .i64 h, .int .i64 addr, .int .i64 2, .pointer (some ⟨rb, 0, none⟩)] 40)).alloc _ = wA at *
  generalize w.heap.size + 1 = q1 at *
  obtain ⟨q0, hq0⟩ : ∃ q0, w.heap.size = q0 := ⟨_, rfl⟩
  have HQ0 := Lib.hid hq0
  rw [hq0] at K0
  obtain ⟨a0, a1, a2, a3, a4⟩ := lk5 K0.out.here
  have hne : ¬ q0 = q1 := K0.out.here.apart K1.out.here (by decide)
  have HNE := Lib.hid hne
  go_wp2_with fail
  obtain ⟨O, hO⟩ : ∃ O, wend (nodeP (cellOf x.fst x.l.length h) h) T m x' = O := ⟨_, rfl⟩
  rw [hO] at C
  have E2 := Lib.hid hO
  clear hO
  obtain ⟨r, T2, m2, x2⟩ := O
  refine C.out.mono ?_
  rintro e w2 ⟨val, tv2, mv2, rfl, hA, s2, mo2⟩
  have HBB : Hid (base ≤ wA.heap.size) := Lib.hid (Nat.le_trans HBA.out M1.out.only.size)
  have S2 := Lib.hid s2
  have M2 := Lib.hid (M1.out.trans mo2)
  have K1b := Lib.hid (K1.out.moved mo2)
  have K0b := Lib.hid (K0.out.moved mo2)
  have LRb := Lib.hid (LR1.out.moved mo2)
  clear s2 mo2 C M1 K0 K1 LR1 a0 a1 a2 a3 a4
  match r, E2, hA with
  | none, E2, hA =>
    obtain rfl : val = .tuple #[nilN, .bool false] := hA
    unfold nilN
    have S2 := Lib.hid (S2.out.still (below_new _ (.cells #[.bool false, .int .i64 0, .slice none 0 0, .slice none 0 0, .slice none 0 0] 33)))
    have M2 := Lib.hid (M2.out.then_below (below_new _ (.cells #[.bool false, .int .i64 0, .slice none 0 0, .slice none 0 0, .slice none 0 0] 33)))
    have QN : Hid (w2.heap.size ≠ q1) := Lib.hid (fun h => absurd (Whole.lt K1b.out.here) (by omega))
    have QL := Lib.hid (K1b.out.here.lt)
    have K1b := Lib.hid (K1b.out.still (below_new _ (.cells #[.bool false, .int .i64 0, .slice none 0 0, .slice none 0 0, .slice none 0 0] 33)))
    have K0b := Lib.hid (K0b.out.still (below_new _ (.cells #[.bool false, .int .i64 0, .slice none 0 0, .slice none 0 0, .slice none 0 0] 33)))
    have LRb := Lib.hid (LRb.out.still (below_new _ (.cells #[.bool false, .int .i64 0, .slice none 0 0, .slice none 0 0, .slice none 0 0] 33)))
    have WN := Lib.hid (Whole.new w2 33 #[.bool false, .int .i64 0, .slice none 0 0, .slice none 0 0, .slice none 0 0])
    go_upto_region 12 with (fail)
    generalize hw4 : w2.alloc (.cells #[.bool false, .int .i64 0, .slice none 0 0, .slice none 0 0, .slice none 0 0] 33) = w4 at *
    generalize w2.heap.size = qa at *
    clear hw4 QL
    obtain ⟨b0, b1, b2, b3, b4⟩ := row5 WN.out
    have S3 := Lib.hid (S2.out.beside K1b.out.far (only14 w4 q1 (.int .i64 0) (.bool false) (.bool false) (.int .i64 0) (.int .i64 0) (.int .i64 0) (.bool false) (.int .i64 0) (.int .i64 0) (.bool false) (.int .i64 0) (.slice none 0 0) (.slice none 0 0) (.slice none 0 0)))
    have M3 := Lib.hid (M2.out.then_only Q1.out (only14 w4 q1 (.int .i64 0) (.bool false) (.bool false) (.int .i64 0) (.int .i64 0) (.int .i64 0) (.bool false) (.int .i64 0) (.int .i64 0) (.bool false) (.int .i64 0) (.slice none 0 0) (.slice none 0 0) (.slice none 0 0)))
    have K03 : Hid (Beside (set14 w4 q1 (.int .i64 0) (.bool false) (.bool false) (.int .i64 0) (.int .i64 0) (.int .i64 0) (.bool false) (.int .i64 0) (.int .i64 0) (.bool false) (.int .i64 0) (.slice none 0 0) (.slice none 0 0) (.slice none 0 0)) b g tb ab ag tv2 mv2 q0 40 _) := Lib.hid ⟨K0b.out.here.only (only14 w4 q1 (.int .i64 0) (.bool false) (.bool false) (.int .i64 0) (.int .i64 0) (.int .i64 0) (.bool false) (.int .i64 0) (.int .i64 0) (.bool false) (.int .i64 0) (.slice none 0 0) (.slice none 0 0) (.slice none 0 0)) HNE.out, K0b.out.far⟩
    have K13 : Hid (Beside (set14 w4 q1 (.int .i64 0) (.bool false) (.bool false) (.int .i64 0) (.int .i64 0) (.int .i64 0) (.bool false) (.int .i64 0) (.int .i64 0) (.bool false) (.int .i64 0) (.slice none 0 0) (.slice none 0 0) (.slice none 0 0)) b g tb ab ag tv2 mv2 q1 35 #[.int .i64 0, .bool false, .bool false, .int .i64 0, .int .i64 0, .int .i64 0, .bool false, .int .i64 0, .int .i64 0, .bool false, .int .i64 0, .slice none 0 0, .slice none 0 0, .slice none 0 0]) := Lib.hid ⟨put14 K1b.out.here .., K1b.out.far⟩
    have LR3 : Hid (Beside (set14 w4 q1 (.int .i64 0) (.bool false) (.bool false) (.int .i64 0) (.int .i64 0) (.int .i64 0) (.bool false) (.int .i64 0) (.int .i64 0) (.bool false) (.int .i64 0) (.slice none 0 0) (.slice none 0 0) (.slice none 0 0)) b g tb ab ag tv2 mv2 rb 35 _) := Lib.hid ⟨LRb.out.here.only (only14 w4 q1 (.int .i64 0) (.bool false) (.bool false) (.int .i64 0) (.int .i64 0) (.int .i64 0) (.bool false) (.int .i64 0) (.int .i64 0) (.bool false) (.int .i64 0) (.slice none 0 0) (.slice none 0 0) (.slice none 0 0)) HRQ.out, LRb.out.far⟩
    obtain ⟨z0, z1, z2, z3, z4, z5, z6, z7, z8, z9, z10, z11, z12, z13⟩ := row14 K1b.out.here
    obtain ⟨f0, f1, f2, f3, f4, f5, f6, f7, f8, f9, f10, f11, f12, f13⟩ := row14f K1b.out.here
    clear S2 M2 LRb K0b
    go_upto_region 13 with (fail)
    unfold set14 at S3 M3 K03 K13 LR3
    generalize World.setCell (World.setCell _ _ _) ⟨q1, 13, none⟩ _ = w3 at *
    clear K1b z0 z1 z2 z3 z4 z5 z6 z7 z8 z9 z10 z11 z12 z13 f0 f1 f2 f3 f4 f5 f6 f7 f8 f9 f10 f11 f12 f13
    have DR := Lib.hid (dry_c S3.out)
    obtain ⟨a0, a1, a2, a3, a4⟩ := lk5 K03.out.here
    obtain ⟨z0, z1, z2, z3, z4, z5, z6, z7, z8, z9, z10, z11, z12, z13⟩ := row14 K13.out.here
    obtain ⟨r0, r1, r2, r3, r4, r5, r6, r7, r8, r9, r10, r11, r12, r13⟩ := row14 LR3.out.here
    obtain ⟨f0, f1, f2, f3, f4, f5, f6, f7, f8, f9, f10, f11, f12, f13⟩ := row14f LR3.out.here
    cases hd : dry T2 with
    | true =>
      rw [hd] at DR
      have FX : Hid (R (.returned (.tuple #[])) w3) := Lib.hid (by rw [← HR.out]; exact run_dry (f := nodeR) E2.out hd S3.out M3.out LR3.out)
      clear HR S3 M3 K03 K13 LR3 E2
      go_wp2_with fail
      refine DR.out.mono ?_
      rintro e w9 ⟨rfl, rfl⟩
      go_wp2_with fail
      go_end0
      exact FX.out
    | false =>
      rw [hd] at DR
      have FX := Lib.hid (run_wet (base := base) (f := nodeR) E2.out hd S3.out M3.out LR3.out (mine_nil _))
      have FY : Hid (R (.returned (.tuple #[])) (set14 w3 rb (.int .i64 0) (.bool false) (.bool false) (.int .i64 0) (.int .i64 0) (.int .i64 0) (.bool false) (.int .i64 0) (.int .i64 0) (.bool false) (.int .i64 0) (.slice none 0 0) (.slice none 0 0) (.slice none 0 0))) := Lib.hid (by rw [← HR.out]; exact FX.out)
      clear HR S3 M3 K03 K13 LR3 E2 FX
      go_wp2_with fail
      refine DR.out.mono ?_
      rintro e w9 ⟨rfl, rfl⟩
      go_wp2_with fail
      go_end0
      exact FY.out
  | some nd, E2, hA =>
    obtain ⟨e1, e2, e3, rfl, hm⟩ := hA
    have hm := hm.base' HBB.out
    obtain ⟨A1, c1, rfl⟩ := own_slice hm.me
    obtain ⟨A2, c2, rfl⟩ := own_slice hm.ms
    obtain ⟨A3, c3, rfl⟩ := own_slice hm.mg
    have HM := Lib.hid (hm.still (below_new w2 (.cells #[.bool nd.inner, .int .i64 nd.lo, .slice A1 nd.ends.length c1, .slice A2 nd.slots.length c2, .slice A3 nd.gaps.length c3] 33)))
    clear hm
    unfold Nd.val
    have S2 := Lib.hid (S2.out.still (below_new _ (.cells #[.bool nd.inner, .int .i64 nd.lo, .slice A1 nd.ends.length c1, .slice A2 nd.slots.length c2, .slice A3 nd.gaps.length c3] 33)))
    have M2 := Lib.hid (M2.out.then_below (below_new _ (.cells #[.bool nd.inner, .int .i64 nd.lo, .slice A1 nd.ends.length c1, .slice A2 nd.slots.length c2, .slice A3 nd.gaps.length c3] 33)))
    have QN : Hid (w2.heap.size ≠ q1) := Lib.hid (fun h => absurd (Whole.lt K1b.out.here) (by omega))
    have QL := Lib.hid (K1b.out.here.lt)
    have K1b := Lib.hid (K1b.out.still (below_new _ (.cells #[.bool nd.inner, .int .i64 nd.lo, .slice A1 nd.ends.length c1, .slice A2 nd.slots.length c2, .slice A3 nd.gaps.length c3] 33)))
    have K0b := Lib.hid (K0b.out.still (below_new _ (.cells #[.bool nd.inner, .int .i64 nd.lo, .slice A1 nd.ends.length c1, .slice A2 nd.slots.length c2, .slice A3 nd.gaps.length c3] 33)))
    have LRb := Lib.hid (LRb.out.still (below_new _ (.cells #[.bool nd.inner, .int .i64 nd.lo, .slice A1 nd.ends.length c1, .slice A2 nd.slots.length c2, .slice A3 nd.gaps.length c3] 33)))
    have WN := Lib.hid (Whole.new w2 33 #[.bool nd.inner, .int .i64 nd.lo, .slice A1 nd.ends.length c1, .slice A2 nd.slots.length c2, .slice A3 nd.gaps.length c3])
    go_upto_region 12 with (fail)
    generalize hw4 : w2.alloc (.cells #[.bool nd.inner, .int .i64 nd.lo, .slice A1 nd.ends.length c1, .slice A2 nd.slots.length c2, .slice A3 nd.gaps.length c3] 33) = w4 at *
    generalize w2.heap.size = qa at *
    clear hw4 QL
    obtain ⟨b0, b1, b2, b3, b4⟩ := row5 WN.out
    have S3 := Lib.hid (S2.out.beside K1b.out.far (only14 w4 q1 (.int .i64 0) (.bool false) (.bool true) (.int .i64 0) (.int .i64 0) (.int .i64 0) (.bool false) (.int .i64 0) (.int .i64 0) (.bool nd.inner) (.int .i64 nd.lo) (.slice A1 nd.ends.length c1) (.slice A2 nd.slots.length c2) (.slice A3 nd.gaps.length c3)))
    have M3 := Lib.hid (M2.out.then_only Q1.out (only14 w4 q1 (.int .i64 0) (.bool false) (.bool true) (.int .i64 0) (.int .i64 0) (.int .i64 0) (.bool false) (.int .i64 0) (.int .i64 0) (.bool nd.inner) (.int .i64 nd.lo) (.slice A1 nd.ends.length c1) (.slice A2 nd.slots.length c2) (.slice A3 nd.gaps.length c3)))
    have K03 : Hid (Beside (set14 w4 q1 (.int .i64 0) (.bool false) (.bool true) (.int .i64 0) (.int .i64 0) (.int .i64 0) (.bool false) (.int .i64 0) (.int .i64 0) (.bool nd.inner) (.int .i64 nd.lo) (.slice A1 nd.ends.length c1) (.slice A2 nd.slots.length c2) (.slice A3 nd.gaps.length c3)) b g tb ab ag tv2 mv2 q0 40 _) := Lib.hid ⟨K0b.out.here.only (only14 w4 q1 (.int .i64 0) (.bool false) (.bool true) (.int .i64 0) (.int .i64 0) (.int .i64 0) (.bool false) (.int .i64 0) (.int .i64 0) (.bool nd.inner) (.int .i64 nd.lo) (.slice A1 nd.ends.length c1) (.slice A2 nd.slots.length c2) (.slice A3 nd.gaps.length c3)) HNE.out, K0b.out.far⟩
    have K13 : Hid (Beside (set14 w4 q1 (.int .i64 0) (.bool false) (.bool true) (.int .i64 0) (.int .i64 0) (.int .i64 0) (.bool false) (.int .i64 0) (.int .i64 0) (.bool nd.inner) (.int .i64 nd.lo) (.slice A1 nd.ends.length c1) (.slice A2 nd.slots.length c2) (.slice A3 nd.gaps.length c3)) b g tb ab ag tv2 mv2 q1 35 #[.int .i64 0, .bool false, .bool true, .int .i64 0, .int .i64 0, .int .i64 0, .bool false, .int .i64 0, .int .i64 0, .bool nd.inner, .int .i64 nd.lo, .slice A1 nd.ends.length c1, .slice A2 nd.slots.length c2, .slice A3 nd.gaps.length c3]) := Lib.hid ⟨put14 K1b.out.here .., K1b.out.far⟩
    have LR3 : Hid (Beside (set14 w4 q1 (.int .i64 0) (.bool false) (.bool true) (.int .i64 0) (.int .i64 0) (.int .i64 0) (.bool false) (.int .i64 0) (.int .i64 0) (.bool nd.inner) (.int .i64 nd.lo) (.slice A1 nd.ends.length c1) (.slice A2 nd.slots.length c2) (.slice A3 nd.gaps.length c3)) b g tb ab ag tv2 mv2 rb 35 _) := Lib.hid ⟨LRb.out.here.only (only14 w4 q1 (.int .i64 0) (.bool false) (.bool true) (.int .i64 0) (.int .i64 0) (.int .i64 0) (.bool false) (.int .i64 0) (.int .i64 0) (.bool nd.inner) (.int .i64 nd.lo) (.slice A1 nd.ends.length c1) (.slice A2 nd.slots.length c2) (.slice A3 nd.gaps.length c3)) HRQ.out, LRb.out.far⟩
    have HM3 : Hid (NdMine base (set14 w4 q1 (.int .i64 0) (.bool false) (.bool true) (.int .i64 0) (.int .i64 0) (.int .i64 0) (.bool false) (.int .i64 0) (.int .i64 0) (.bool nd.inner) (.int .i64 nd.lo) (.slice A1 nd.ends.length c1) (.slice A2 nd.slots.length c2) (.slice A3 nd.gaps.length c3)) nd (.slice A1 nd.ends.length c1) (.slice A2 nd.slots.length c2) (.slice A3 nd.gaps.length c3)) := Lib.hid (mine_only HM.out K1b.out.here (only14 w4 q1 (.int .i64 0) (.bool false) (.bool true) (.int .i64 0) (.int .i64 0) (.int .i64 0) (.bool false) (.int .i64 0) (.int .i64 0) (.bool nd.inner) (.int .i64 nd.lo) (.slice A1 nd.ends.length c1) (.slice A2 nd.slots.length c2) (.slice A3 nd.gaps.length c3)))
    clear HM
    obtain ⟨z0, z1, z2, z3, z4, z5, z6, z7, z8, z9, z10, z11, z12, z13⟩ := row14 K1b.out.here
    obtain ⟨f0, f1, f2, f3, f4, f5, f6, f7, f8, f9, f10, f11, f12, f13⟩ := row14f K1b.out.here
    clear S2 M2 LRb K0b
    go_upto_region 13 with (fail)
    unfold set14 at S3 M3 K03 K13 LR3 HM3
    generalize World.setCell (World.setCell _ _ _) ⟨q1, 13, none⟩ _ = w3 at *
    clear K1b z0 z1 z2 z3 z4 z5 z6 z7 z8 z9 z10 z11 z12 z13 f0 f1 f2 f3 f4 f5 f6 f7 f8 f9 f10 f11 f12 f13
    have DR := Lib.hid (dry_c S3.out)
    obtain ⟨a0, a1, a2, a3, a4⟩ := lk5 K03.out.here
    obtain ⟨z0, z1, z2, z3, z4, z5, z6, z7, z8, z9, z10, z11, z12, z13⟩ := row14 K13.out.here
    obtain ⟨r0, r1, r2, r3, r4, r5, r6, r7, r8, r9, r10, r11, r12, r13⟩ := row14 LR3.out.here
    obtain ⟨f0, f1, f2, f3, f4, f5, f6, f7, f8, f9, f10, f11, f12, f13⟩ := row14f LR3.out.here
    cases hd : dry T2 with
    | true =>
      rw [hd] at DR
      have FX : Hid (R (.returned (.tuple #[])) w3) := Lib.hid (by rw [← HR.out]; exact run_dry (f := nodeR) E2.out hd S3.out M3.out LR3.out)
      clear HR S3 M3 K03 K13 LR3 E2
      go_wp2_with fail
      refine DR.out.mono ?_
      rintro e w9 ⟨rfl, rfl⟩
      go_wp2_with fail
      go_end0
      exact FX.out
    | false =>
      rw [hd] at DR
      have FX := Lib.hid (run_wet (base := base) (f := nodeR) E2.out hd S3.out M3.out LR3.out (HM3.out))
      have FY : Hid (R (.returned (.tuple #[])) (set14 w3 rb (.int .i64 0) (.bool false) (.bool true) (.int .i64 0) (.int .i64 0) (.int .i64 0) (.bool false) (.int .i64 0) (.int .i64 0) (.bool nd.inner) (.int .i64 nd.lo) (.slice A1 nd.ends.length c1) (.slice A2 nd.slots.length c2) (.slice A3 nd.gaps.length c3))) := Lib.hid (by rw [← HR.out]; exact FX.out)
      clear HR S3 M3 K03 K13 LR3 E2 FX
      go_wp2_with fail
      refine DR.out.mono ?_
      rintro e w9 ⟨rfl, rfl⟩
      go_wp2_with fail
      go_end0
      exact FY.out

end
end Go.Proofs.Ytiiclmaphiajmaa
