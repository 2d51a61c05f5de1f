/-
  Layer 3: the reference's thread in memory.
-/
import Derived.Test.YtodclnfhhaiblaaTrailFew
import Derived.Test.YtodclnfhhaiblaaCellRef
namespace Go.Proofs.Ytodclnfhhaiblaa
open Go.ChangeShapes Go.WideShapes Go.ChangeAt Go.RowKit
set_option linter.unusedVariables false

/-- Where a program is. -/
structure Th where
  a : Nat
  t : Nat
  s : Int
  mks : List (Int × Int)

/-- A thread's four cells. -/
def put4 (cs : Array Value) (o a t : Nat) (s : Int) (mv : Value) : Array Value :=
  (((cs.setIfInBounds o (.int .i64 a)).setIfInBounds (o + 1) (.int .i64 t)).setIfInBounds (o + 2) (.int .i64 s)).setIfInBounds (o + 3) mv

section
variable {cs : Array Value} {o a t : Nat} {s : Int} {mv : Value}
theorem put4_size : (put4 cs o a t s mv).size = cs.size := by simp [put4]
theorem put4_get (i : Nat) (h : o + 4 ≤ cs.size) : (put4 cs o a t s mv)[i]? = if i = o then some (.int .i64 a) else if i = o + 1 then some (.int .i64 t) else if i = o + 2 then some (.int .i64 s) else if i = o + 3 then some mv else cs[i]? := by
  unfold put4
  by_cases h0 : i = o
  · subst h0
    rw [Array.getElem?_setIfInBounds_ne (by omega), Array.getElem?_setIfInBounds_ne (by omega), Array.getElem?_setIfInBounds_ne (by omega), Array.getElem?_setIfInBounds_self_of_lt (by omega)]
    simp
  · by_cases h1 : i = o + 1
    · subst h1
      rw [Array.getElem?_setIfInBounds_ne (by omega), Array.getElem?_setIfInBounds_ne (by omega), Array.getElem?_setIfInBounds_self_of_lt (by simp; omega)]
      simp
    · by_cases h2 : i = o + 2
      · subst h2
        rw [Array.getElem?_setIfInBounds_ne (by omega), Array.getElem?_setIfInBounds_self_of_lt (by simp; omega)]
        simp
      · by_cases h3 : i = o + 3
        · subst h3
          rw [Array.getElem?_setIfInBounds_self_of_lt (by simp; omega)]
          simp
        · rw [Array.getElem?_setIfInBounds_ne (by omega), Array.getElem?_setIfInBounds_ne (by omega), Array.getElem?_setIfInBounds_ne (by omega), Array.getElem?_setIfInBounds_ne (by omega)]
          simp [h0, h1, h2, h3]
theorem put4_set (h : o + 4 ≤ cs.size) (j : Nat) (u : Value) {a' t' : Nat} {s' : Int} {mv' : Value}
    (hs : (j = o ∧ u = .int .i64 a' ∧ t' = t ∧ s' = s ∧ mv' = mv) ∨ (j = o + 1 ∧ a' = a ∧ u = .int .i64 t' ∧ s' = s ∧ mv' = mv) ∨ (j = o + 2 ∧ a' = a ∧ t' = t ∧ u = .int .i64 s' ∧ mv' = mv) ∨ (j = o + 3 ∧ a' = a ∧ t' = t ∧ s' = s ∧ u = mv')) :
    (put4 cs o a t s mv).setIfInBounds j u = put4 cs o a' t' s' mv' := by
  apply Array.ext_getElem?
  intro i
  rw [put4_get i h, Array.getElem?_setIfInBounds, put4_get i h, put4_size]
  rcases hs with ⟨h0, h1, h2, h3, h4⟩ | ⟨h0, h1, h2, h3, h4⟩ | ⟨h0, h1, h2, h3, h4⟩ | ⟨h0, h1, h2, h3, h4⟩
  all_goals
    simp only [h0, h1, h2, h3, h4]
    by_cases hj : i = o
    · subst hj; simp; try omega
    · by_cases hj1 : i = o + 1
      · subst hj1; simp; try omega
      · by_cases hj2 : i = o + 2
        · subst hj2; simp; try omega
        · by_cases hj3 : i = o + 3
          · subst hj3; simp; try omega
          · simp [hj, hj1, hj2, hj3, Ne.symm hj, Ne.symm hj1, Ne.symm hj2, Ne.symm hj3]
end

/-- A thread at place o of block hb. -/
structure ThAt (w : World) (hb o : Nat) (cs : Array Value) (mv : Value) (h : Th) : Prop where
  whole : Whole w hb 43 (put4 cs o h.a h.t h.s mv)
  fit : o + 4 ≤ cs.size
  own : w.ownsRow 0 84 2 mv h.mks.length (markCells h.mks)

/-- The blocks of a thread and of the reference's memory. -/
def Tset (hb : Nat) (mv : Value) (rb : Nat) (A : Option Addr) (k : Nat) : Prop := k = hb ∨ mv.ownBlock = some k ∨ Ref rb A k
structure ThMoved (w : World) (hb : Nat) (mv : Value) (rb : Nat) (A : Option Addr) (w' : World) (mv' : Value) : Prop where
  only : Only (Tset hb mv rb A) w w'
  m : ∀ k, mv'.ownBlock = some k → mv.ownBlock = some k ∨ w.heap.size ≤ k
/-- A thread and the reference's memory. -/
structure ThSys (w : World) (hb o : Nat) (cs : Array Value) (mv : Value) (h : Th) (rb base : Nat) (A : Option Addr) (c : Nat) (m : Mm) : Prop where
  th : ThAt w hb o cs mv h
  ref : RefAt w rb base A c m.cs m.cnt

section
variable {w w' w'' : World} {hb o : Nat} {cs : Array Value} {mv mv' mv'' : Value} {h h' : Th} {rb base : Nat} {A : Option Addr} {c : Nat} {m m' : Mm}

theorem ThAt.c0 (H : ThAt w hb o cs mv h) : w.cell? ⟨hb, o, none⟩ = some (.int .i64 h.a) := by rw [H.whole.cell, put4_get _ H.fit]; simp
theorem ThAt.c1 (H : ThAt w hb o cs mv h) : w.cell? ⟨hb, o + 1, none⟩ = some (.int .i64 h.t) := by rw [H.whole.cell, put4_get _ H.fit]; simp
theorem ThAt.c2 (H : ThAt w hb o cs mv h) : w.cell? ⟨hb, o + 2, none⟩ = some (.int .i64 h.s) := by rw [H.whole.cell, put4_get _ H.fit]; simp
theorem ThAt.c3 (H : ThAt w hb o cs mv h) : w.cell? ⟨hb, o + 3, none⟩ = some mv := by rw [H.whole.cell, put4_get _ H.fit]; simp
theorem ThAt.f (H : ThAt w hb o cs mv h) (i : Nat) : w.frozen? ⟨hb, i, none⟩ = false := H.whole.frozen i
theorem ThAt.nm (H : ThAt w hb o cs mv h) : mv.ownBlock ≠ some hb := own_apart H.own H.whole (by decide)
theorem ThAt.only {S : Nat → Prop} (H : ThAt w hb o cs mv h) (ho : Only S w w') (h1 : ¬ S hb) (h2 : ∀ k, mv.ownBlock = some k → ¬ S k) : ThAt w' hb o cs mv h :=
  ⟨H.whole.only ho h1, H.fit, own_only H.own ho h2⟩
theorem ThAt.put (H : ThAt w hb o cs mv h) (j : Nat) (u : Value) (h' : Th) (hm : h'.mks = h.mks)
    (hs : (j = o ∧ u = .int .i64 h'.a ∧ h'.t = h.t ∧ h'.s = h.s) ∨ (j = o + 1 ∧ h'.a = h.a ∧ u = .int .i64 h'.t ∧ h'.s = h.s) ∨ (j = o + 2 ∧ h'.a = h.a ∧ h'.t = h.t ∧ u = .int .i64 h'.s)) :
    ThAt (w.setCell ⟨hb, j, none⟩ u) hb o cs mv h' := by
  refine ⟨?_, H.fit, ?_⟩
  · have := H.whole.put j u
    rw [put4_set (a' := h'.a) (t' := h'.t) (s' := h'.s) (mv' := mv) H.fit j u] at this
    · exact this
    · rcases hs with ⟨a, b, c, d⟩ | ⟨a, b, c, d⟩ | ⟨a, b, c, d⟩
      · exact .inl ⟨a, b, c, d, rfl⟩
      · exact .inr (.inl ⟨a, b, c, d, rfl⟩)
      · exact .inr (.inr (.inl ⟨a, b, c, d, rfl⟩))
  · rw [hm]; exact own_far H.own H.nm u

theorem ThMoved.refl (w : World) (hb : Nat) (mv : Value) (rb : Nat) (A : Option Addr) : ThMoved w hb mv rb A w mv := ⟨Only.refl _ _, fun _ h => .inl h⟩
theorem ThMoved.still (h : Below w.heap.size w w') (hb : Nat) (mv : Value) (rb : Nat) (A : Option Addr) : ThMoved w hb mv rb A w' mv := ⟨Only.of_below h _, fun _ h => .inl h⟩
theorem ThMoved.put (w : World) (hb : Nat) (mv : Value) (rb : Nat) (A : Option Addr) (i : Nat) (u : Value) : ThMoved w hb mv rb A (w.setCell ⟨hb, i, none⟩ u) mv := ⟨(Only.refl _ _).setCell (p := ⟨hb, i, none⟩) (.inl (.inl rfl)) _, fun _ h => .inl h⟩
theorem ThMoved.all (H : ThMoved w hb mv rb A w' mv') {k : Nat} (hk : k < w.heap.size) (ha : Tset hb mv' rb A k) : Tset hb mv rb A k := by
  rcases ha with h1 | h1 | h1
  · exact .inl h1
  · rcases H.m k h1 with h2 | h2
    · exact .inr (.inl h2)
    · omega
  · exact .inr (.inr h1)
theorem ThMoved.trans (H : ThMoved w hb mv rb A w' mv') (K : ThMoved w' hb mv' rb A w'' mv'') : ThMoved w hb mv rb A w'' mv'' := by
  refine ⟨⟨K.only.os.trans H.only.os, K.only.tape.trans H.only.tape, K.only.output.trans H.only.output, Nat.le_trans H.only.size K.only.size, fun i hi hn => ?_⟩, fun j hj => ?_⟩
  · exact (K.only.block i (Nat.lt_of_lt_of_le hi H.only.size) (fun ha => hn (H.all hi ha))).trans (H.only.block i hi hn)
  · exact (K.m j hj).elim (H.m j) (fun h1 => .inr (Nat.le_trans H.only.size h1))

theorem ThSys.still (H : ThSys w hb o cs mv h rb base A c m) (hbw : Below w.heap.size w w') : ThSys w' hb o cs mv h rb base A c m :=
  ⟨H.th.only (Only.of_below hbw (fun _ => False)) id (fun _ _ => id), H.ref.only (Only.of_below hbw (fun _ => False)) (fun _ _ => id)⟩
theorem ThSys.put (H : ThSys w hb o cs mv h rb base A c m) (j : Nat) (u : Value) (h' : Th) (hm : h'.mks = h.mks)
    (hs : (j = o ∧ u = .int .i64 h'.a ∧ h'.t = h.t ∧ h'.s = h.s) ∨ (j = o + 1 ∧ h'.a = h.a ∧ u = .int .i64 h'.t ∧ h'.s = h.s) ∨ (j = o + 2 ∧ h'.a = h.a ∧ h'.t = h.t ∧ u = .int .i64 h'.s)) :
    ThSys (w.setCell ⟨hb, j, none⟩ u) hb o cs mv h' rb base A c m := by
  refine ⟨H.th.put j u h' hm hs, H.ref.only (S := fun k => k = hb) ((Only.refl (fun k => k = hb) w).setCell (p := ⟨hb, j, none⟩) (.inl rfl) u) (fun k hk he => ?_)⟩
  subst he
  rcases hk with hk | ⟨x, hA, hk⟩
  · exact H.th.whole.apart H.ref.top (by decide) hk
  · refine own_apart H.ref.own H.th.whole (by decide) ?_
    rw [hA]; simp [Value.ownBlock, hk]
/-- Behind an access of the reference's memory. -/
theorem ThSys.did (H : ThSys w hb o cs mv h rb base A c m) (hr : RefAt w' rb base A c m'.cs m'.cnt) (ho : Only (Ref rb A) w w') : ThSys w' hb o cs mv h rb base A c m' ∧ ThMoved w hb mv rb A w' mv := by
  refine ⟨⟨H.th.only ho ?_ ?_, hr⟩, ⟨ho.mono (fun k _ hk => .inr (.inr hk)), fun _ h => .inl h⟩⟩
  · rintro (hk | ⟨x, hA, hk⟩)
    · exact H.th.whole.apart H.ref.top (by decide) hk
    · refine own_apart H.ref.own H.th.whole (by decide) ?_
      rw [hA]; simp [Value.ownBlock, hk]
  · rintro k hm (hk | ⟨x, hA, hk⟩)
    · exact own_apart H.th.own H.ref.top (by decide) (hk ▸ hm)
    · refine own_rows H.th.own H.ref.own (by decide) k hm ?_
      rw [hA]; simp [Value.ownBlock, hk]
end
end Go.Proofs.Ytodclnfhhaiblaa
