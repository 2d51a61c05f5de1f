/-
  Layer 6: areas that go on in others, joins and parts: a contract for each call.
-/
import Derived.Test.YtmppodobgkhojaaAreaDo
namespace Go.Proofs.Ytmppodobgkhojaa
open Go.ChangeShapes Go.WideShapes Go.ChangeAt Go.RowKit
set_option linter.unusedVariables false

/-- Whether an area goes on in another one. -/
structure GoesA (a b : Ar) : Prop where
  fa : Formed a
  fb : Formed b
  at' : a.e = b.s
  p : a.p = b.p
  sh : a.sh = b.sh
  bk : a.bk = b.bk
  off : a.bk ≠ 0 → b.off = a.off + (a.e - a.s)
instance (a b : Ar) : Decidable (GoesA a b) := decidable_of_iff (Formed a ∧ Formed b ∧ a.e = b.s ∧ a.p = b.p ∧ a.sh = b.sh ∧ a.bk = b.bk ∧ (a.bk ≠ 0 → b.off = a.off + (a.e - a.s))) ⟨fun ⟨a, b, c, d, e, f, g⟩ => ⟨a, b, c, d, e, f, g⟩, fun ⟨a, b, c, d, e, f, g⟩ => ⟨a, b, c, d, e, f, g⟩⟩

/-- The second of two variables, where it is an area too. -/
theorem Two.snd {w w' : World} {q : Nat} {a b : Ar} (h : Two w w' q a 35 b.cells) : ArIn w' (q + 1) b := h.res
theorem Two.end {w w' : World} {q : Nat} {a : Ar} {t : TypeId} {cs : Array Value} (h : Two w w' q a t cs) (x : Int) : Two w (w'.setCell ⟨q, 1, none⟩ (.int .i64 x)) q { a with e := x } t cs :=
  ⟨Whole.put h.var 1 _, Whole.far h.res (by simp) _, h.bel.setCell (Nat.le_refl _) _⟩

set_option maxHeartbeats 1000000 in
theorem goes_any (a b : Ar) : Says 37 #[a.v, b.v] (.bool (decide (GoesA a b))) := by
  intro w
  have HR := Lib.hid (tells_it (GoesA a b))
  generalize decide (GoesA a b) = r at *
  have A0 := Lib.hid (Two.new w a 35 b.cells)
  have X := Lib.hid (formed_any a)
  by_cases hp : Formed a
  · rw [show decide (Formed a) = true from decide_eq_true hp] at X
    have Y := Lib.hid (formed_any b)
    by_cases hb : Formed b
    · rw [show decide (Formed b) = true from decide_eq_true hb] at Y
      have h1 := hp.off0
      have h2 := hp.placed.lo
      have h3 := hp.placed.hi
      have h4 := hp.placed.some
      have F := Lib.hid (from_any a a.e (by omega) (by omega) (by omega) (by omega) (by omega) (by omega))
      have HP := Lib.hid hp
      have HB := Lib.hid hb
      clear hp hb h1 h2 h3 h4
      generalize hF : a.from a.e = f at *
      have HF := Lib.hid hF
      clear hF
      obtain ⟨s, t, p, sh, bk, off⟩ := a
      obtain ⟨s1, t1, p1, sh1, bk1, off1⟩ := b
      obtain ⟨s', t', p', sh', bk', off'⟩ := f
      unfold Ar.v Ar.cells at *
      go_enter Try.func37, Try.ntmps37
      go_upto_region 1 with (fail)
      simp only at A0
      generalize (w.alloc _).alloc _ = w0 at *
      generalize hq : w.heap.size = q at *
      have HQ := Lib.hid hq
      clear hq
      obtain ⟨c0, c1, c2, c3, c4, c5⟩ := A0.out.var.cs
      go_wp2_with fail
      refine (X.out _).mono ?_
      rintro e w1 ⟨rfl, hb1⟩
      have A1 := Lib.hid (A0.out.still hb1)
      clear c0 c1 c2 c3 c4 c5 hb1 A0
      obtain ⟨c0, c1, c2, c3, c4, c5⟩ := (Two.snd (b := ⟨s1, t1, p1, sh1, bk1, off1⟩) A1.out).cs
      go_wp2_with fail
      refine (Y.out _).mono ?_
      rintro e w2 ⟨rfl, hb1⟩
      have A2 := Lib.hid (A1.out.still hb1)
      clear c0 c1 c2 c3 c4 c5 hb1 A1
      obtain ⟨c0, c1, c2, c3, c4, c5⟩ := A2.out.var.cs
      go_wp2_with fail
      refine (F.out _).mono ?_
      rintro e w3 ⟨rfl, hb1⟩
      have A3 := Lib.hid (A2.out.still hb1)
      clear c0 c1 c2 c3 c4 c5 hb1 A2
      obtain ⟨c0, c1, c2, c3, c4, c5⟩ := A3.out.var.cs
      have f0 := A3.out.var.fr 0; have f1 := A3.out.var.fr 1; have f2 := A3.out.var.fr 2; have f3 := A3.out.var.fr 3; have f4 := A3.out.var.fr 4; have f5 := A3.out.var.fr 5
      go_upto_region 4 with (fail)
      have A4 := Lib.hid (A3.out.put ⟨s', t', p', sh', bk', off'⟩)
      simp only at A4
      clear c0 c1 c2 c3 c4 c5 f0 f1 f2 f3 f4 f5 A3
      generalize World.setCell _ _ _ = w4 at *
      obtain ⟨c0, c1, c2, c3, c4, c5⟩ := A4.out.var.cs
      obtain ⟨d0, d1, d2, d3, d4, d5⟩ := (Two.snd (b := ⟨s1, t1, p1, sh1, bk1, off1⟩) A4.out).cs
      have f1 := A4.out.var.fr 1
      go_wp2_with fail
      all_goals
        go_ret
        have hf := HF.out
        simp only [Ar.from, Ar.mk.injEq] at hf
        obtain ⟨rfl, -, rfl, rfl, rfl, hf⟩ := hf
        refine ⟨says_bool (HR.out.is ⟨fun h => ?_, fun h => ?_⟩), ?_⟩
        · simp at h
          try (refine ⟨HP.out, HB.out, ?_, ?_, ?_, ?_, ?_⟩ <;> simp only <;> first | assumption | (symm; assumption) | (intro h9; rw [if_neg h9] at hf; omega))
        · obtain ⟨h1, h2, h3, h4, h5, h6, h7⟩ := h
          have h8 := h1.backed.none
          have h9 := h2.backed.none
          simp only at h3 h4 h5 h6 h7 h8 h9
          simp
          all_goals first
            | exact absurd h3 (by assumption)
            | exact absurd h4 (by assumption)
            | exact absurd h5 (by assumption)
            | exact absurd h6 (by assumption)
            | (by_cases h0 : bk = 0
               · rw [if_pos h0] at hf
                 have k1 := h8 h0
                 have k2 := h9 (h6 ▸ h0)
                 omega
               · rw [if_neg h0] at hf
                 have := h7 h0
                 omega)
        · rw [HQ.out]
          exact A4.out.bel.setCell (Nat.le_refl _) _
    · rw [show decide (Formed b) = false from decide_eq_false hb] at Y
      have HN : Hid (¬ GoesA a b) := fun h => hb h.fb
      clear hp hb
      obtain ⟨s, t, p, sh, bk, off⟩ := a
      obtain ⟨s1, t1, p1, sh1, bk1, off1⟩ := b
      unfold Ar.v Ar.cells at *
      go_enter Try.func37, Try.ntmps37
      go_upto_region 1 with (fail)
      simp only at A0
      generalize (w.alloc _).alloc _ = w0 at *
      generalize hq : w.heap.size = q at *
      have HQ := Lib.hid hq
      clear hq
      obtain ⟨c0, c1, c2, c3, c4, c5⟩ := A0.out.var.cs
      go_wp2_with fail
      refine (X.out _).mono ?_
      rintro e w1 ⟨rfl, hb1⟩
      have A1 := Lib.hid (A0.out.still hb1)
      clear c0 c1 c2 c3 c4 c5 hb1 A0
      obtain ⟨c0, c1, c2, c3, c4, c5⟩ := (Two.snd (b := ⟨s1, t1, p1, sh1, bk1, off1⟩) A1.out).cs
      go_wp2_with fail
      refine (Y.out _).mono ?_
      rintro e w2 ⟨rfl, hb1⟩
      have A2 := Lib.hid (A1.out.still hb1)
      clear c0 c1 c2 c3 c4 c5 hb1 A1
      go_wp2_with fail
      go_ret
      exact ⟨says_bool (HR.out.no HN.out).symm, by rw [HQ.out]; exact A2.out.bel⟩
  · rw [show decide (Formed a) = false from decide_eq_false hp] at X
    have HN : Hid (¬ GoesA a b) := fun h => hp h.fa
    clear hp
    obtain ⟨s, t, p, sh, bk, off⟩ := a
    obtain ⟨s1, t1, p1, sh1, bk1, off1⟩ := b
    unfold Ar.v Ar.cells at *
    go_enter Try.func37, Try.ntmps37
    go_upto_region 1 with (fail)
    simp only at A0
    generalize (w.alloc _).alloc _ = w0 at *
    generalize hq : w.heap.size = q at *
    have HQ := Lib.hid hq
    clear hq
    obtain ⟨c0, c1, c2, c3, c4, c5⟩ := A0.out.var.cs
    go_wp2_with fail
    refine (X.out _).mono ?_
    rintro e w1 ⟨rfl, hb1⟩
    have A1 := Lib.hid (A0.out.still hb1)
    clear c0 c1 c2 c3 c4 c5 hb1 A0
    go_wp2_with fail
    go_ret
    exact ⟨says_bool (HR.out.no HN.out).symm, by rw [HQ.out]; exact A1.out.bel⟩

/-- Three variables of a call: the two that it was handed, and what it will answer. -/
structure Three (w w' : World) (q : Nat) (a b : Ar) (cs : Array Value) : Prop where
  var : ArIn w' q a
  snd : ArIn w' (q + 1) b
  res : Whole w' (q + 2) 35 cs
  bel : Below q w w'
theorem Three.new (w : World) (a b : Ar) (cs : Array Value) : Three w (((w.alloc (.cells a.cells 35)).alloc (.cells b.cells 35)).alloc (.cells cs 35)) w.heap.size a b cs := by
  have h := Two.new w a 35 b.cells
  refine ⟨h.var.alloc _, h.res.alloc _, ?_, h.bel.alloc (by simp; omega) _⟩
  have := Whole.new ((w.alloc (.cells a.cells 35)).alloc (.cells b.cells 35)) 35 cs
  simpa using this
section
variable {w w' w'' : World} {q : Nat} {a b : Ar} {cs : Array Value}
theorem Three.lt (h : Three w w' q a b cs) : q + 2 < w'.heap.size := h.res.lt
theorem Three.still (h : Three w w' q a b cs) (hb : Below w'.heap.size w' w'') : Three w w'' q a b cs :=
  ⟨h.var.still hb (by have := h.lt; omega), h.snd.still hb (by have := h.lt; omega), h.res.below hb h.lt, h.bel.trans (hb.mono (by have := h.lt; omega))⟩
theorem Three.end (h : Three w w' q a b cs) (x : Int) : Three w (w'.setCell ⟨q, 1, none⟩ (.int .i64 x)) q { a with e := x } b cs :=
  ⟨Whole.put h.var 1 _, Whole.far h.snd (by simp) _, Whole.far h.res (by simp) _, h.bel.setCell (Nat.le_refl _) _⟩
end
/-- The six cells of a variable. -/
theorem put6 {w : World} {q : Nat} {t : TypeId} {a b c d e f : Value} (h : Whole w q t #[a, b, c, d, e, f]) (a' b' c' d' e' f' : Value) :
    Whole ((((((w.setCell ⟨q, 0, none⟩ a').setCell ⟨q, 1, none⟩ b').setCell ⟨q, 2, none⟩ c').setCell ⟨q, 3, none⟩ d').setCell ⟨q, 4, none⟩ e').setCell ⟨q, 5, none⟩ f') q t #[a', b', c', d', e', f'] :=
  (((((Whole.put h 0 _).put 1 _).put 2 _).put 3 _).put 4 _).put 5 _
theorem cs6 {w : World} {q : Nat} {t : TypeId} {a b c d e f : Value} (h : Whole w q t #[a, b, c, d, e, f]) : w.cell? ⟨q, 0, none⟩ = some a ∧ w.cell? ⟨q, 1, none⟩ = some b ∧ w.cell? ⟨q, 2, none⟩ = some c ∧ w.cell? ⟨q, 3, none⟩ = some d ∧ w.cell? ⟨q, 4, none⟩ = some e ∧ w.cell? ⟨q, 5, none⟩ = some f ∧
    w.frozen? ⟨q, 0, none⟩ = false ∧ w.frozen? ⟨q, 1, none⟩ = false ∧ w.frozen? ⟨q, 2, none⟩ = false ∧ w.frozen? ⟨q, 3, none⟩ = false ∧ w.frozen? ⟨q, 4, none⟩ = false ∧ w.frozen? ⟨q, 5, none⟩ = false :=
  ⟨h.cell 0, h.cell 1, h.cell 2, h.cell 3, h.cell 4, h.cell 5, h.frozen 0, h.frozen 1, h.frozen 2, h.frozen 3, h.frozen 4, h.frozen 5⟩
theorem below6 {B : Nat} {w w' : World} {q : Nat} (h : Below B w w') (hq : B ≤ q) (a' b' c' d' e' f' : Value) :
    Below B w ((((((w'.setCell ⟨q, 0, none⟩ a').setCell ⟨q, 1, none⟩ b').setCell ⟨q, 2, none⟩ c').setCell ⟨q, 3, none⟩ d').setCell ⟨q, 4, none⟩ e').setCell ⟨q, 5, none⟩ f') :=
  (((((h.setCell hq _).setCell hq _).setCell hq _).setCell hq _).setCell hq _).setCell hq _

end Go.Proofs.Ytmppodobgkhojaa
