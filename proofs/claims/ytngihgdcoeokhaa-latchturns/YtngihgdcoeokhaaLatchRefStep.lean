/-
  Layer 5: the reference's step, as a call.
-/
import Derived.Test.YtngihgdcoeokhaaLatchSys
import Derived.BigRegion
namespace Go.Proofs.Ytngihgdcoeokhaa
open Go.ChangeShapes Go.WideShapes Go.ChangeAt Go.RowKit
set_option linter.unusedVariables false

/-- The reference's thread at o of the row in hb, its latch and its number; and what was there at first. -/
structure Rt5 (w0 : World) (cs0 : Array Value) (hb o lb nb : Nat) (x : Th) (B : Bd) (cs : Array Value) (w : World) : Prop where
  whole : Whole w hb 39 cs
  fit : o + 3 ≤ cs.size
  k0 : cs[o]? = some (.int .i64 x.at_)
  k1 : cs[o + 1]? = some (.int .i64 x.tk)
  k2 : cs[o + 2]? = some (.int .i64 x.saw)
  size : cs.size = cs0.size
  same : ∀ j, j < o ∨ o + 3 ≤ j → cs[j]? = cs0[j]?
  latch : Whole w lb 27 #[.int .i64 B.d, .int .i64 B.s]
  num : Whole w nb 2 #[.int .i64 B.n]
  only : Only (fun k => k = hb ∨ k = lb ∨ k = nb) w0 w

section
variable {w0 w : World} {cs0 cs : Array Value} {hb o lb nb : Nat} {x : Th} {B : Bd}

theorem set_at {cs : Array Value} {i : Nat} (u : Value) (h : i < cs.size) (j : Nat) : (cs.setIfInBounds i u)[j]? = if j = i then some u else cs[j]? := by
  rw [Array.getElem?_setIfInBounds]
  by_cases hj : i = j
  · subst hj; simp [h]
  · simp [hj, Ne.symm hj]
theorem Rt5.hl (h : Rt5 w0 cs0 hb o lb nb x B cs w) : hb ≠ lb := h.whole.apart h.latch (by decide)
theorem Rt5.hn (h : Rt5 w0 cs0 hb o lb nb x B cs w) : hb ≠ nb := h.whole.apart h.num (by decide)
theorem Rt5.ln (h : Rt5 w0 cs0 hb o lb nb x B cs w) : lb ≠ nb := h.latch.apart h.num (by decide)
theorem Rt5.at_ (h : Rt5 w0 cs0 hb o lb nb x B cs w) (n : Nat) : Rt5 w0 cs0 hb o lb nb { x with at_ := n } B (cs.setIfInBounds (o) (.int .i64 n)) (w.setCell ⟨hb, o, none⟩ (.int .i64 n)) := by
  have hf := h.fit
  have key := fun j => set_at (i := o) (.int .i64 (n : Int)) (show o < cs.size by omega) j
  refine ⟨h.whole.put _ _, by simpa using hf, ?_, ?_, ?_, by simpa using h.size, fun j hj => ?_, h.latch.far (Ne.symm h.hl) _, h.num.far (Ne.symm h.hn) _, h.only.setCell (.inl (.inl rfl)) _⟩
  · rw [key, if_pos rfl]
  · rw [key, if_neg (by omega)]; exact h.k1
  · rw [key, if_neg (by omega)]; exact h.k2
  · rw [key, if_neg (by omega)]; exact h.same j hj
theorem Rt5.tk (h : Rt5 w0 cs0 hb o lb nb x B cs w) (n : Int) : Rt5 w0 cs0 hb o lb nb { x with tk := n } B (cs.setIfInBounds (o + 1) (.int .i64 n)) (w.setCell ⟨hb, o + 1, none⟩ (.int .i64 n)) := by
  have hf := h.fit
  have key := fun j => set_at (i := o + 1) (.int .i64 (n : Int)) (show o + 1 < cs.size by omega) j
  refine ⟨h.whole.put _ _, by simpa using hf, ?_, ?_, ?_, by simpa using h.size, fun j hj => ?_, h.latch.far (Ne.symm h.hl) _, h.num.far (Ne.symm h.hn) _, h.only.setCell (.inl (.inl rfl)) _⟩
  · rw [key, if_neg (by omega)]; exact h.k0
  · rw [key, if_pos rfl]
  · rw [key, if_neg (by omega)]; exact h.k2
  · rw [key, if_neg (by omega)]; exact h.same j hj
theorem Rt5.saw (h : Rt5 w0 cs0 hb o lb nb x B cs w) (n : Int) : Rt5 w0 cs0 hb o lb nb { x with saw := n } B (cs.setIfInBounds (o + 2) (.int .i64 n)) (w.setCell ⟨hb, o + 2, none⟩ (.int .i64 n)) := by
  have hf := h.fit
  have key := fun j => set_at (i := o + 2) (.int .i64 (n : Int)) (show o + 2 < cs.size by omega) j
  refine ⟨h.whole.put _ _, by simpa using hf, ?_, ?_, ?_, by simpa using h.size, fun j hj => ?_, h.latch.far (Ne.symm h.hl) _, h.num.far (Ne.symm h.hn) _, h.only.setCell (.inl (.inl rfl)) _⟩
  · rw [key, if_neg (by omega)]; exact h.k0
  · rw [key, if_neg (by omega)]; exact h.k1
  · rw [key, if_pos rfl]
  · rw [key, if_neg (by omega)]; exact h.same j hj
theorem Rt5.d (h : Rt5 w0 cs0 hb o lb nb x B cs w) (n : Int) : Rt5 w0 cs0 hb o lb nb x { B with d := n } cs (w.setCell ⟨lb, 0, none⟩ (.int .i64 n)) :=
  ⟨h.whole.far h.hl _, h.fit, h.k0, h.k1, h.k2, h.size, h.same, h.latch.put 0 _, h.num.far (Ne.symm h.ln) _, h.only.setCell (.inl (.inr (.inl rfl))) _⟩
theorem Rt5.s (h : Rt5 w0 cs0 hb o lb nb x B cs w) (n : Int) : Rt5 w0 cs0 hb o lb nb x { B with s := n } cs (w.setCell ⟨lb, 1, none⟩ (.int .i64 n)) :=
  ⟨h.whole.far h.hl _, h.fit, h.k0, h.k1, h.k2, h.size, h.same, h.latch.put 1 _, h.num.far (Ne.symm h.ln) _, h.only.setCell (.inl (.inr (.inl rfl))) _⟩
theorem Rt5.n (h : Rt5 w0 cs0 hb o lb nb x B cs w) (n : Int) : Rt5 w0 cs0 hb o lb nb x { B with n := n } cs (w.setCell ⟨nb, 0, none⟩ (.int .i64 n)) :=
  ⟨h.whole.far h.hn _, h.fit, h.k0, h.k1, h.k2, h.size, h.same, h.latch.far h.ln _, h.num.put 0 _, h.only.setCell (.inl (.inr (.inr rfl))) _⟩
theorem Rt5.drew (h : Rt5 w0 cs0 hb o lb nb x B cs w) (n : Nat) : Rt5 w0 cs0 hb o lb nb x B cs (w.drewN n) :=
  ⟨h.whole.drewN n, h.fit, h.k0, h.k1, h.k2, h.size, h.same, h.latch.drewN n, h.num.drewN n, h.only.drewN n⟩
/-- Its cells. -/
theorem Rt5.c (h : Rt5 w0 cs0 hb o lb nb x B cs w) : w.cell? ⟨hb, o, none⟩ = some (.int .i64 x.at_) ∧ w.cell? ⟨hb, o + 1, none⟩ = some (.int .i64 x.tk) ∧ w.cell? ⟨hb, o + 2, none⟩ = some (.int .i64 x.saw) ∧
    w.cell? ⟨lb, 0, none⟩ = some (.int .i64 B.d) ∧ w.cell? ⟨lb, 1, none⟩ = some (.int .i64 B.s) ∧ w.cell? ⟨nb, 0, none⟩ = some (.int .i64 B.n) :=
  ⟨(h.whole.cell _).trans h.k0, (h.whole.cell _).trans h.k1, (h.whole.cell _).trans h.k2, h.latch.cell 0, h.latch.cell 1, h.num.cell 0⟩
theorem Rt5.f (h : Rt5 w0 cs0 hb o lb nb x B cs w) : w.frozen? ⟨hb, o, none⟩ = false ∧ w.frozen? ⟨hb, o + 1, none⟩ = false ∧ w.frozen? ⟨hb, o + 2, none⟩ = false ∧ w.frozen? ⟨lb, 0, none⟩ = false ∧ w.frozen? ⟨lb, 1, none⟩ = false ∧ w.frozen? ⟨nb, 0, none⟩ = false :=
  ⟨h.whole.frozen _, h.whole.frozen _, h.whole.frozen _, h.latch.frozen 0, h.latch.frozen 1, h.num.frozen 0⟩

set_option maxHeartbeats 4000000 in
theorem ref_step (h : Rt5 w0 cs0 hb o lb nb x B cs w) (hat : x.at_ ≤ 5) :
    Calls Try.prog 13 #[.pointer (some ⟨hb, o, none⟩), .pointer (some ⟨lb, 0, none⟩), .pointer (some ⟨nb, 0, none⟩)] w fun e w' => e = .returned (.tuple #[]) ∧ ∃ cs', Rt5 w0 cs0 hb o lb nb (ustep x B).1 (ustep x B).2 cs' w' := by
  have hnot : ∀ (x : Bool) (w : World), (Op.unary .not (.bool x)).run Try.prog w = .ok (.bool (!x)) w := fun _ _ => rfl
  obtain ⟨at_, tk, saw⟩ := x
  obtain ⟨n, d, s⟩ := B
  simp only at hat
  have hcase : at_ = 0 ∨ at_ = 1 ∨ at_ = 2 ∨ at_ = 3 ∨ at_ = 4 ∨ at_ = 5 := by omega
  obtain ⟨c0, c1, c2, l0, l1, n0⟩ := h.c
  obtain ⟨f0, f1, f2, g0, g1, m0⟩ := h.f
  have hl := h.hl
  have hn := h.hn
  have ln := h.ln
  simp only at c0 c1 c2 l0 l1 n0
  rcases hcase with rfl | rfl | rfl | rfl | rfl | rfl
  · have FIN : Hid (∃ cs', Rt5 w0 cs0 hb o lb nb ⟨1, d, saw⟩ ⟨n, wrap64 (d + 1), s⟩ cs' (((w.setCell ⟨hb, o + 1, none⟩ (.int .i64 d)).setCell ⟨lb, 0, none⟩ (.int .i64 (wrap64 (d + 1)))).setCell ⟨hb, o, none⟩ (.int .i64 1))) := Lib.hid ⟨_, ((h.tk d).d (wrap64 (d + 1))).at_ 1⟩
    clear h
    simp only [ustep]
    go_enter Try.func13, Try.ntmps13
    go_wp2_with fail
    go_end0
    exact ⟨rfl, FIN.out⟩
  · by_cases hs : s = tk
    · subst hs
      have FIN : Hid (∀ m, ∃ cs', Rt5 w0 cs0 hb o lb nb ⟨2, s, saw⟩ ⟨n, d, s⟩ cs' ((w.drewN m).setCell ⟨hb, o, none⟩ (.int .i64 2))) := Lib.hid (fun m => ⟨_, (h.drew m).at_ 2⟩)
      clear h
      simp only [ustep]
      go_enter Try.func13, Try.ntmps13
      go_upto_region 5 with (fail)
      go_region
      go_wp2_with fail
      go_end0
      exact ⟨rfl, FIN.out 1⟩
    · have hse : (s == tk) = false := beq_eq_false_iff_ne.2 hs
      have FIN : Hid (∀ m, ∃ cs', Rt5 w0 cs0 hb o lb nb ⟨1, tk, saw⟩ ⟨n, d, s⟩ cs' (w.drewN m)) := Lib.hid (fun m => ⟨_, h.drew m⟩)
      clear h
      simp only [ustep, hs]
      go_enter Try.func13, Try.ntmps13
      go_upto_region 5 with (fail)
      go_region
      go_wp2_with fail
      refine bodyPost_ret (results_none rfl _ _ _) rfl ?_
      exact ⟨rfl, FIN.out 1⟩
  · have FIN : Hid (∃ cs', Rt5 w0 cs0 hb o lb nb ⟨3, tk, n⟩ ⟨n, d, s⟩ cs' ((w.setCell ⟨hb, o + 2, none⟩ (.int .i64 n)).setCell ⟨hb, o, none⟩ (.int .i64 3))) := Lib.hid ⟨_, (h.saw n).at_ 3⟩
    clear h
    simp only [ustep]
    go_enter Try.func13, Try.ntmps13
    go_wp2_with fail
    go_end0
    exact ⟨rfl, FIN.out⟩
  · have FIN : Hid (∃ cs', Rt5 w0 cs0 hb o lb nb ⟨4, tk, saw⟩ ⟨wrap64 (saw + 1), d, s⟩ cs' ((w.setCell ⟨nb, 0, none⟩ (.int .i64 (wrap64 (saw + 1)))).setCell ⟨hb, o, none⟩ (.int .i64 4))) := Lib.hid ⟨_, (h.n _).at_ 4⟩
    clear h
    simp only [ustep]
    go_enter Try.func13, Try.ntmps13
    go_wp2_with fail
    go_end0
    exact ⟨rfl, FIN.out⟩
  · have FIN : Hid (∃ cs', Rt5 w0 cs0 hb o lb nb ⟨5, tk, saw⟩ ⟨n, d, wrap64 (tk + 1)⟩ cs' ((w.setCell ⟨lb, 1, none⟩ (.int .i64 (wrap64 (tk + 1)))).setCell ⟨hb, o, none⟩ (.int .i64 5))) := Lib.hid ⟨_, (h.s _).at_ 5⟩
    clear h
    simp only [ustep]
    go_enter Try.func13, Try.ntmps13
    go_wp2_with fail
    go_end0
    exact ⟨rfl, FIN.out⟩
  · have FIN : Hid (∃ cs', Rt5 w0 cs0 hb o lb nb ⟨5, tk, saw⟩ ⟨n, d, s⟩ cs' w) := Lib.hid ⟨_, h⟩
    clear h
    simp only [ustep]
    go_enter Try.func13, Try.ntmps13
    go_wp2_with fail
    refine bodyPost_ret (results_none rfl _ _ _) rfl ?_
    exact ⟨rfl, FIN.out⟩
end

section
variable {w w' : World} {ow : Nat → Nat} {lb nb hb P : Nat} {xf : Nat → Th} {B B' : Bd} {cs cs' : Array Value} {i : Nat} {y : Th}
/-- The reference's thread i. -/
theorem RSys.rt (R : RSys w ow lb nb hb P xf B cs) (hi : i < P) : Rt5 w cs hb (i * 3) lb nb (xf i) B cs w := by
  obtain ⟨h0, h1, h2⟩ := R.th i hi
  exact ⟨R.whole, by rw [R.size]; omega, h0, h1, h2, rfl, fun _ _ => rfl, R.latch, R.num, Only.refl _ _⟩
/-- Behind its step. -/
theorem RSys.ref (R : RSys w ow lb nb hb P xf B cs) (hi : i < P) (h : Rt5 w cs hb (i * 3) lb nb y B' cs' w') : RSys w' ow lb nb hb P (upd xf i y) B' cs' ∧ Only (fun k => ow k = 2 ∨ ow k = 5 ∨ ow k = 6) w w' := by
  refine ⟨⟨h.latch, h.num, h.whole, h.size.trans R.size, fun j hj => ?_, R.llb, R.lnb, R.lhb⟩, h.only.mono (fun k _ hk => ?_)⟩
  · by_cases hji : j = i
    · subst hji
      rw [upd_same]
      exact ⟨h.k0, h.k1, h.k2⟩
    · rw [upd_other _ _ hji]
      have key : ∀ k, k < 3 → cs'[j * 3 + k]? = cs[j * 3 + k]? := fun k hk => h.same _ (by omega)
      obtain ⟨h0, h1, h2⟩ := R.th j hj
      exact ⟨(key 0 (by omega)).trans h0, (key 1 (by omega)).trans h1, (key 2 (by omega)).trans h2⟩
  · rcases hk with rfl | rfl | rfl
    · exact .inr (.inr R.lhb)
    · exact .inl R.llb
    · exact .inr (.inl R.lnb)
end
end Go.Proofs.Ytngihgdcoeokhaa
