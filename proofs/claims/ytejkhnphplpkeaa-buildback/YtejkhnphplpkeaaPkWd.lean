/-
  Texts of our own, one behind the other (SlArea, SlUnA): what the laws' proofs rest on; each says at its head what it holds. No conditions.
-/
import Derived.Test.YtejkhnphplpkeaaPkWc
import Derived.Test.YtejkhnphplpkeaaPkA
import Derived.BigRegion
/-
  Layer 15: an area's words: a contract for the call.
-/
namespace Go.Proofs.Ytejkhnphplpkeaa
open Go.ChangeShapes Go.WideShapes Go.ChangeAt Go.RowKit
set_option linter.unusedVariables false

theorem step_app {P : Program} {i0 : TypeInfo} (hi0 : P.info? 2 = some i0) (hz0 : i0.zero = some (.int .i64 0)) (hz1 : i0.size = 1) (hz2 : i0.bytes = 8) (ht : P.underlying 27 = some (.slice 2))
    {w : World} {ops : Array Oper} {o : Oper} {a : Act} {K : Act → World → Prop} {Q : Exit → Act → World → Prop} {E : Prop} (hgd : o.guard = none) (s x : Operand) (ho : o.op = .call { callee := .builtin .append, args := #[s, x], argTypes := #[27, 27] })
    (base : Nat) (v : Value) (l : List Int) (hs : a.eval s = v) (hown : Mw base w v l) (b off c : Nat) (m : Nat) (xs : List Int) (hm : xs.length = m) (hx : a.eval x = .slice (some ⟨b, off, none⟩) m c)
    (hc : ∀ k, k < xs.length → w.cell? ⟨b, off + k, none⟩ = some (.int .i64 (nth xs k))) (hl : l.length + xs.length ≤ 1000) (hbase : base ≤ w.heap.size)
    (h : ∀ v' w', Mw base w' v' (l ++ xs) → w.grownBy w' v.ownBlock → K (a.put o.dst v') w') : if Region.wanted o (yielded ops a.tmps) = true then Oper.wp P o a w K Q else E := by
  have hw : Region.wanted o (yielded ops a.tmps) = true := by simp [Region.wanted, hgd]
  rw [if_pos hw]
  subst hm
  refine wp_append_own w s x 27 ho base 2 i0 _ 1 8 ht hi0 hz0 hz1 hz2 rfl (by decide) v l.length _ hs hown ⟨b, off, none⟩ xs.length c (xs.map (Value.int .i64)) hx (by simp) (fun j u hu => ?_) (ints_oneCell .i64 xs) (by simp only [maxLen]; omega) (by omega) hbase (fun v' w' h1 h2 _ => h v' w' ?_ h2)
  · rw [List.getElem?_map] at hu
    obtain ⟨y, hy, rfl⟩ := Option.map_eq_some_iff.1 hu
    obtain ⟨hj, hy⟩ := List.getElem?_eq_some_iff.1 hy
    rw [Addr.add_lit, hc j hj]
    simp [nth, List.getD_eq_getElem?_getD, List.getElem?_eq_getElem hj, hy]
  · unfold Mw
    simpa using h1
/-- The cells of numbers that are laid. -/
theorem lit_at (W : World) (l : List Int) : ∀ k, k < l.length → (W.alloc (.cells (nums l) 2)).cell? ⟨W.heap.size, 0 + k, none⟩ = some (.int .i64 (nth l k)) := fun k hk => by
  rw [Nat.zero_add, (Whole.new W 2 (nums l)).cell k, nums_at l k hk]

/-- An area's words, or none. -/
def wordsA (a : Ar) (d : Bool) : List Int := if Formed a then packA a d else []
end Go.Proofs.Ytejkhnphplpkeaa

/-
  Layer 15: the area that has given words: a contract for the call.
-/
namespace Go.Proofs.Ytejkhnphplpkeaa
open Go.ChangeShapes Go.WideShapes Go.ChangeAt Go.RowKit
set_option linter.unusedVariables false

theorem results_row_tmp2 {P : Program} {fn : Func} {p u u2 : Tmp} {ty : TypeId} (h : fn.results = #[.cell p ty, .tmp u, .tmp u2]) (tmps : Array Value) (w : World) (g : Nat) (t : TypeId) (cs : Array Value) (fr : Nat × Nat) (d : TypeDesc)
    (hp : tmps.getD p undef = .pointer (some ⟨g, 0, none⟩)) (hg : w.heap[g]? = some (.cells cs t fr))
    (hu : P.underlying ty = some d) (hd : (match d with | .struct _ | .array _ _ => true | _ => false) = true) (hi : (P.info? ty).map (·.size) = some cs.size) :
    (results fn tmps).run P w = .ok (.tuple #[.agg cs, tmps.getD u undef, tmps.getD u2 undef]) w := by
  have e : (results fn tmps).run P w = ((asAddr (tmps.getD p undef)).run P w).andThen fun a w₁ => ((loadVar ty a).run P w₁).andThen fun v w₂ => .ok (.tuple #[v, tmps.getD u undef, tmps.getD u2 undef]) w₂ := by
    simp only [results, h]
    simp [Sem.run_bind, Result.andThen]
  rw [e, hp]
  simp [asAddr, Result.andThen, run_loadVar_row w g t ty cs fr d hg hu hd hi]
def zeroA : Array Value := #[.int .i64 0, .int .i64 0, .int .i64 0, .bool false, .int .i64 0, .int .i64 0]
def sets6 (w : World) (q : Nat) (a b c d e f : Value) : World := (((((w.setCell ⟨q, 0, none⟩ a).setCell ⟨q, 1, none⟩ b).setCell ⟨q, 2, none⟩ c).setCell ⟨q, 3, none⟩ d).setCell ⟨q, 4, none⟩ e).setCell ⟨q, 5, none⟩ f
theorem puts6 {w : World} {q : Nat} {t : TypeId} {a b c d e f : Value} (h : Whole w q t #[a, b, c, d, e, f]) (x y z u v s : Value) : Whole (sets6 w q x y z u v s) q t #[x, y, z, u, v, s] := by
  have h0 : Whole _ q t #[x, b, c, d, e, f] := Whole.put h 0 x
  have h1 : Whole _ q t #[x, y, c, d, e, f] := Whole.put h0 1 y
  have h2 : Whole _ q t #[x, y, z, d, e, f] := Whole.put h1 2 z
  have h3 : Whole _ q t #[x, y, z, u, e, f] := Whole.put h2 3 u
  have h4 : Whole _ q t #[x, y, z, u, v, f] := Whole.put h3 4 v
  have h5 : Whole _ q t #[x, y, z, u, v, s] := Whole.put h4 5 s
  exact h5
theorem only6 (w : World) (q : Nat) (x y z u v s : Value) : Only (fun k => k = q) w (sets6 w q x y z u v s) := by
  have h0 := Only.refl (fun k => k = q) w
  have h1 := h0.setCell (p := ⟨q, 0, none⟩) (.inl rfl) x
  have h2 := h1.setCell (p := ⟨q, 1, none⟩) (.inl rfl) y
  have h3 := h2.setCell (p := ⟨q, 2, none⟩) (.inl rfl) z
  have h4 := h3.setCell (p := ⟨q, 3, none⟩) (.inl rfl) u
  have h5 := h4.setCell (p := ⟨q, 4, none⟩) (.inl rfl) v
  exact h5.setCell (p := ⟨q, 5, none⟩) (.inl rfl) s
theorem rowf6 {w : World} {q : Nat} {t : TypeId} {a b c d e f : Value} (h : Whole w q t #[a, b, c, d, e, f]) : w.frozen? ⟨q, 0, none⟩ = false ∧ w.frozen? ⟨q, 1, none⟩ = false ∧ w.frozen? ⟨q, 2, none⟩ = false ∧ w.frozen? ⟨q, 3, none⟩ = false ∧ w.frozen? ⟨q, 4, none⟩ = false ∧ w.frozen? ⟨q, 5, none⟩ = false :=
  ⟨h.frozen 0, h.frozen 1, h.frozen 2, h.frozen 3, h.frozen 4, h.frozen 5⟩

/-- What comes of words. -/
def UnAnsA (e : Ending) (l : List Int) : Prop :=
  (∃ (a : Ar) (d : Bool), e = .returned (.tuple #[a.v, .bool d, .bool true]) ∧ Formed a ∧ packA a d = l) ∨ (e = .returned (.tuple #[Ar.nil.v, .bool false, .bool false]) ∧ ∀ a d, Formed a → packA a d ≠ l)

end Go.Proofs.Ytejkhnphplpkeaa
