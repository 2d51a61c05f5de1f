/-
  Texts of our own, one behind the other (SlArea, SlUnA): what the laws' proofs rest on; each says at its head what it holds. No conditions.
-/
import Derived.Test.YtiiclmaphiajmaaPkWc
import Derived.Test.YtiiclmaphiajmaaPkA
import Derived.BigRegion
/-
  Layer 15: an area's words: a contract for the call.
-/
namespace Go.Proofs.Ytiiclmaphiajmaa
open Go.ChangeShapes Go.WideShapes Go.ChangeAt Go.RowKit
set_option linter.unusedVariables false

theorem step_app {P : Program} {i0 : TypeInfo} (hi0 : P.info? 2 = some i0) (hz0 : i0.zero = some (.int .i64 0)) (hz1 : i0.size = 1) (hz2 : i0.bytes = 8) (ht : P.underlying 22 = some (.slice 2))
    {w : World} {ops : Array Oper} {o : Oper} {a : Act} {K : Act → World → Prop} {Q : Exit → Act → World → Prop} {E : Prop} (hgd : o.guard = none) (s x : Operand) (ho : o.op = .call { callee := .builtin .append, args := #[s, x], argTypes := #[22, 22] })
    (base : Nat) (v : Value) (l : List Int) (hs : a.eval s = v) (hown : Mw base w v l) (b off c : Nat) (m : Nat) (xs : List Int) (hm : xs.length = m) (hx : a.eval x = .slice (some ⟨b, off, none⟩) m c)
    (hc : ∀ k, k < xs.length → w.cell? ⟨b, off + k, none⟩ = some (.int .i64 (nth xs k))) (hl : l.length + xs.length ≤ 1000) (hbase : base ≤ w.heap.size)
    (h : ∀ v' w', Mw base w' v' (l ++ xs) → w.grownBy w' v.ownBlock → K (a.put o.dst v') w') : if Region.wanted o (yielded ops a.tmps) = true then Oper.wp P o a w K Q else E := by
  have hw : Region.wanted o (yielded ops a.tmps) = true := by simp [Region.wanted, hgd]
  rw [if_pos hw]
  subst hm
  refine wp_append_own w s x 22 ho base 2 i0 _ 1 8 ht hi0 hz0 hz1 hz2 rfl (by decide) v l.length _ hs hown ⟨b, off, none⟩ xs.length c (xs.map (Value.int .i64)) hx (by simp) (fun j u hu => ?_) (ints_oneCell .i64 xs) (by simp only [maxLen]; omega) (by omega) hbase (fun v' w' h1 h2 _ => h v' w' ?_ h2)
  · rw [List.getElem?_map] at hu
    obtain ⟨y, hy, rfl⟩ := Option.map_eq_some_iff.1 hu
    obtain ⟨hj, hy⟩ := List.getElem?_eq_some_iff.1 hy
    rw [Addr.add_lit, hc j hj]
    simp [nth, List.getD_eq_getElem?_getD, List.getElem?_eq_getElem hj, hy]
  · unfold Mw
    simpa using h1
/-- The cells of numbers that are laid. -/
theorem lit_at (W : World) (l : List Int) : ∀ k, k < l.length → (W.alloc (.cells (nums l) 2)).cell? ⟨W.heap.size, 0 + k, none⟩ = some (.int .i64 (nth l k)) := fun k hk => by
  rw [Nat.zero_add, (Whole.new W 2 (nums l)).cell k, nums_at l k hk]

set_option maxRecDepth 4000 in
set_option maxHeartbeats 8000000 in
theorem packA_yes {a : Ar} {d : Bool} (hf : Formed a) (w : World) : Calls Try.prog 54 #[a.v, .bool d] w fun e w' => ∃ v', e = .returned v' ∧ Mw w.heap.size w' v' (packA a d) ∧ Below w.heap.size w w' := by
  have G := Lib.hid ((Bag.new w).add 31 a.cells)
  have CF := Lib.hid (formed_any a)
  rw [show decide (Formed a) = true from decide_eq_true hf] at CF
  have CB := Lib.hid bit_c
  obtain ⟨i0, hi0, hz0, hz1, hz2⟩ := info_parts int_info
  have HI0 : Hid (Try.prog.info? 2 = some i0) := Lib.hid hi0
  have H0 : Hid (i0.zero = some (.int .i64 0)) := Lib.hid hz0
  have H1 : Hid (i0.size = 1) := Lib.hid hz1
  have H2 : Hid (i0.bytes = 8) := Lib.hid hz2
  have F28 : Hid (∀ (v : Value) (W : World) (l : List Int), Mw w.heap.size W v l → 0 < l.length → l.length ≤ 28 → w.heap.size ≤ W.heap.size → Calls Try.prog 62 #[v, .int .i64 28] W fun e w' => ∃ v', e = .returned v' ∧ Mw w.heap.size w' v' (fill l 28) ∧ W.grownBy w' v.ownBlock) := Lib.hid (fun v W l h h0 h1 hb => filled_c h h0 28 h1 (by omega) hb)
  clear hi0 hz0 hz1 hz2 hf
  have HE : Hid (fill ([3] ++ [bitI d] ++ [a.s, a.e, a.p, bitI a.sh, a.bk, a.off]) 28 = packA a d) := Lib.hid rfl
  generalize packA a d = pk at *
  obtain ⟨s, t, p, sh, bk, off⟩ := a
  unfold Ar.v Ar.cells at *
  simp only at *
  generalize hbd : bitI d = bd at *
  generalize hbs : bitI sh = bs at *
  have CB1 : Hid (∀ W, Calls Try.prog 61 #[.bool d] W fun e w' => e = .returned (.int .i64 bd) ∧ w' = W) := Lib.hid (fun W => by rw [← hbd]; exact CB.out d W)
  have CB2 : Hid (∀ W, Calls Try.prog 61 #[.bool sh] W fun e w' => e = .returned (.int .i64 bs) ∧ w' = W) := Lib.hid (fun W => by rw [← hbs]; exact CB.out sh W)
  clear hbd hbs CB
  go_enter Try.func54, Try.ntmps54
  go_wp2_with fail
  refine (CF.out _).mono ?_
  rintro e w1 ⟨rfl, hb⟩
  have G := Lib.hid (G.out.still hb)
  clear hb CF
  have M0 := Lib.hid (Mw.lit w1 w.heap.size [3] G.out.bel.size (by simp))
  have G := Lib.hid (G.out.still (below_new w1 (.cells (nums [3]) 2)))
  go_wp2_with fail
  refine (CB1.out _).mono ?_
  rintro e w2 ⟨rfl, rfl⟩
  clear CB1
  have hnn : nums [3] = #[.int .i64 3] := rfl
  rw [hnn] at M0 G
  simp only [List.length_cons, List.length_nil, Nat.zero_add] at M0
  clear hnn
  generalize w1.alloc (.cells #[.int .i64 3] 2) = wA at *
  generalize w1.heap.size = g0 at *
  have L1 := Lib.hid (lit_at wA [bd])
  have M0 := Lib.hid (M0.out.still (below_new wA (.cells (nums [bd]) 2)))
  have G := Lib.hid (G.out.still (below_new wA (.cells (nums [bd]) 2)))
  have hnn : nums [bd] = #[.int .i64 bd] := rfl
  rw [hnn] at M0 G L1
  clear hnn
  go_wp2_with (at_builtin; refine wpList_app HI0.out H0.out H1.out H2.out Try.underlying22 rfl _ _ rfl w.heap.size _ [3] rfl M0.out wA.heap.size 0 1 1 [bd] rfl rfl L1.out (by simp) G.out.bel.size ?_; intro va wa hm hg; have MM := Lib.hid hm; have VV := Lib.hid (G.out.v0.app M0.out hg (by decide)); have BB := Lib.hid (below_app G.out.bel M0.out hg G.out.bel.size); clear hm hg M0 G L1)
  have HK : Hid (∀ W, Below wa.heap.size wa W → (W.cell? ⟨w.heap.size, 0, none⟩ = some (.int .i64 s) ∧ W.cell? ⟨w.heap.size, 1, none⟩ = some (.int .i64 t) ∧ W.cell? ⟨w.heap.size, 2, none⟩ = some (.int .i64 p) ∧ W.cell? ⟨w.heap.size, 3, none⟩ = some (.bool sh) ∧ W.cell? ⟨w.heap.size, 4, none⟩ = some (.int .i64 bk) ∧ W.cell? ⟨w.heap.size, 5, none⟩ = some (.int .i64 off))) := Lib.hid (fun W h => row6 (VV.out.below h VV.out.lt))
  have B0 := Lib.hid (below_drew (Below.refl wa.heap.size wa))
  have L2 := Lib.hid (lit_at wa [s, t, p, bs, bk, off])
  have hnn : nums [s, t, p, bs, bk, off] = #[.int .i64 s, .int .i64 t, .int .i64 p, .int .i64 bs, .int .i64 bk, .int .i64 off] := rfl
  rw [hnn] at L2
  clear hnn
  have B9 := Lib.hid (below_drew (below_new wa (.cells #[.int .i64 s, .int .i64 t, .int .i64 p, .int .i64 bs, .int .i64 bk, .int .i64 off] 2)))
  have M9 := Lib.hid (MM.out.still B9.out)
  have S9 : Hid (w.heap.size ≤ (wa.alloc (.cells #[.int .i64 s, .int .i64 t, .int .i64 p, .int .i64 bs, .int .i64 bk, .int .i64 off] 2)).drew.heap.size) := Lib.hid (Nat.le_trans BB.out.size B9.out.size)
  go_region_held3 (fun W => W.cell? ⟨w.heap.size, 0, none⟩ = some (.int .i64 s) ∧ W.cell? ⟨w.heap.size, 1, none⟩ = some (.int .i64 t) ∧ W.cell? ⟨w.heap.size, 2, none⟩ = some (.int .i64 p) ∧ W.cell? ⟨w.heap.size, 3, none⟩ = some (.bool sh) ∧ W.cell? ⟨w.heap.size, 4, none⟩ = some (.int .i64 bk) ∧ W.cell? ⟨w.heap.size, 5, none⟩ = some (.int .i64 off))
    (first | with_reducible exact HK.out _ B0.out | with_reducible exact HK.out _ B9.out | exact HK.out _ B9.out | exact row6 VV.out)
    (first
    | (go_at_call 61; refine (CB2.out _).mono ?_; rintro e wn ⟨rfl, rfl⟩; clear CB2)
    | (refine step_app HI0.out H0.out H1.out H2.out Try.underlying22 rfl (.tmp 14) (.tmp 28) rfl w.heap.size va ([3] ++ [bd]) rfl M9.out wa.heap.size 0 6 6 [s, t, p, bs, bk, off] rfl rfl L2.out (by simp) S9.out ?_; intro vb wb hm hg; have VV := Lib.hid ((VV.out.below B9.out VV.out.lt).app M9.out hg (by decide)); have BE := Lib.hid (below_app (below_then BB.out B9.out (Nat.le_refl _)) M9.out hg S9.out); have ME := Lib.hid hm; clear hm hg)
    | fail)
  all_goals
    go_wp2_with fail
    refine (F28.out _ _ _ ME.out (by simp) (by simp) BE.out.size).mono ?_
    rintro e wc ⟨vc, rfl, hm, hg⟩
    rw [HE.out] at hm
    have MF := Lib.hid hm
    have BF := Lib.hid (below_app BE.out ME.out hg BE.out.size)
    clear hm hg
    go_wp2_with fail
    go_ret
    exact ⟨_, rfl, MF.out, BF.out⟩

set_option maxHeartbeats 2000000 in
theorem packA_no {a : Ar} {d : Bool} (hf : ¬ Formed a) (w : World) : Calls Try.prog 54 #[a.v, .bool d] w fun e w' => e = .returned (.slice none 0 0) ∧ Below w.heap.size w w' := by
  have G := Lib.hid ((Bag.new w).add 31 a.cells)
  have CF := Lib.hid (formed_any a)
  rw [show decide (Formed a) = false from decide_eq_false hf] at CF
  clear hf
  obtain ⟨s, t, p, sh, bk, off⟩ := a
  unfold Ar.v Ar.cells at *
  simp only at *
  go_enter Try.func54, Try.ntmps54
  go_wp2_with fail
  refine (CF.out _).mono ?_
  rintro e w1 ⟨rfl, hb⟩
  have G := Lib.hid (G.out.still hb)
  clear hb CF
  go_wp2_with fail
  go_ret
  exact ⟨rfl, G.out.bel⟩
/-- An area's words, or none. -/
def wordsA (a : Ar) (d : Bool) : List Int := if Formed a then packA a d else []
theorem packA_c (a : Ar) (d : Bool) (w : World) : Calls Try.prog 54 #[a.v, .bool d] w fun e w' => ∃ v', e = .returned v' ∧ Mw w.heap.size w' v' (wordsA a d) ∧ Below w.heap.size w w' := by
  unfold wordsA
  by_cases hf : Formed a
  · rw [if_pos hf]; exact packA_yes hf w
  · rw [if_neg hf]
    refine (packA_no hf w).mono ?_
    rintro e w1 ⟨rfl, hb⟩
    exact ⟨_, rfl, Mw.nil _ _, hb⟩
end Go.Proofs.Ytiiclmaphiajmaa

/-
  Layer 15: the area that has given words: a contract for the call.
-/
namespace Go.Proofs.Ytiiclmaphiajmaa
open Go.ChangeShapes Go.WideShapes Go.ChangeAt Go.RowKit
set_option linter.unusedVariables false

theorem results_row_tmp2 {P : Program} {fn : Func} {p u u2 : Tmp} {ty : TypeId} (h : fn.results = #[.cell p ty, .tmp u, .tmp u2]) (tmps : Array Value) (w : World) (g : Nat) (t : TypeId) (cs : Array Value) (fr : Nat × Nat) (d : TypeDesc)
    (hp : tmps.getD p undef = .pointer (some ⟨g, 0, none⟩)) (hg : w.heap[g]? = some (.cells cs t fr))
    (hu : P.underlying ty = some d) (hd : (match d with | .struct _ | .array _ _ => true | _ => false) = true) (hi : (P.info? ty).map (·.size) = some cs.size) :
    (results fn tmps).run P w = .ok (.tuple #[.agg cs, tmps.getD u undef, tmps.getD u2 undef]) w := by
  have e : (results fn tmps).run P w = ((asAddr (tmps.getD p undef)).run P w).andThen fun a w₁ => ((loadVar ty a).run P w₁).andThen fun v w₂ => .ok (.tuple #[v, tmps.getD u undef, tmps.getD u2 undef]) w₂ := by
    simp only [results, h]
    simp [Sem.run_bind, Result.andThen]
  rw [e, hp]
  simp [asAddr, Result.andThen, run_loadVar_row w g t ty cs fr d hg hu hd hi]
def zeroA : Array Value := #[.int .i64 0, .int .i64 0, .int .i64 0, .bool false, .int .i64 0, .int .i64 0]
def sets6 (w : World) (q : Nat) (a b c d e f : Value) : World := (((((w.setCell ⟨q, 0, none⟩ a).setCell ⟨q, 1, none⟩ b).setCell ⟨q, 2, none⟩ c).setCell ⟨q, 3, none⟩ d).setCell ⟨q, 4, none⟩ e).setCell ⟨q, 5, none⟩ f
theorem puts6 {w : World} {q : Nat} {t : TypeId} {a b c d e f : Value} (h : Whole w q t #[a, b, c, d, e, f]) (x y z u v s : Value) : Whole (sets6 w q x y z u v s) q t #[x, y, z, u, v, s] := by
  have h0 : Whole _ q t #[x, b, c, d, e, f] := Whole.put h 0 x
  have h1 : Whole _ q t #[x, y, c, d, e, f] := Whole.put h0 1 y
  have h2 : Whole _ q t #[x, y, z, d, e, f] := Whole.put h1 2 z
  have h3 : Whole _ q t #[x, y, z, u, e, f] := Whole.put h2 3 u
  have h4 : Whole _ q t #[x, y, z, u, v, f] := Whole.put h3 4 v
  have h5 : Whole _ q t #[x, y, z, u, v, s] := Whole.put h4 5 s
  exact h5
theorem only6 (w : World) (q : Nat) (x y z u v s : Value) : Only (fun k => k = q) w (sets6 w q x y z u v s) := by
  have h0 := Only.refl (fun k => k = q) w
  have h1 := h0.setCell (p := ⟨q, 0, none⟩) (.inl rfl) x
  have h2 := h1.setCell (p := ⟨q, 1, none⟩) (.inl rfl) y
  have h3 := h2.setCell (p := ⟨q, 2, none⟩) (.inl rfl) z
  have h4 := h3.setCell (p := ⟨q, 3, none⟩) (.inl rfl) u
  have h5 := h4.setCell (p := ⟨q, 4, none⟩) (.inl rfl) v
  exact h5.setCell (p := ⟨q, 5, none⟩) (.inl rfl) s
theorem rowf6 {w : World} {q : Nat} {t : TypeId} {a b c d e f : Value} (h : Whole w q t #[a, b, c, d, e, f]) : w.frozen? ⟨q, 0, none⟩ = false ∧ w.frozen? ⟨q, 1, none⟩ = false ∧ w.frozen? ⟨q, 2, none⟩ = false ∧ w.frozen? ⟨q, 3, none⟩ = false ∧ w.frozen? ⟨q, 4, none⟩ = false ∧ w.frozen? ⟨q, 5, none⟩ = false :=
  ⟨h.frozen 0, h.frozen 1, h.frozen 2, h.frozen 3, h.frozen 4, h.frozen 5⟩

/-- What comes of words. -/
def UnAnsA (e : Ending) (l : List Int) : Prop :=
  (∃ (a : Ar) (d : Bool), e = .returned (.tuple #[a.v, .bool d, .bool true]) ∧ Formed a ∧ packA a d = l) ∨ (e = .returned (.tuple #[Ar.nil.v, .bool false, .bool false]) ∧ ∀ a d, Formed a → packA a d ≠ l)

set_option maxHeartbeats 4000000 in
theorem unA_len {w : World} {A : Option Addr} {k c : Nat} (hk : k ≠ 28) (hk2 : k ≤ 9223372036854775807) : Calls Try.prog 47 #[.slice A k c] w fun e w' => e = .returned (.tuple #[Ar.nil.v, .bool false, .bool false]) ∧ Below w.heap.size w w' := by
  have G := Lib.hid (Whole.new w 31 zeroA)
  have B := Lib.hid (below_new w (.cells zeroA 31))
  unfold zeroA at *
  have hz : ¬ (k : Int) = 28 := by omega
  have hz2 : ((k : Int) != 28) = true := by simpa using hz
  have hz3 : decide ((k : Int) = 28) = false := decide_eq_false hz
  go_enter Try.func47, Try.ntmps47
  go_wp2_with fail
  refine bodyPost_ret (results_row_tmp2 rfl _ _ w.heap.size 31 _ (0, 0) _ rfl G.out Try.underlying31 rfl (by kernel_rfl)) rfl ?_
  exact ⟨rfl, B.out⟩

set_option maxRecDepth 4000 in
set_option maxHeartbeats 8000000 in
theorem unA_in {w : World} {l : List Int} {b off c : Nat} (hl : l.length = 28) (hc : 28 ≤ c) (hA : ∀ k, k < 28 → w.cell? ⟨b, off + k, none⟩ = some (.int .i64 (nth l k))) :
    Calls Try.prog 47 #[.slice (some ⟨b, off, none⟩) 28 c] w fun e w' => UnAnsA e l ∧ Below w.heap.size w w' := by
  have V := Lib.hid (Whole.new w 31 zeroA)
  have B := Lib.hid (below_new w (.cells zeroA 31))
  have HQ : Hid (w.heap.size < (w.alloc (.cells zeroA 31)).heap.size) := Lib.hid V.out.lt
  have CA : Hid (∀ k, k < 28 → (w.alloc (.cells zeroA 31)).cell? ⟨b, off + k, none⟩ = some (.int .i64 (nth l k))) := Lib.hid (fun k hk => Lib.cell?_alloc_some _ (hA k hk))
  have z1 := CA.out 1 (by omega)
  have z2 := CA.out 2 (by omega)
  have z3 := CA.out 3 (by omega)
  have z4 := CA.out 4 (by omega)
  have z5 := CA.out 5 (by omega)
  have z6 := CA.out 6 (by omega)
  have z7 := CA.out 7 (by omega)
  clear hA
  unfold zeroA at *
  have HWD : Hid (∀ W, Below (w.alloc (.cells #[.int .i64 0, .int .i64 0, .int .i64 0, .bool false, .int .i64 0, .int .i64 0] 31)).heap.size (w.alloc (.cells #[.int .i64 0, .int .i64 0, .int .i64 0, .bool false, .int .i64 0, .int .i64 0] 31)) W → Wds W (.slice (some ⟨b, off, none⟩) 28 c) l) := Lib.hid (fun W hb => ⟨_, _, by rw [hl], by rw [hl]; exact hc, fun _ => ⟨b, off, rfl, fun k hk => by
    have e := CA.out k (by omega)
    rw [hb.cell (p := ⟨b, off + k, none⟩) (World.block_lt_of_cell? _ _ e)]; exact e⟩⟩)
  have CP := Lib.hid (packA_c (unA l) (nth l 1 == 1))
  obtain ⟨r2, hr2⟩ := tells_any (wordsA (unA l) (nth l 1 == 1) = l)
  have CE : Hid (∀ B W v, Mw B W v (wordsA (unA l) (nth l 1 == 1)) → Wds W (.slice (some ⟨b, off, none⟩) 28 c) l → Calls Try.prog 53 #[v, .slice (some ⟨b, off, none⟩) 28 c] W fun e w' => e = .returned (.bool r2) ∧ Below W.heap.size W w') := Lib.hid (fun B W v m h => equal_c m.wds h hr2 (by
    unfold wordsA
    split
    · rw [packA_len]; omega
    · simp))
  have HY : Hid (r2 = true → Formed (unA l) ∧ packA (unA l) (nth l 1 == 1) = l) := Lib.hid (fun h => by
    have e := hr2.1 h
    unfold wordsA at e
    by_cases hf : Formed (unA l)
    · rw [if_pos hf] at e; exact ⟨hf, e⟩
    · rw [if_neg hf] at e
      have : l.length = 0 := by rw [← e]; rfl
      omega)
  have HNo : Hid (r2 = false → ∀ a d, Formed a → packA a d ≠ l) := Lib.hid (fun h a d ha e => by
    obtain ⟨e1, e2⟩ := un_packA a d
    rw [e] at e1 e2
    have : r2 = true := hr2.2 (by rw [e1, e2]; unfold wordsA; rw [if_pos ha]; exact e)
    rw [h] at this
    cases this)
  clear hr2 CA
  have HU : Hid ((unA l).v = .agg #[.int .i64 (nth l 2), .int .i64 (nth l 3), .int .i64 (nth l 4), .bool (nth l 5 == 1), .int .i64 (nth l 6), .int .i64 (nth l 7)]) := Lib.hid rfl
  rw [HU.out] at CP
  go_enter Try.func47, Try.ntmps47
  go_wp2_with fail
  generalize hw : w.alloc (.cells #[.int .i64 0, .int .i64 0, .int .i64 0, .bool false, .int .i64 0, .int .i64 0] 31) = w0 at *
  clear hw
  have HC : Hid (∀ W, Below w0.heap.size w0 W → (W.cell? ⟨b, off + 2, none⟩ = some (.int .i64 (nth l 2)) ∧ W.cell? ⟨b, off + 3, none⟩ = some (.int .i64 (nth l 3)) ∧ W.cell? ⟨b, off + 4, none⟩ = some (.int .i64 (nth l 4)) ∧ W.cell? ⟨b, off + 5, none⟩ = some (.int .i64 (nth l 5)) ∧ W.cell? ⟨b, off + 6, none⟩ = some (.int .i64 (nth l 6)) ∧ W.cell? ⟨b, off + 7, none⟩ = some (.int .i64 (nth l 7)))) := Lib.hid (fun W h => by
    refine ⟨?_, ?_, ?_, ?_, ?_, ?_⟩
    · rw [h.cell (p := ⟨b, off + 2, none⟩) (World.block_lt_of_cell? w0 _ z2)]; exact z2
    · rw [h.cell (p := ⟨b, off + 3, none⟩) (World.block_lt_of_cell? w0 _ z3)]; exact z3
    · rw [h.cell (p := ⟨b, off + 4, none⟩) (World.block_lt_of_cell? w0 _ z4)]; exact z4
    · rw [h.cell (p := ⟨b, off + 5, none⟩) (World.block_lt_of_cell? w0 _ z5)]; exact z5
    · rw [h.cell (p := ⟨b, off + 6, none⟩) (World.block_lt_of_cell? w0 _ z6)]; exact z6
    · rw [h.cell (p := ⟨b, off + 7, none⟩) (World.block_lt_of_cell? w0 _ z7)]; exact z7)
  have B0 := Lib.hid (below_drew (Below.refl w0.heap.size w0))
  have B6 := Lib.hid (below_drew (below_new w0 (.cells #[.int .i64 0, .int .i64 0, .int .i64 0, .bool false, .int .i64 0, .int .i64 0] 31)))
  have B7 := Lib.hid (below_drew (below_new w0 (.cells #[.int .i64 (nth l 2), .int .i64 (nth l 3), .int .i64 (nth l 4), .bool (nth l 5 == 1), .int .i64 (nth l 6), .int .i64 (nth l 7)] 31)))
  clear z2 z3 z4 z5 z6 z7
  go_region_held3 (fun W => W.cell? ⟨b, off + 2, none⟩ = some (.int .i64 (nth l 2)) ∧ W.cell? ⟨b, off + 3, none⟩ = some (.int .i64 (nth l 3)) ∧ W.cell? ⟨b, off + 4, none⟩ = some (.int .i64 (nth l 4)) ∧ W.cell? ⟨b, off + 5, none⟩ = some (.int .i64 (nth l 5)) ∧ W.cell? ⟨b, off + 6, none⟩ = some (.int .i64 (nth l 6)) ∧ W.cell? ⟨b, off + 7, none⟩ = some (.int .i64 (nth l 7)))
    (first | with_reducible exact HC.out _ B0.out | with_reducible exact HC.out _ B6.out | with_reducible exact HC.out _ B7.out | (refine HC.out _ ?_; repeat (first | with_reducible exact B6.out | with_reducible refine below_st ?_ (by omega))))
    (fail)
  all_goals
    have VN := Lib.hid ((Whole.new w0 31 #[.int .i64 (nth l 2), .int .i64 (nth l 3), .int .i64 (nth l 4), .bool (nth l 5 == 1), .int .i64 (nth l 6), .int .i64 (nth l 7)]).drew)
    have V := Lib.hid (V.out.below B7.out HQ.out)
    have BT := Lib.hid (B.out.trans (B7.out.mono (Nat.le_of_lt HQ.out)))
    have HD := Lib.hid (HWD.out _ B7.out)
    have HL : Hid (w.heap.size ≤ w0.heap.size) := Lib.hid (Nat.le_of_lt HQ.out)
    rename_i hs
    clear hs HC B0 B6 B7 HWD B HQ hl z1
    generalize (w0.alloc (.cells #[.int .i64 (nth l 2), .int .i64 (nth l 3), .int .i64 (nth l 4), .bool (nth l 5 == 1), .int .i64 (nth l 6), .int .i64 (nth l 7)] 31)).drew = wc at *
    generalize w0.heap.size = q at *
    obtain ⟨d0, d1, d2, d3, d4, d5⟩ := row6 VN.out
    go_wp2_with fail
    refine (CP.out _).mono ?_
    rintro e w1 ⟨vp, rfl, hm, hb⟩
    have V := Lib.hid (V.out.below hb V.out.lt)
    have VN := Lib.hid (VN.out.below hb VN.out.lt)
    have HD := Lib.hid (HD.out.still hb)
    have BT := Lib.hid (below_then BT.out hb (Nat.le_refl _))
    have HM := Lib.hid hm
    clear hm hb CP d0 d1 d2 d3 d4 d5
    go_wp2_with fail
    refine (CE.out _ _ _ HM.out HD.out).mono ?_
    rintro e w2 ⟨rfl, hb⟩
    have V := Lib.hid (V.out.below hb V.out.lt)
    have VN := Lib.hid (VN.out.below hb VN.out.lt)
    have BT := Lib.hid (below_then BT.out hb (Nat.le_refl _))
    clear hb CE HM HD
    obtain ⟨d0, d1, d2, d3, d4, d5⟩ := row6 VN.out
    obtain ⟨z0, z1, z2, z3, z4, z5⟩ := row6 V.out
    obtain ⟨f0, f1, f2, f3, f4, f5⟩ := rowf6 V.out
    cases r2 with
    | true =>
      have HY2 := Lib.hid (HY.out rfl)
      clear HY HNo
      go_wp2_with fail
      refine bodyPost_ret (results_row_tmp2 rfl _ _ w.heap.size 31 _ (0, 0) _ rfl (puts6 V.out _ _ _ _ _ _) Try.underlying31 rfl (by kernel_rfl)) rfl ?_
      exact ⟨.inl ⟨unA l, nth l 1 == 1, rfl, HY2.out.1, HY2.out.2⟩, BT.out.trans ((only6 _ _ _ _ _ _ _ _).below (fun k hk => by rw [hk]; exact Nat.le_refl _) BT.out.size)⟩
    | false =>
      have HN2 := Lib.hid (HNo.out rfl)
      clear HY HNo
      go_wp2_with fail
      refine bodyPost_ret (results_row_tmp2 rfl _ _ w.heap.size 31 _ (0, 0) _ rfl (puts6 V.out _ _ _ _ _ _) Try.underlying31 rfl (by kernel_rfl)) rfl ?_
      exact ⟨.inr ⟨rfl, HN2.out⟩, BT.out.trans ((only6 _ _ _ _ _ _ _ _).below (fun k hk => by rw [hk]; exact Nat.le_refl _) BT.out.size)⟩

/-- What comes of words that are told, however many. -/
theorem unpackA_c {w : World} {v : Value} {l : List Int} (h : Wds w v l) (hl : l.length ≤ 9223372036854775807) : Calls Try.prog 47 #[v] w fun e w' => UnAnsA e l ∧ Below w.heap.size w w' := by
  obtain ⟨A, c, rfl, hc, hA⟩ := h
  by_cases h28 : l.length = 28
  · obtain ⟨b, off, rfl, ca⟩ := hA (by omega)
    rw [h28] at ca hc ⊢
    exact unA_in h28 hc ca
  · refine (unA_len (A := A) (c := c) h28 hl).mono ?_
    rintro e w' ⟨rfl, hb⟩
    exact ⟨.inr ⟨rfl, fun a d ha e => h28 (by rw [← e, packA_len])⟩, hb⟩
end Go.Proofs.Ytiiclmaphiajmaa
