/-
  Texts of our own, one behind the other (SlUn): what the laws' proofs rest on; each says at its head what it holds. No conditions.
-/
import Derived.Test.YtejkhnphplpkeaaPkWb
import Derived.Deep.CutBlock
import Derived.Deep.DeepCutAuto
import Derived.Laws.ResultCell
/-
  Layer 15: the node that has given words: a contract for the call.
-/
namespace Go.Proofs.Ytejkhnphplpkeaa
open Go.ChangeShapes Go.WideShapes Go.ChangeAt Go.RowKit
set_option linter.unusedVariables false

/-- The cells of the node that is none. -/
def nilC : Array Value := #[.bool false, .int .i64 0, .slice none 0 0, .slice none 0 0, .slice none 0 0]
def nilN : Value := .agg #[.bool false, .int .i64 0, .slice none 0 0, .slice none 0 0, .slice none 0 0]
def set5 (w : World) (q : Nat) (a b c d e : Value) : World := ((((w.setCell ⟨q, 0, none⟩ a).setCell ⟨q, 1, none⟩ b).setCell ⟨q, 2, none⟩ c).setCell ⟨q, 3, none⟩ d).setCell ⟨q, 4, none⟩ e
theorem five_put {w : World} {q : Nat} {t : TypeId} {a b c d e : Value} (h : Whole w q t #[a, b, c, d, e]) (x y z u v : Value) : Whole (set5 w q x y z u v) q t #[x, y, z, u, v] := by
  have h0 : Whole _ q t #[x, b, c, d, e] := Whole.put h 0 x
  have h1 : Whole _ q t #[x, y, c, d, e] := Whole.put h0 1 y
  have h2 : Whole _ q t #[x, y, z, d, e] := Whole.put h1 2 z
  have h3 : Whole _ q t #[x, y, z, u, e] := Whole.put h2 3 u
  have h4 : Whole _ q t #[x, y, z, u, v] := Whole.put h3 4 v
  exact h4
theorem five_only (w : World) (q : Nat) (x y z u v : Value) : Only (fun k => k = q) w (set5 w q x y z u v) := by
  have h0 := Only.refl (fun k => k = q) w
  have h1 := h0.setCell (p := ⟨q, 0, none⟩) (.inl rfl) x
  have h2 := h1.setCell (p := ⟨q, 1, none⟩) (.inl rfl) y
  have h3 := h2.setCell (p := ⟨q, 2, none⟩) (.inl rfl) z
  have h4 := h3.setCell (p := ⟨q, 3, none⟩) (.inl rfl) u
  exact h4.setCell (p := ⟨q, 4, none⟩) (.inl rfl) v
theorem row5f {w : World} {q : Nat} {t : TypeId} {a b c d e : Value} (h : Whole w q t #[a, b, c, d, e]) : w.frozen? ⟨q, 0, none⟩ = false ∧ w.frozen? ⟨q, 1, none⟩ = false ∧ w.frozen? ⟨q, 2, none⟩ = false ∧ w.frozen? ⟨q, 3, none⟩ = false ∧ w.frozen? ⟨q, 4, none⟩ = false :=
  ⟨h.frozen 0, h.frozen 1, h.frozen 2, h.frozen 3, h.frozen 4⟩

/-- What comes of words. -/
def UnAns (base : Nat) (w' : World) (e : Ending) (l : List Int) : Prop :=
  (∃ (n : Nd) (x y z : Value), e = .returned (.tuple #[n.val x y z, .bool true]) ∧ NdF n ∧ packN n = l ∧ NdMine base w' n x y z) ∨ (e = .returned (.tuple #[nilN, .bool false]) ∧ ∀ n, NdF n → packN n ≠ l)

set_option maxHeartbeats 4000000 in
theorem un_len {w : World} {A : Option Addr} {k c : Nat} (hk : k ≠ 28) (hk2 : k ≤ 9223372036854775807) : Calls Try.prog 89 #[.slice A k c] w fun e w' => e = .returned (.tuple #[nilN, .bool false]) ∧ Below w.heap.size w w' := by
  have G := Lib.hid (Whole.new w 34 nilC)
  have B := Lib.hid (below_new w (.cells nilC 34))
  unfold nilC at *
  have hz : ¬ (k : Int) = 28 := by omega
  have hz2 : ((k : Int) != 28) = true := by simpa using hz
  have hz3 : decide ((k : Int) = 28) = false := decide_eq_false hz
  go_enter Try.func89, Try.ntmps89
  go_wp2_with fail
  refine bodyPost_ret (results_row_tmp rfl _ _ w.heap.size 34 _ (0, 0) _ rfl G.out Try.underlying34 rfl (by kernel_rfl)) rfl ?_
  exact ⟨rfl, B.out⟩

theorem div16 {x : Int} (h0 : -9223372036854775808 ≤ x) (h1 : x ≤ 9223372036854775807) : -9223372036854775808 ≤ x.tdiv 16 ∧ x.tdiv 16 ≤ 9223372036854775807 := by
  by_cases h : 0 ≤ x
  · rw [Int.tdiv_eq_ediv_of_nonneg h]; omega
  · have e : x = -(-x) := by omega
    rw [e, Int.neg_tdiv, Int.tdiv_eq_ediv_of_nonneg (by omega)]
    omega
set_option maxHeartbeats 4000000 in
theorem un_count {w : World} {b off c : Nat} {x : Int} (h0 : -9223372036854775808 ≤ x) (h1 : x ≤ 9223372036854775807) (hx : w.cell? ⟨b, off, none⟩ = some (.int .i64 x)) (hc : x.tdiv 16 < 1 ∨ 8 < x.tdiv 16) :
    Calls Try.prog 89 #[.slice (some ⟨b, off, none⟩) 28 c] w fun e w' => e = .returned (.tuple #[nilN, .bool false]) ∧ Below w.heap.size w w' := by
  have G := Lib.hid (Whole.new w 34 nilC)
  have B := Lib.hid (below_new w (.cells nilC 34))
  have hx' : (w.alloc (.cells nilC 34)).cell? ⟨b, off, none⟩ = some (.int .i64 x) := Lib.cell?_alloc_some _ hx
  obtain ⟨d0, d1⟩ := div16 h0 h1
  have hw : IntKind.i64.wrap (x.tdiv 16) = x.tdiv 16 := by rw [IntKind.wrap_i64]; omega
  unfold nilC at *
  rcases hc with hc | hc
  · have hd : decide (x.tdiv 16 < 1) = true := decide_eq_true hc
    go_enter Try.func89, Try.ntmps89
    go_wp2_with fail
    refine bodyPost_ret (results_row_tmp rfl _ _ w.heap.size 34 _ (0, 0) _ rfl G.out Try.underlying34 rfl (by kernel_rfl)) rfl ?_
    exact ⟨rfl, B.out⟩
  · have hd : decide (x.tdiv 16 < 1) = false := decide_eq_false (by omega)
    have hd2 : decide (8 < x.tdiv 16) = true := decide_eq_true hc
    have hd3 : ¬ x.tdiv 16 < 1 := by omega
    go_enter Try.func89, Try.ntmps89
    go_wp2_with fail
    refine bodyPost_ret (results_row_tmp rfl _ _ w.heap.size 34 _ (0, 0) _ rfl G.out Try.underlying34 rfl (by kernel_rfl)) rfl ?_
    exact ⟨rfl, B.out⟩

theorem below_al {w w' : World} {o : Obj} (h : Below w.heap.size w w') : Below w.heap.size w (w'.alloc o) := h.alloc h.size o
theorem below_st {B : Nat} {w w' : World} {q i : Nat} {u : Value} (h : Below B w w') (hq : B ≤ q) : Below B w (w'.setCell ⟨q, i, none⟩ u) := h.setCell (p := ⟨q, i, none⟩) hq u
theorem size_al {w w' : World} {o : Obj} (h : Below w.heap.size w w') : w.heap.size ≤ (w'.alloc o).heap.size := (below_al h).size
theorem apart_new {base : Nat} {w w1 w2 : World} {v v' : Value} {l l' : List Int} (h : Mw base w v l) (h' : Mw w1.heap.size w2 v' l') (hle : w.heap.size ≤ w1.heap.size) : ∀ k, v.ownBlock = some k → v'.ownBlock ≠ some k := fun k hk hk' => by
  have a := (World.ownsRow.lt h k hk).2
  have b := (World.ownsRow.lt h' k hk').1
  omega
theorem clone_part {W : World} {l : List Int} {b off c : Nat} (hl : l.length = 28) (k C : Nat) (h1 : 1 ≤ C) (h8 : k + C ≤ 28) (hA : ∀ k, k < 28 → W.cell? ⟨b, off + k, none⟩ = some (.int .i64 (nth l k))) :
    Calls Try.prog 95 #[.slice (some ⟨b, off + k, none⟩) C c] W fun e w' => ∃ (A : Option Addr) (c' : Nat), e = .returned (.slice A C c') ∧ Mw W.heap.size w' (.slice A C c') ((l.drop k).take C) ∧ Below W.heap.size W w' := by
  have e : ((l.drop k).take C).length = C := by simp [hl]; omega
  have h := cloneI_c (w := W) (l := (l.drop k).take C) (b := b) (off := off + k) (c := c) (by omega) (by omega) (fun i hi => by
    rw [nth_take, if_pos (by omega), nth_drop, Nat.add_assoc]
    exact hA (k + i) (by omega))
  rw [e] at h
  refine h.mono ?_
  rintro e' w' ⟨v', rfl, hm, hb⟩
  obtain ⟨A, c', rfl⟩ := own_slice hm
  rw [e] at hm ⊢
  exact ⟨A, c', rfl, hm, hb⟩
theorem NdMine.far {base q : Nat} {w w' : World} {n : Nd} {e s g : Value} {cs : Array Value} (m : NdMine base w n e s g) (h : Whole w q 34 cs) (ho : Only (fun k => k = q) w w') : NdMine base w' n e s g :=
  ⟨m.me.only ho (fun k hk hq => by subst hq; exact own_apart m.me h (by decide) hk), m.ms.only ho (fun k hk hq => by subst hq; exact own_apart m.ms h (by decide) hk), m.mg.only ho (fun k hk hq => by subst hq; exact own_apart m.mg h (by decide) hk), m.es, m.eg, m.sg⟩
theorem NdMine.base' {b base : Nat} {w : World} {n : Nd} {e s g : Value} (m : NdMine base w n e s g) (hb : b ≤ base) : NdMine b w n e s g := ⟨m.me.base' hb, m.ms.base' hb, m.mg.base' hb, m.es, m.eg, m.sg⟩
theorem leaf_put {base q : Nat} {w0 wk : World} {n : Nd} {e s g : Value} {a b c d f : Value} (hb : Below w0.heap.size w0 wk) (h : Whole wk q 34 #[a, b, c, d, f]) (hq : w0.heap.size ≤ q) (m : NdMine base wk n e s g) (x y z u v : Value) :
    Whole (set5 wk q x y z u v) q 34 #[x, y, z, u, v] ∧ NdMine base (set5 wk q x y z u v) n e s g ∧ Below w0.heap.size w0 (set5 wk q x y z u v) :=
  ⟨five_put h x y z u v, m.far h (five_only wk q x y z u v), hb.trans ((five_only wk q x y z u v).below (fun k hk => by rw [hk]; exact hq) hb.size)⟩
set_option maxRecDepth 4000 in
set_option maxHeartbeats 8000000 in
theorem un_in {w : World} {l : List Int} {b off c : Nat} (hl : l.length = 28) (hc : 28 ≤ c) (hf : Fits l) (hA : ∀ k, k < 28 → w.cell? ⟨b, off + k, none⟩ = some (.int .i64 (nth l k))) {C : Nat} (hC : (nth l 0).tdiv 16 = (C : Int)) (h1 : 1 ≤ C) (h8 : C ≤ 8) :
    Calls Try.prog 89 #[.slice (some ⟨b, off, none⟩) 28 c] w fun e w' => UnAns w.heap.size w' e l ∧ Below w.heap.size w w' := by
  have V := Lib.hid (Whole.new w 34 nilC)
  have B := Lib.hid (below_new w (.cells nilC 34))
  have HQ : Hid (w.heap.size < (w.alloc (.cells nilC 34)).heap.size) := Lib.hid V.out.lt
  have CA : Hid (∀ k, k < 28 → (w.alloc (.cells nilC 34)).cell? ⟨b, off + k, none⟩ = some (.int .i64 (nth l k))) := Lib.hid (fun k hk => Lib.cell?_alloc_some _ (hA k hk))
  have hC0 := hf 0 (by omega)
  have z0 := CA.out 0 (by omega)
  have z1 := CA.out 1 (by omega)
  rw [Nat.add_zero] at z0
  have hw0 : IntKind.i64.wrap (C : Int) = (C : Int) := by rw [IntKind.wrap_i64]; omega
  have hw1 : IntKind.i64.wrap (2 + (C : Int)) = 2 + (C : Int) := by rw [IntKind.wrap_i64]; omega
  have hw2 : IntKind.i64.wrap (10 + (C : Int)) = 10 + (C : Int) := by rw [IntKind.wrap_i64]; omega
  have hw3 : IntKind.i64.wrap (18 + (C : Int)) = 18 + (C : Int) := by rw [IntKind.wrap_i64]; omega
  have hx0 : ¬ (C : Int) < 1 := by omega
  have hx1 : ¬ (8 : Int) < (C : Int) := by omega
  have hx2 : decide ((C : Int) < 1) = false := decide_eq_false hx0
  have hx3 : decide ((8 : Int) < (C : Int)) = false := decide_eq_false hx1
  clear hA
  unfold nilC at *
  go_enter Try.func89, Try.ntmps89
  generalize hw : w.alloc (.cells #[.bool false, .int .i64 0, .slice none 0 0, .slice none 0 0, .slice none 0 0] 34) = w0 at *
  go_wp2_with fail
  clear hw
  have t1 : ¬ c = 2 := by omega
  have t2 : ¬ c = 10 := by omega
  have t3 : ¬ c = 18 := by omega
  have s1 : (2 : Int) ≤ 2 + (C : Int) := by omega
  have s2 : 2 + (C : Int) ≤ (c : Int) := by omega
  have s3 : (10 : Int) ≤ 10 + (C : Int) := by omega
  have s4 : 10 + (C : Int) ≤ (c : Int) := by omega
  have s5 : (18 : Int) ≤ 18 + (C : Int) := by omega
  have s6 : 18 + (C : Int) ≤ (c : Int) := by omega
  have B0 := Lib.hid (below_drew (Below.refl w0.heap.size w0))
  have HC : Hid (∀ W, Below w0.heap.size w0 W → (W.cell? ⟨b, off, none⟩ = some (.int .i64 (nth l 0)) ∧ W.cell? ⟨b, off + 1, none⟩ = some (.int .i64 (nth l 1)))) := Lib.hid (fun W h => by
    refine ⟨?_, ?_⟩
    · rw [h.cell (p := ⟨b, off, none⟩) (World.block_lt_of_cell? w0 _ z0)]; exact z0
    · rw [h.cell (p := ⟨b, off + 1, none⟩) (World.block_lt_of_cell? w0 _ z1)]; exact z1)
  have HWD : Hid (∀ W, Below w0.heap.size w0 W → Wds W (.slice (some ⟨b, off, none⟩) 28 c) l) := Lib.hid (fun W hb => ⟨_, _, by rw [hl], by rw [hl]; exact hc, fun _ => ⟨b, off, rfl, fun k hk => by
    have e := CA.out k (by omega)
    rw [hb.cell (p := ⟨b, off + k, none⟩) (World.block_lt_of_cell? w0 _ e)]; exact e⟩⟩)
  clear z0 z1
  have CL2 : Hid (∀ W, Below w0.heap.size w0 W → Calls Try.prog 95 #[.slice (some ⟨b, off + 2, none⟩) ((2 + (C : Int)).toNat - 2) (c - 2)] W fun e w' => ∃ (A : Option Addr) (c' : Nat), e = .returned (.slice A C c') ∧ Mw W.heap.size w' (.slice A C c') ((l.drop 2).take C) ∧ Below W.heap.size W w') := Lib.hid (fun W hb => by
    rw [show ((2 : Int) + (C : Int)).toNat - 2 = C by omega]
    exact clone_part hl 2 C h1 (by omega) (fun k hk => by rw [hb.cell (p := ⟨b, off + k, none⟩) (World.block_lt_of_cell? w0 _ (CA.out k hk))]; exact CA.out k hk))
  have CL10 : Hid (∀ W, Below w0.heap.size w0 W → Calls Try.prog 95 #[.slice (some ⟨b, off + 10, none⟩) ((10 + (C : Int)).toNat - 10) (c - 10)] W fun e w' => ∃ (A : Option Addr) (c' : Nat), e = .returned (.slice A C c') ∧ Mw W.heap.size w' (.slice A C c') ((l.drop 10).take C) ∧ Below W.heap.size W w') := Lib.hid (fun W hb => by
    rw [show ((10 : Int) + (C : Int)).toNat - 10 = C by omega]
    exact clone_part hl 10 C h1 (by omega) (fun k hk => by rw [hb.cell (p := ⟨b, off + k, none⟩) (World.block_lt_of_cell? w0 _ (CA.out k hk))]; exact CA.out k hk))
  have CL18 : Hid (∀ W, Below w0.heap.size w0 W → Calls Try.prog 95 #[.slice (some ⟨b, off + 18, none⟩) ((18 + (C : Int)).toNat - 18) (c - 18)] W fun e w' => ∃ (A : Option Addr) (c' : Nat), e = .returned (.slice A C c') ∧ Mw W.heap.size w' (.slice A C c') ((l.drop 18).take C) ∧ Below W.heap.size W w') := Lib.hid (fun W hb => by
    rw [show ((18 : Int) + (C : Int)).toNat - 18 = C by omega]
    exact clone_part hl 18 C h1 (by omega) (fun k hk => by rw [hb.cell (p := ⟨b, off + k, none⟩) (World.block_lt_of_cell? w0 _ (CA.out k hk))]; exact CA.out k hk))
  have B6 := Lib.hid (below_drew (below_new w0 (.cells #[.bool false, .int .i64 0, .slice none 0 0, .slice none 0 0, .slice none 0 0] 34)))
  have HU : Hid (∀ x y z, (unN l C).cells x y z = #[.bool ((nth l 0).tmod 16 == 2), .int .i64 (nth l 1), x, y, z]) := Lib.hid (fun _ _ _ => rfl)
  have HU2 : Hid ((unN l C).ends = (l.drop 2).take C ∧ (unN l C).slots = (l.drop 10).take C ∧ (unN l C).gaps = (l.drop 18).take C) := Lib.hid ⟨rfl, rfl, rfl⟩
  generalize (l.drop 2).take C = X1 at *
  generalize (l.drop 10).take C = X2 at *
  generalize (l.drop 18).take C = X3 at *
  go_upto_region 6 with (fail)
  go_cut [0, 5] (fun s0 s5 wx => s0 = .slice (some ⟨b, off, none⟩) 28 c ∧ ∃ (q : Nat) (A1 : Option Addr) (c1 : Nat) (A2 : Option Addr) (c2 : Nat) (A3 : Option Addr) (c3 : Nat), s5 = .pointer (some ⟨q, 0, none⟩) ∧ Hid (Whole wx q 34 #[.bool ((nth l 0).tmod 16 == 2), .int .i64 (nth l 1), .slice A1 C c1, .slice A2 C c2, .slice A3 C c3]) ∧ Hid (NdMine w0.heap.size wx (unN l C) (.slice A1 C c1) (.slice A2 C c2) (.slice A3 C c3)) ∧ Hid (Below w0.heap.size w0 wx))
  case first =>
    go_region_held3 (fun W => W.cell? ⟨b, off, none⟩ = some (.int .i64 (nth l 0)) ∧ W.cell? ⟨b, off + 1, none⟩ = some (.int .i64 (nth l 1)))
      (first | with_reducible exact HC.out _ B0.out | with_reducible exact HC.out _ B6.out | with_reducible exact HC.out _ BB.out | with_reducible exact HC.out _ (below_al BB.out) | (refine HC.out _ ?_; repeat (first | with_reducible exact BB.out | with_reducible refine below_al ?_ | with_reducible refine below_st ?_ (by omega))))
      (first
      | (go_at_call 95; with_reducible refine (CL2.out _ B0.out).mono ?_; rintro e wk ⟨Ak, ck, rfl, hm, hb⟩; have BB := Lib.hid (below_then B0.out hb (Nat.le_refl _)); have M1 := Lib.hid (hm.base' (Nat.le_refl _)); clear hm hb CL2 B6)
      | (go_at_call 95; with_reducible refine (CL2.out _ B6.out).mono ?_; rintro e wk ⟨Ak, ck, rfl, hm, hb⟩; have BB := Lib.hid (below_then B6.out hb (Nat.le_refl _)); have VZ := Lib.hid ((Whole.new w0 34 #[.bool false, .int .i64 0, .slice none 0 0, .slice none 0 0, .slice none 0 0]).drew.below hb (Whole.new w0 34 #[.bool false, .int .i64 0, .slice none 0 0, .slice none 0 0, .slice none 0 0]).drew.lt); obtain ⟨d0, d1, d2, d3, d4⟩ := row5 VZ.out; obtain ⟨f0, f1, f2, f3, f4⟩ := row5f VZ.out; have M1 := Lib.hid (hm.base' B6.out.size); clear hm hb CL2)
      | (have VY := VZ; have B9 := BB; go_at_call 95; with_reducible refine (CL10.out _ B9.out).mono ?_; rintro e wk ⟨Ak, ck, rfl, hm, hb⟩; have SB := B9.out.size; have BB := Lib.hid (below_then B9.out hb (Nat.le_refl _)); have VZ := Lib.hid (VY.out.below hb VY.out.lt); obtain ⟨d0, d1, d2, d3, d4⟩ := row5 VZ.out; obtain ⟨f0, f1, f2, f3, f4⟩ := row5f VZ.out; have N12 := Lib.hid (apart_new M1.out hm (Nat.le_refl _)); have M1 := Lib.hid (M1.out.still hb); have M2 := Lib.hid (hm.base' (B9.out.size)); clear hm hb CL10 VY)
      | (have B9 := BB; go_at_call 95; with_reducible refine (CL10.out _ B9.out).mono ?_; rintro e wk ⟨Ak, ck, rfl, hm, hb⟩; have SB := B9.out.size; have BB := Lib.hid (below_then B9.out hb (Nat.le_refl _)); have N12 := Lib.hid (apart_new M1.out hm (Nat.le_refl _)); have M1 := Lib.hid (M1.out.still hb); have M2 := Lib.hid (hm.base' (B9.out.size)); clear hm hb CL10)
      | (have B9 := BB; go_at_call 95; with_reducible refine (CL10.out _ (below_al B9.out)).mono ?_; rintro e wk ⟨Ak, ck, rfl, hm, hb⟩; have SB := B9.out.size; have BB := Lib.hid (below_then (below_al B9.out) hb (Nat.le_refl _)); have VZ := Lib.hid ((Whole.new _ 34 #[.bool false, .int .i64 0, .slice none 0 0, .slice none 0 0, .slice none 0 0]).below hb (Whole.new _ 34 #[.bool false, .int .i64 0, .slice none 0 0, .slice none 0 0, .slice none 0 0]).lt); obtain ⟨d0, d1, d2, d3, d4⟩ := row5 VZ.out; obtain ⟨f0, f1, f2, f3, f4⟩ := row5f VZ.out; have N12 := Lib.hid (apart_new M1.out hm (Nat.le_of_lt (by simp))); have M1 := Lib.hid ((M1.out.still (below_new _ _)).still hb); have M2 := Lib.hid (hm.base' (size_al B9.out)); clear hm hb CL10)
      | (have VY := VZ; have B9 := BB; go_at_call 95; with_reducible refine (CL18.out _ B9.out).mono ?_; rintro e wk ⟨Ak, ck, rfl, hm, hb⟩; have SB := B9.out.size; have BB := Lib.hid (below_then B9.out hb (Nat.le_refl _)); have VZ := Lib.hid (VY.out.below hb VY.out.lt); obtain ⟨d0, d1, d2, d3, d4⟩ := row5 VZ.out; obtain ⟨f0, f1, f2, f3, f4⟩ := row5f VZ.out; have N13 := Lib.hid (apart_new M1.out hm (Nat.le_refl _)); have M1 := Lib.hid (M1.out.still hb); have N23 := Lib.hid (apart_new M2.out hm (Nat.le_refl _)); have M2 := Lib.hid (M2.out.still hb); have M3 := Lib.hid (hm.base' (B9.out.size)); clear hm hb CL18 VY)
      | (have B9 := BB; go_at_call 95; with_reducible refine (CL18.out _ B9.out).mono ?_; rintro e wk ⟨Ak, ck, rfl, hm, hb⟩; have SB := B9.out.size; have BB := Lib.hid (below_then B9.out hb (Nat.le_refl _)); have N13 := Lib.hid (apart_new M1.out hm (Nat.le_refl _)); have M1 := Lib.hid (M1.out.still hb); have N23 := Lib.hid (apart_new M2.out hm (Nat.le_refl _)); have M2 := Lib.hid (M2.out.still hb); have M3 := Lib.hid (hm.base' (B9.out.size)); clear hm hb CL18)
      | (have B9 := BB; go_at_call 95; with_reducible refine (CL18.out _ (below_al B9.out)).mono ?_; rintro e wk ⟨Ak, ck, rfl, hm, hb⟩; have SB := B9.out.size; have BB := Lib.hid (below_then (below_al B9.out) hb (Nat.le_refl _)); have VZ := Lib.hid ((Whole.new _ 34 #[.bool false, .int .i64 0, .slice none 0 0, .slice none 0 0, .slice none 0 0]).below hb (Whole.new _ 34 #[.bool false, .int .i64 0, .slice none 0 0, .slice none 0 0, .slice none 0 0]).lt); obtain ⟨d0, d1, d2, d3, d4⟩ := row5 VZ.out; obtain ⟨f0, f1, f2, f3, f4⟩ := row5f VZ.out; have N13 := Lib.hid (apart_new M1.out hm (Nat.le_of_lt (by simp))); have M1 := Lib.hid ((M1.out.still (below_new _ _)).still hb); have N23 := Lib.hid (apart_new M2.out hm (Nat.le_of_lt (by simp))); have M2 := Lib.hid ((M2.out.still (below_new _ _)).still hb); have M3 := Lib.hid (hm.base' (size_al B9.out)); clear hm hb CL18)
      | fail)
    all_goals
      have NM : Hid (NdMine w0.heap.size wk (unN l C) _ _ _) := Lib.hid ⟨by rw [HU2.out.1]; exact M1.out, by rw [HU2.out.2.1]; exact M2.out, by rw [HU2.out.2.2]; exact M3.out, N12.out, N13.out, N23.out⟩
      go_wp2_with fail
      go_meet
      first
      | exact ⟨rfl, _, _, _, _, _, _, _, rfl, Lib.hid (leaf_put BB.out VZ.out (by omega) NM.out _ _ _ _ _).1, Lib.hid (leaf_put BB.out VZ.out (by omega) NM.out _ _ _ _ _).2.1, Lib.hid (leaf_put BB.out VZ.out (by omega) NM.out _ _ _ _ _).2.2⟩
      | exact ⟨rfl, _, _, _, _, _, _, _, rfl, Lib.hid (Whole.new _ _ _), Lib.hid (NM.out.still (below_new _ _)), Lib.hid (below_al BB.out)⟩
  case rest =>
    obtain ⟨rfl, q, A1, c1, A2, c2, A3, c3, rfl, VN, NM, BN⟩ := hcut
    have V := Lib.hid (V.out.below BN.out HQ.out)
    have BT := Lib.hid (B.out.trans (BN.out.mono (Nat.le_of_lt HQ.out)))
    have HD := Lib.hid (HWD.out _ BN.out)
    obtain ⟨r, hr⟩ := tells_any (NdF (unN l C))
    obtain ⟨r2, hr2⟩ := tells_any (wordsN r (unN l C) = l)
    have CP := Lib.hid (pack_c NM.out.here hr)
    have CE : Hid (∀ W v, Mw wc.heap.size W v (wordsN r (unN l C)) → Wds W (.slice (some ⟨b, off, none⟩) 28 c) l → Calls Try.prog 96 #[v, .slice (some ⟨b, off, none⟩) 28 c] W fun e w' => e = .returned (.bool r2) ∧ Below W.heap.size W w') := Lib.hid (fun W v m h => equal_c m.wds h hr2 (by
      cases r with
      | false => simp [wordsN]
      | true =>
        show (packN (unN l C)).length ≤ 1000
        rw [pack_len (hr.1 rfl).cnt]; omega))
    have HY : Hid (r2 = true → NdF (unN l C) ∧ packN (unN l C) = l) := Lib.hid (fun h => by
      have e := hr2.1 h
      cases r with
      | false =>
        have : l.length = 0 := by rw [← e]; rfl
        omega
      | true => exact ⟨hr.1 rfl, e⟩)
    have HNo : Hid (r2 = false → ∀ n, NdF n → packN n ≠ l) := Lib.hid (fun h n hn e => by
      have e0 := first_div n hn.cnt
      have e1 := nth_pack hn.cnt 0
      rw [e] at e1
      have e2 : nth l 0 = n.first := e1
      have e3 : n.ends.length = C := by have := e0.1; rw [← e2, hC] at this; omega
      have e4 := un_pack hn.cnt
      rw [e, e3] at e4
      have : r2 = true := hr2.2 (by rw [e4] at hr ⊢; rw [show r = true from hr.2 hn]; exact e)
      rw [h] at this
      cases this)
    have HL : Hid (w.heap.size ≤ w0.heap.size) := Lib.hid (Nat.le_of_lt HQ.out)
    clear hr hr2 hC CA HU HU2 HC B0 B6 CL2 CL10 CL18 hw0 hw1 hw2 hw3 hx2 hx3 s1 s2 s3 s4 s5 s6 t1 t2 t3 hl hf hC0 HWD
    unfold Nd.val at CP
    obtain ⟨d0, d1, d2, d3, d4⟩ := row5 VN.out
    go_wp2_with fail
    refine CP.out.mono ?_
    rintro e w1 ⟨vp, rfl, hm, hb⟩
    have V := Lib.hid (V.out.below hb V.out.lt)
    have VN := Lib.hid (VN.out.below hb VN.out.lt)
    have NM := Lib.hid (NM.out.still hb)
    have HD := Lib.hid (HD.out.still hb)
    have BT := Lib.hid (below_then BT.out hb (Nat.le_refl _))
    have HM := Lib.hid hm
    clear hm hb CP d0 d1 d2 d3 d4
    obtain ⟨d0, d1, d2, d3, d4⟩ := row5 VN.out
    go_wp2_with fail
    refine (CE.out _ _ HM.out HD.out).mono ?_
    rintro e w2 ⟨rfl, hb⟩
    have V := Lib.hid (V.out.below hb V.out.lt)
    have VN := Lib.hid (VN.out.below hb VN.out.lt)
    have NM := Lib.hid (NM.out.still hb)
    have BT := Lib.hid (below_then BT.out hb (Nat.le_refl _))
    clear hb CE d0 d1 d2 d3 d4 HM HD
    obtain ⟨d0, d1, d2, d3, d4⟩ := row5 VN.out
    obtain ⟨z0, z1, z2, z3, z4⟩ := row5 V.out
    obtain ⟨f0, f1, f2, f3, f4⟩ := row5f V.out
    cases r2 with
    | true =>
      have HY2 := Lib.hid (HY.out rfl)
      clear HY HNo
      go_wp2_with fail
      refine bodyPost_ret (results_row_tmp rfl _ _ w.heap.size 34 _ (0, 0) _ rfl (five_put V.out _ _ _ _ _) Try.underlying34 rfl (by kernel_rfl)) rfl ?_
      exact ⟨.inl ⟨unN l C, _, _, _, rfl, HY2.out.1, HY2.out.2, (NM.out.far V.out (five_only _ _ _ _ _ _ _)).base' HL.out⟩, BT.out.trans ((five_only _ _ _ _ _ _ _).below (fun k hk => by rw [hk]; exact Nat.le_refl _) BT.out.size)⟩
    | false =>
      have HN2 := Lib.hid (HNo.out rfl)
      clear HY HNo
      go_wp2_with fail
      refine bodyPost_ret (results_row_tmp rfl _ _ w.heap.size 34 _ (0, 0) _ rfl (five_put V.out _ _ _ _ _) Try.underlying34 rfl (by kernel_rfl)) rfl ?_
      exact ⟨.inr ⟨rfl, HN2.out⟩, BT.out.trans ((five_only _ _ _ _ _ _ _).below (fun k hk => by rw [hk]; exact Nat.le_refl _) BT.out.size)⟩

/-- What comes of words that are told, however many. -/
theorem unpack_c {w : World} {v : Value} {l : List Int} (h : Wds w v l) (hf : Fits l) (hl : l.length ≤ 9223372036854775807) : Calls Try.prog 89 #[v] w fun e w' => UnAns w.heap.size w' e l ∧ Below w.heap.size w w' := by
  obtain ⟨A, c, rfl, hc, hA⟩ := h
  by_cases h28 : l.length = 28
  · obtain ⟨b, off, rfl, ca⟩ := hA (by omega)
    rw [h28] at ca hc ⊢
    have h0 := hf 0 (by omega)
    by_cases hC : 1 ≤ (nth l 0).tdiv 16 ∧ (nth l 0).tdiv 16 ≤ 8
    · obtain ⟨C, hC'⟩ : ∃ C : Nat, (nth l 0).tdiv 16 = (C : Int) := ⟨((nth l 0).tdiv 16).toNat, by omega⟩
      exact un_in h28 hc hf ca hC' (by omega) (by omega)
    · refine (un_count h0.1 h0.2 (ca 0 (by omega)) (by omega)).mono ?_
      rintro e w' ⟨rfl, hb⟩
      refine ⟨.inr ⟨rfl, fun n hn e => ?_⟩, hb⟩
      have e0 := (first_div n hn.cnt).1
      have e1 := nth_pack hn.cnt 0
      rw [e] at e1
      have e2 : nth l 0 = n.first := e1
      have := hn.cnt.one
      have := hn.cnt.few
      rw [e2, e0] at hC
      omega
  · refine (un_len (A := A) (c := c) h28 hl).mono ?_
    rintro e w' ⟨rfl, hb⟩
    exact ⟨.inr ⟨rfl, fun n hn e => h28 (by rw [← e, pack_len hn.cnt])⟩, hb⟩
end Go.Proofs.Ytejkhnphplpkeaa
