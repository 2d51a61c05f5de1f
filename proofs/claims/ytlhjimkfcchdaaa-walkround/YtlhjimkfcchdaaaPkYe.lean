/-
  Texts of our own, one behind the other (SeekRefN): what the laws' proofs rest on; each says at its head what it holds. No conditions.
-/
import Derived.Test.YtlhjimkfcchdaaaPkYc
import Derived.Test.YtlhjimkfcchdaaaPkWe
import Derived.Deep.AppendLies
import Derived.Deep.RegionLaw
/-
  Layer 16: the reference's node of words.
-/
namespace Go.Proofs.Ytlhjimkfcchdaaa
open Go.ChangeShapes Go.WideShapes Go.ChangeAt Go.RowKit
set_option linter.unusedVariables false

theorem int64_info' : ∃ i0, Try.prog.info? 2 = some i0 ∧ i0.zero = some (.int .i64 0) ∧ i0.size = 1 ∧ i0.bytes = 8 := by
  obtain ⟨i0, h1, h2⟩ := Option.map_eq_some_iff.1 int_info
  simp only [Prod.mk.injEq] at h2
  exact ⟨i0, h1, h2.1, h2.2.1, h2.2.2⟩
/-- A node that is being built. -/
structure Bld (w wr : World) (q0 q6 : Nat) (n : Nd) (e s g : Value) : Prop where
  node : Whole wr q6 50 #[.bool n.inner, .int .i64 n.lo, e, s, g]
  res : Whole wr q0 50 nilC
  mine : NdMine w.heap.size wr n e s g
  bel : Below w.heap.size w wr
section
variable {w wr w1 : World} {q0 q6 : Nat} {n : Nd} {e s g : Value}
theorem Bld.still (h : Bld w wr q0 q6 n e s g) (hb : Below wr.heap.size wr w1) : Bld w w1 q0 q6 n e s g := ⟨h.node.below hb h.node.lt, h.res.below hb h.res.lt, h.mine.still hb, below_then h.bel hb (Nat.le_refl _)⟩
theorem kept_row {base : Nat} {o : Obj} {v u : Value} {l : List Int} (h : Mw base w v l) (hg : (w.alloc o).grownBy w1 u.ownBlock) (hne : ∀ k, v.ownBlock = some k → u.ownBlock ≠ some k) : Mw base w1 v l := by
  have h2 : Mw base (w.alloc o) v l := World.ownsRow.alloc h o
  refine World.ownsRow.kept h2 hg ?_
  cases hv : v.ownBlock with
  | none => exact .inl rfl
  | some k => exact .inr (fun he => hne k hv he.symm)
theorem new_row {base : Nat} {v u : Value} {l l' : List Int} {gg cap : Nat} (h : Mw base w v l) (hu : ∀ k, v.ownBlock = some k → u.ownBlock ≠ some k) (hat : u.ownBlock = some gg ∨ gg = w.heap.size + 1) : ∀ k, v.ownBlock = some k → (Value.slice (some ⟨gg, 0, none⟩) l'.length cap).ownBlock ≠ some k := by
  intro k hk he
  have e : gg = k := by simpa [Value.ownBlock] using he
  subst e
  rcases hat with h1 | h1
  · exact hu _ hk h1
  · have := (World.ownsRow.lt h _ hk).2
    omega
theorem far_row {base : Nat} {v u : Value} {l : List Int} {cs : Array Value} {i : Nat} (h : Mw base w v l) (hq : Whole w q6 50 cs) : Mw base (w.setCell ⟨q6, i, none⟩ u) v l := own_far (p := ⟨q6, i, none⟩) h (own_apart h hq (by decide)) u
theorem built_row {o : Obj} {cs : Array Value} {t : TypeId} {k base : Nat} {v : Value} {l : List Int} (hw : Whole w k t cs) (m : Mw base w v l) (ht : 2 ≠ t) (hg : (w.alloc o).grownBy w1 v.ownBlock) : Whole w1 k t cs :=
  (hw.alloc o).grown hg (fun he => own_apart m hw ht he.symm)

theorem Bld.ends {o : Obj} {x : Int} {gg cap : Nat} (h : Bld w wr q0 q6 n e s g) (hne : q0 ≠ q6) (hq6 : w.heap.size ≤ q6) (hg : (wr.alloc o).grownBy w1 e.ownBlock) (hr : w1.ownsRow w.heap.size 2 1 (.slice (some ⟨gg, 0, none⟩) (n.ends ++ [x]).length cap) (n.ends ++ [x]).length ((n.ends ++ [x]).map (Value.int .i64))) (hat : e.ownBlock = some gg ∨ gg = wr.heap.size + 1) :
    Bld w (w1.setCell ⟨q6, 2, none⟩ (.slice (some ⟨gg, 0, none⟩) (n.ends ++ [x]).length cap)) q0 q6 { n with ends := n.ends ++ [x] } (.slice (some ⟨gg, 0, none⟩) (n.ends ++ [x]).length cap) s g := by
  have hn := built_row h.node h.mine.me (by decide) hg
  have h0 := built_row h.res h.mine.me (by decide) hg
  have hb : Below w.heap.size w w1 := (h.bel.alloc h.bel.size o).grown hg (Nat.le_trans h.bel.size (by simp)) h.mine.me.blk
  refine ⟨hn.put 2 _, h0.far (p := ⟨q6, 2, none⟩) hne _, ⟨far_row hr hn, far_row (kept_row h.mine.ms hg (fun k h1 h2 => h.mine.es k h2 h1)) hn, far_row (kept_row h.mine.mg hg (fun k h1 h2 => h.mine.eg k h2 h1)) hn, (fun k h1 h2 => new_row (l' := n.ends ++ [x]) (cap := cap) h.mine.ms (fun k h1 h2 => h.mine.es k h2 h1) hat k h2 h1), (fun k h1 h2 => new_row (l' := n.ends ++ [x]) (cap := cap) h.mine.mg (fun k h1 h2 => h.mine.eg k h2 h1) hat k h2 h1), h.mine.sg⟩, hb.setCell (p := ⟨q6, 2, none⟩) hq6 _⟩
theorem Bld.ends_at {o : Obj} (h : Bld w wr q0 q6 n e s g) (hg : (wr.alloc o).grownBy w1 e.ownBlock) : w1.cell? ⟨q6, 2, none⟩ = some e ∧ w1.frozen? ⟨q6, 2, none⟩ = false := by
  have hn := built_row h.node h.mine.me (by decide) hg
  exact ⟨hn.cell 2, hn.frozen 2⟩
theorem Bld.slots {o : Obj} {x : Int} {gg cap : Nat} (h : Bld w wr q0 q6 n e s g) (hne : q0 ≠ q6) (hq6 : w.heap.size ≤ q6) (hg : (wr.alloc o).grownBy w1 s.ownBlock) (hr : w1.ownsRow w.heap.size 2 1 (.slice (some ⟨gg, 0, none⟩) (n.slots ++ [x]).length cap) (n.slots ++ [x]).length ((n.slots ++ [x]).map (Value.int .i64))) (hat : s.ownBlock = some gg ∨ gg = wr.heap.size + 1) :
    Bld w (w1.setCell ⟨q6, 3, none⟩ (.slice (some ⟨gg, 0, none⟩) (n.slots ++ [x]).length cap)) q0 q6 { n with slots := n.slots ++ [x] } e (.slice (some ⟨gg, 0, none⟩) (n.slots ++ [x]).length cap) g := by
  have hn := built_row h.node h.mine.ms (by decide) hg
  have h0 := built_row h.res h.mine.ms (by decide) hg
  have hb : Below w.heap.size w w1 := (h.bel.alloc h.bel.size o).grown hg (Nat.le_trans h.bel.size (by simp)) h.mine.ms.blk
  refine ⟨hn.put 3 _, h0.far (p := ⟨q6, 3, none⟩) hne _, ⟨far_row (kept_row h.mine.me hg h.mine.es) hn, far_row hr hn, far_row (kept_row h.mine.mg hg (fun k h1 h2 => h.mine.sg k h2 h1)) hn, (new_row h.mine.me h.mine.es hat), h.mine.eg, (fun k h1 h2 => new_row (l' := n.slots ++ [x]) (cap := cap) h.mine.mg (fun k h1 h2 => h.mine.sg k h2 h1) hat k h2 h1)⟩, hb.setCell (p := ⟨q6, 3, none⟩) hq6 _⟩
theorem Bld.slots_at {o : Obj} (h : Bld w wr q0 q6 n e s g) (hg : (wr.alloc o).grownBy w1 s.ownBlock) : w1.cell? ⟨q6, 3, none⟩ = some s ∧ w1.frozen? ⟨q6, 3, none⟩ = false := by
  have hn := built_row h.node h.mine.ms (by decide) hg
  exact ⟨hn.cell 3, hn.frozen 3⟩
theorem Bld.gaps {o : Obj} {x : Int} {gg cap : Nat} (h : Bld w wr q0 q6 n e s g) (hne : q0 ≠ q6) (hq6 : w.heap.size ≤ q6) (hg : (wr.alloc o).grownBy w1 g.ownBlock) (hr : w1.ownsRow w.heap.size 2 1 (.slice (some ⟨gg, 0, none⟩) (n.gaps ++ [x]).length cap) (n.gaps ++ [x]).length ((n.gaps ++ [x]).map (Value.int .i64))) (hat : g.ownBlock = some gg ∨ gg = wr.heap.size + 1) :
    Bld w (w1.setCell ⟨q6, 4, none⟩ (.slice (some ⟨gg, 0, none⟩) (n.gaps ++ [x]).length cap)) q0 q6 { n with gaps := n.gaps ++ [x] } e s (.slice (some ⟨gg, 0, none⟩) (n.gaps ++ [x]).length cap) := by
  have hn := built_row h.node h.mine.mg (by decide) hg
  have h0 := built_row h.res h.mine.mg (by decide) hg
  have hb : Below w.heap.size w w1 := (h.bel.alloc h.bel.size o).grown hg (Nat.le_trans h.bel.size (by simp)) h.mine.mg.blk
  refine ⟨hn.put 4 _, h0.far (p := ⟨q6, 4, none⟩) hne _, ⟨far_row (kept_row h.mine.me hg h.mine.eg) hn, far_row (kept_row h.mine.ms hg h.mine.sg) hn, far_row hr hn, h.mine.es, (new_row h.mine.me h.mine.eg hat), (new_row h.mine.ms h.mine.sg hat)⟩, hb.setCell (p := ⟨q6, 4, none⟩) hq6 _⟩
theorem Bld.gaps_at {o : Obj} (h : Bld w wr q0 q6 n e s g) (hg : (wr.alloc o).grownBy w1 g.ownBlock) : w1.cell? ⟨q6, 4, none⟩ = some g ∧ w1.frozen? ⟨q6, 4, none⟩ = false := by
  have hn := built_row h.node h.mine.mg (by decide) hg
  exact ⟨hn.cell 4, hn.frozen 4⟩

/-- What comes of words. -/
def NodeWPost (base : Nat) (w' : World) (e : Ending) (r : Option Nd × Nat) : Prop :=
  match r.1 with
  | none => e = .returned (.tuple #[nilN, .bool false, .int .i64 (r.2 : Int)])
  | some n => ∃ x y z, e = .returned (.tuple #[n.val x y z, .bool true, .int .i64 (r.2 : Int)]) ∧ NdMine base w' n x y z
/-- The first entries. -/
def upTo (n : Nd) (i : Nat) : Nd := ⟨n.inner, n.lo, n.ends.take i, n.slots.take i, n.gaps.take i⟩
theorem take_one {l : List Int} {i : Nat} (h : i < l.length) : l.take (i + 1) = l.take i ++ [nth l i] := by
  rw [List.take_add_one, List.getElem?_eq_getElem h]
  unfold nth
  rw [List.getD_eq_getElem?_getD, List.getElem?_eq_getElem h]
  rfl
theorem upTo_all {n : Nd} (h : n.Counted) : upTo n n.ends.length = n := by
  obtain ⟨a, b, c, d, e⟩ := n
  have h1 := h.sl
  have h2 := h.gl
  simp only at h1 h2
  unfold upTo
  simp only [List.take_length]
  rw [← h1, List.take_length, h1, ← h2, List.take_length]
end

set_option maxRecDepth 4000 in
set_option maxHeartbeats 8000000 in
theorem refNodeW_c {w : World} {v : Value} {x : List Int} (h : Wds w v x) (hx : x.length = 28) (hf : Fits x) : Calls Try.prog 30 #[v] w fun e w' => NodeWPost w.heap.size w' e (nodeW x) ∧ Below w.heap.size w w' := by
  obtain ⟨i0, hi0, hz0, hz1, hz2⟩ := int64_info'
  obtain ⟨A, c, rfl, hc, hA⟩ := h
  rw [hx] at hc hA ⊢
  obtain ⟨b, off, rfl, ca⟩ := hA (by omega)
  have CA : Hid (∀ W, Below w.heap.size w W → ∀ k, k < 28 → W.cell? ⟨b, off + k, none⟩ = some (.int .i64 (nth x k))) := Lib.hid (fun W hb k hk => by
    have e := ca k hk
    rw [hb.cell (p := ⟨b, off + k, none⟩) (World.block_lt_of_cell? w _ e)]; exact e)
  obtain ⟨x0, hx0⟩ : ∃ x0, nth x 0 = x0 := ⟨_, rfl⟩
  have h0 := hf 0 (by omega)
  rw [hx0] at h0
  have HX := Lib.hid hx0
  have G := Lib.hid ((Bag.new w).add 50 #[.bool false, .int .i64 0, .slice none 0 0, .slice none 0 0, .slice none 0 0])
  have c0 := CA.out _ G.out.bel 0 (by omega)
  rw [Nat.add_zero, hx0] at c0
  clear ca hA hf
  have hd := div16 h0.1 h0.2
  have hm : -16 < x0.tmod 16 ∧ x0.tmod 16 < 16 := ⟨Int.lt_tmod_of_pos x0 (by omega), Int.tmod_lt_of_pos x0 (by omega)⟩
  have hw : IntKind.i64.wrap (x0.tdiv 16) = x0.tdiv 16 := by rw [IntKind.wrap_i64]; omega
  have hw2 : IntKind.i64.wrap (x0.tmod 16) = x0.tmod 16 := by rw [IntKind.wrap_i64]; omega
  have hw3 : wrap64 (x0.tdiv 16) = x0.tdiv 16 := by unfold wrap64; omega
  have hw4 : wrap64 (x0.tmod 16) = x0.tmod 16 := by unfold wrap64; omega
  have hda := Int.mul_tdiv_add_tmod x0 16
  obtain ⟨P, hP⟩ : ∃ P : Ending → World → Prop, (fun e w' => NodeWPost w.heap.size w' e (nodeW x) ∧ Below w.heap.size w w') = P := ⟨_, rfl⟩
  rw [hP]
  have FIN : Hid (∀ W e, NodeWPost w.heap.size W e (nodeW x) → Below w.heap.size w W → P e W) := Lib.hid (by
    intro W e h1 h2
    rw [← hP]
    exact ⟨h1, h2⟩)
  clear hP
  have HT : Hid (entOk x0 = decide (1 ≤ x0.tdiv 16 ∧ x0.tdiv 16 ≤ 8 ∧ (x0.tmod 16 = 1 ∨ x0.tmod 16 = 2))) := Lib.hid rfl
  have NO : Hid (entOk x0 = false → ∀ W, Below w.heap.size w W → P (.returned (.tuple #[nilN, .bool false, .int .i64 1])) W) := Lib.hid (fun hk W hb => FIN.out W _ (by
    have e : nodeW x = (none, 1) := by unfold nodeW; rw [hx0, hk]; rfl
    rw [e]; rfl) hb)
  have P0 := Lib.hid G.out.v0
  have NB := Lib.hid G.out.bel
  obtain ⟨z0, z1, z2, z3, z4⟩ := row5 G.out.v0
  obtain ⟨f0, f1, f2, f3, f4⟩ := row5f G.out.v0
  clear hx0
  by_cases n1 : x0 < 0
  · have FX := Lib.hid (NO.out (by rw [HT.out]; exact decide_eq_false (by omega)) _ NB.out)
    have d1 : decide (x0 < 0) = true := decide_eq_true n1
    clear NO FIN CA hd hm hda HX
    go_enter Try.func30, Try.ntmps30
    go_wp2_with fail
    refine bodyPost_ret (results_row_tmp2 rfl _ _ w.heap.size 50 _ (0, 0) _ rfl P0.out Try.underlying50 rfl (by kernel_rfl)) rfl ?_
    exact FX.out
  · have d1 : decide (x0 < 0) = false := decide_eq_false n1
    have hem : x0.tmod 16 = x0 % 16 := Int.tmod_eq_emod_of_nonneg (by omega)
    rw [hem] at HT hw2 hw4 hda
    by_cases n2 : x0 % 16 < 1
    · have FX := Lib.hid (NO.out (by rw [HT.out]; exact decide_eq_false (by omega)) _ NB.out)
      have d2 : decide (x0 % 16 < 1) = true := decide_eq_true n2
      clear NO FIN CA hd hm hda HX hem
      go_enter Try.func30, Try.ntmps30
      go_wp2_with fail
      refine bodyPost_ret (results_row_tmp2 rfl _ _ w.heap.size 50 _ (0, 0) _ rfl P0.out Try.underlying50 rfl (by kernel_rfl)) rfl ?_
      exact FX.out
    · have d2 : decide (x0 % 16 < 1) = false := decide_eq_false n2
      by_cases n3 : 2 < x0 % 16
      · have FX := Lib.hid (NO.out (by rw [HT.out]; exact decide_eq_false (by omega)) _ NB.out)
        have d3 : decide (2 < x0 % 16) = true := decide_eq_true n3
        clear NO FIN CA hd hm hda HX hem
        go_enter Try.func30, Try.ntmps30
        go_wp2_with fail
        refine bodyPost_ret (results_row_tmp2 rfl _ _ w.heap.size 50 _ (0, 0) _ rfl P0.out Try.underlying50 rfl (by kernel_rfl)) rfl ?_
        exact FX.out
      · have d3 : decide (2 < x0 % 16) = false := decide_eq_false n3
        by_cases n4 : x0.tdiv 16 < 1
        · have FX := Lib.hid (NO.out (by rw [HT.out]; exact decide_eq_false (by omega)) _ NB.out)
          have d4 : decide (x0.tdiv 16 < 1) = true := decide_eq_true n4
          clear NO FIN CA hd hm hda HX hem
          go_enter Try.func30, Try.ntmps30
          go_wp2_with fail
          refine bodyPost_ret (results_row_tmp2 rfl _ _ w.heap.size 50 _ (0, 0) _ rfl P0.out Try.underlying50 rfl (by kernel_rfl)) rfl ?_
          exact FX.out
        · have d4 : decide (x0.tdiv 16 < 1) = false := decide_eq_false n4
          by_cases n5 : 8 < x0.tdiv 16
          · have FX := Lib.hid (NO.out (by rw [HT.out]; exact decide_eq_false (by omega)) _ NB.out)
            have d5 : decide (8 < x0.tdiv 16) = true := decide_eq_true n5
            clear NO FIN CA hd hm hda HX hem
            go_enter Try.func30, Try.ntmps30
            go_wp2_with fail
            refine bodyPost_ret (results_row_tmp2 rfl _ _ w.heap.size 50 _ (0, 0) _ rfl P0.out Try.underlying50 rfl (by kernel_rfl)) rfl ?_
            exact FX.out
          · have d5 : decide (8 < x0.tdiv 16) = false := decide_eq_false n5
            have hk : entOk x0 = true := by rw [HT.out]; exact decide_eq_true (by omega)
            have hk' : entOk (nth x 0) = true := by rw [HX.out]; exact hk
            obtain ⟨hc1, hf1, hl1⟩ := unN_counted hx hk'
            obtain ⟨hq, hk1⟩ := entK_is hk
            have hk8 := entK_hi x0
            rw [HX.out] at hc1 hf1 hl1
            have HNW : Hid ((NdF (unN x (entK x0)) → nodeW x = (some (unN x (entK x0)), 2 + 3 * entK x0)) ∧ (¬ NdF (unN x (entK x0)) → nodeW x = (none, 2 + 3 * entK x0))) := Lib.hid (by
              unfold nodeW
              rw [HX.out, hk, if_pos rfl]
              exact ⟨fun h => by rw [if_pos h], fun h => by rw [if_neg h]⟩)
            have HIN : Hid ((unN x (entK x0)).inner = (x0.tmod 16 == 2) ∧ (unN x (entK x0)).lo = nth x 1) := Lib.hid ⟨by rw [← HX.out]; rfl, rfl⟩
            have HEL : Hid (∀ i, i < entK x0 → nth (unN x (entK x0)).ends i = nth x (2 + i) ∧ nth (unN x (entK x0)).slots i = nth x (10 + i) ∧ nth (unN x (entK x0)).gaps i = nth x (18 + i)) := Lib.hid (fun i hi => by
              unfold unN
              exact ⟨by rw [nth_take, if_pos hi, nth_drop], by rw [nth_take, if_pos hi, nth_drop], by rw [nth_take, if_pos hi, nth_drop]⟩)
            have HCN := Lib.hid hc1
            have HL1 := Lib.hid hl1
            clear hk hk' hc1 hf1 hl1 NO NB hda hm hd HT hem n2 n3 n4 n5
            generalize unN x (entK x0) = n at *
            generalize entK x0 = K at *
            rw [hq] at hw hw3 d4 d5
            clear z0 z1 z2 z3 z4 f0 f1 f2 f3 f4 P0
            go_enter Try.func30, Try.ntmps30
            go_upto_region 4 with (fail)
            generalize hw0 : w.alloc (.cells #[.bool false, .int .i64 0, .slice none 0 0, .slice none 0 0, .slice none 0 0] 50) = w0 at *
            have HC : Hid (∀ W, Below w0.heap.size w0 W → (W.cell? ⟨b, off, none⟩ = some (.int .i64 x0) ∧ W.cell? ⟨b, off + 1, none⟩ = some (.int .i64 (nth x 1)))) := Lib.hid (fun W h => by
              have h := below_then G.out.bel h (Nat.le_refl _)
              have e0 := CA.out W h 0 (by omega)
              rw [Nat.add_zero, HX.out] at e0
              exact ⟨e0, CA.out W h 1 (by omega)⟩)
            have B0 := Lib.hid (below_drew (Below.refl w0.heap.size w0))
            have B6 := Lib.hid (below_drew (below_new w0 (.cells #[.bool false, .int .i64 0, .slice none 0 0, .slice none 0 0, .slice none 0 0] 50)))
            have B7 := Lib.hid (below_drew (below_new w0 (.cells #[.bool (x0.tmod 16 == 2), .int .i64 (nth x 1), .slice none 0 0, .slice none 0 0, .slice none 0 0] 50)))
            have GW := Lib.hid ((G.out.add 50 #[.bool (x0.tmod 16 == 2), .int .i64 (nth x 1), .slice none 0 0, .slice none 0 0, .slice none 0 0]).drew)
            have HQ : Hid (w.heap.size ≤ w0.heap.size ∧ w.heap.size ≠ w0.heap.size) := Lib.hid (by have := G.out.v0.lt; omega)
            clear hw0 c0
            go_region_held3 (fun W => W.cell? ⟨b, off, none⟩ = some (.int .i64 x0) ∧ W.cell? ⟨b, off + 1, none⟩ = some (.int .i64 (nth x 1)))
              (first | with_reducible exact HC.out _ B0.out | with_reducible exact HC.out _ B6.out | with_reducible exact HC.out _ B7.out | (refine HC.out _ ?_; repeat (first | with_reducible exact B6.out | with_reducible refine below_st ?_ (by omega))))
              (fail)
            all_goals
              rename_i hs
              clear hs HC B0 B6 B7 G
              generalize (w0.alloc (.cells #[.bool (x0.tmod 16 == 2), .int .i64 (nth x 1), .slice none 0 0, .slice none 0 0, .slice none 0 0] 50)).drew = wc at *
              generalize w0.heap.size = q at *
              have BL : Hid (Bld w wc w.heap.size q (upTo n 0) (.slice none 0 0) (.slice none 0 0) (.slice none 0 0)) := Lib.hid ⟨by
                have e : #[Value.bool (upTo n 0).inner, .int .i64 (upTo n 0).lo, .slice none 0 0, .slice none 0 0, .slice none 0 0] = #[.bool (x0.tmod 16 == 2), .int .i64 (nth x 1), .slice none 0 0, .slice none 0 0, .slice none 0 0] := by rw [← HIN.out.1, ← HIN.out.2]; rfl
                rw [e]; exact GW.out.v0, GW.out.v1, ⟨Mw.nil _ _, Mw.nil _ _, Mw.nil _ _, fun k h => by simp [Value.ownBlock] at h, fun k h => by simp [Value.ownBlock] at h, fun k h => by simp [Value.ownBlock] at h⟩, GW.out.bel⟩
              clear GW HX n1 h0 d1 d2 d3 d4 d5
              go_wp2_with fail
              go_loopw [7] (fun iv wr => ∃ (i : Nat) (e s g : Value), i ≤ K ∧ iv = .int .i64 i ∧ Bld w wr w.heap.size q (upTo n i) e s g) (fun iv _ => K - (intOf iv).toNat)
              case atStart => exact ⟨0, _, _, _, by omega, rfl, BL.out⟩
              case round =>
                obtain ⟨i, ve, vs, vg, hi, rfl, hB⟩ := hrel
                clear BL
                by_cases hlt : i < K
                · have hlen := HCN.out
                  have l1 : (upTo n i).ends.length = i := by show (n.ends.take i).length = i; rw [List.length_take]; have := HL1.out; omega
                  have l2 : (upTo n i).slots.length = i := by show (n.slots.take i).length = i; rw [List.length_take]; have := HL1.out; have := hlen.sl; omega
                  have l3 : (upTo n i).gaps.length = i := by show (n.gaps.take i).length = i; rw [List.length_take]; have := HL1.out; have := hlen.gl; omega
                  have HU : Hid (∀ y1 y2 y3, nth n.ends i = y1 → nth n.slots i = y2 → nth n.gaps i = y3 → (⟨(upTo n i).inner, (upTo n i).lo, (upTo n i).ends ++ [y1], (upTo n i).slots ++ [y2], (upTo n i).gaps ++ [y3]⟩ : Nd) = upTo n (i + 1)) := Lib.hid (by
                    rintro y1 y2 y3 rfl rfl rfl
                    have e1 := HL1.out
                    have e2 := hlen.sl
                    have e3 := hlen.gl
                    unfold upTo
                    rw [take_one (l := n.ends) (by omega), take_one (l := n.slots) (by omega), take_one (l := n.gaps) (by omega)])
                  have LL := Lib.hid (⟨l1, l2, l3⟩ : _ ∧ _ ∧ _)
                  have BB := Lib.hid hB
                  have O1 := hB.mine.me
                  have O2 := hB.mine.ms
                  have O3 := hB.mine.mg
                  unfold Mw at O1 O2 O3
                  rw [l1] at O1
                  rw [l2] at O2
                  rw [l3] at O3
                  obtain ⟨A1, k1, rfl⟩ := own_slice O1
                  obtain ⟨A2, k2, rfl⟩ := own_slice O2
                  obtain ⟨A3, k3, rfl⟩ := own_slice O3
                  clear O1 O2 O3 hlen l1 l2 l3 hB
                  have ht := HEL.out i hlt
                  obtain ⟨t1, t2, t3⟩ := ht
                  have HTT := Lib.hid (⟨t1, t2, t3⟩ : _ ∧ _ ∧ _)
                  clear t1 t2 t3
                  have hw5 : IntKind.i64.wrap (2 + (i : Int)) = 2 + (i : Int) := by rw [IntKind.wrap_i64]; omega
                  have hx1a : (0 : Int) ≤ 2 + (i : Int) := by omega
                  have hx1b : 2 + (i : Int) < 28 := by omega
                  have hx1c : (2 + (i : Int)).toNat = 2 + i := by omega
                  have hx2a : (0 : Int) ≤ 10 + (i : Int) := by omega
                  have hx2b : 10 + (i : Int) < 28 := by omega
                  have hx2c : (10 + (i : Int)).toNat = 10 + i := by omega
                  have hx3a : (0 : Int) ≤ 18 + (i : Int) := by omega
                  have hx3b : 18 + (i : Int) < 28 := by omega
                  have hx3c : (18 + (i : Int)).toNat = 18 + i := by omega
                  have hw6 : IntKind.i64.wrap (10 + (i : Int)) = 10 + (i : Int) := by rw [IntKind.wrap_i64]; omega
                  have hw7 : IntKind.i64.wrap (18 + (i : Int)) = 18 + (i : Int) := by rw [IntKind.wrap_i64]; omega
                  generalize hu : upTo n i = u at *
                  clear hu
                  obtain ⟨ui, ul, ue, us, ug⟩ := u
                  simp only at *
                  obtain ⟨y1, hy1⟩ : ∃ y, nth x (2 + i) = y := ⟨_, rfl⟩
                  have ya := CA.out wr BB.out.bel (2 + i) (by omega)
                  rw [hy1] at ya HTT
                  clear hy1
                  have a0 : wr.cell? ⟨q, 2, none⟩ = some (.slice A1 i k1) := BB.out.node.cell 2
                  have a1 : (wr.alloc (.cells #[.int .i64 y1] 2)).cell? ⟨q, 2, none⟩ = some (.slice A1 i k1) := box_cell _ _ _ _ a0
                  have BD := Lib.hid (BB.out.still (below_drew (Below.refl wr.heap.size wr)))
                  have BC : Hid (∀ w1, (wr.drew.alloc (.cells #[.int .i64 y1] 2)).grownBy w1 (Value.slice A1 i k1).ownBlock → w1.cell? ⟨q, 2, none⟩ = some (.slice A1 i k1) ∧ w1.frozen? ⟨q, 2, none⟩ = false) := Lib.hid (fun w1 hg => BD.out.ends_at hg)
                  have O : Hid (wr.drew.ownsRow w.heap.size 2 1 (.slice A1 i k1) i (ue.map (Value.int .i64))) := Lib.hid (by
                    have := BD.out.mine.me
                    unfold Mw at this
                    rw [LL.out.1] at this
                    exact this)
                  have hsz : w.heap.size ≤ wr.heap.size := BB.out.bel.size
                  go_upto_region 8 with (fail)
                  set_option maxRecDepth 100000 in
                  go_region_law
                    ((refine step_append_lies _ (by rfl) _ _ _ (by rfl) w.heap.size 2 i0 _ 1 8 Try.underlying31 hi0 hz0 hz1 hz2 rfl (by omega) _ i _ (by rfl) (O.out.alloc _)
                        ⟨wr.heap.size, 0, none⟩ 1 1 [.int .i64 y1] (by rfl) (by rfl) (World.news_of_block (cs := #[.int .i64 y1]) (t := 2) (fr := (0, 0)) (heap_alloc_new wr _)) (by simp [Value.oneCell'])
                        (by omega) (by simp only [maxLen]; omega) (by omega) (by simp; omega) (wr.heap.size + 1) (by simp) ?_; intro gg cap w1 hown1 hgrow hat hlt'; have b2 := (BC.out _ hgrow).1; have bf := (BC.out _ hgrow).2))
                  all_goals
                    have e1 : (ue ++ [y1]).length = i + 1 := by rw [List.length_append, LL.out.1]; rfl
                    have B2 := BD.out.ends (x := y1) (gg := gg) (cap := cap) HQ.out.2 HQ.out.1 hgrow (by rw [e1]; simpa using hown1) hat
                    rw [e1] at B2
                    have BB := Lib.hid B2
                    clear B2 b2 bf hown1 hgrow hat hlt' O BC BD a0 a1 ya hsz e1
                    simp only at BB
                    generalize w1.setCell ⟨q, 2, none⟩ (.slice (some ⟨gg, 0, none⟩) (i + 1) cap) = w1b at *
                    clear w1
                    go_upto_region 9 with (fail)
                    obtain ⟨y2, hy2⟩ : ∃ y, nth x (10 + i) = y := ⟨_, rfl⟩
                    have ya := CA.out w1b BB.out.bel (10 + i) (by omega)
                    rw [hy2] at ya HTT
                    clear hy2
                    have a0 : w1b.cell? ⟨q, 3, none⟩ = some (.slice A2 i k2) := BB.out.node.cell 3
                    have a1 : (w1b.alloc (.cells #[.int .i64 y2] 2)).cell? ⟨q, 3, none⟩ = some (.slice A2 i k2) := box_cell _ _ _ _ a0
                    have BD := Lib.hid (BB.out.still (below_drew (Below.refl w1b.heap.size w1b)))
                    have BC : Hid (∀ w1, (w1b.drew.alloc (.cells #[.int .i64 y2] 2)).grownBy w1 (Value.slice A2 i k2).ownBlock → w1.cell? ⟨q, 3, none⟩ = some (.slice A2 i k2) ∧ w1.frozen? ⟨q, 3, none⟩ = false) := Lib.hid (fun w1 hg => BD.out.slots_at hg)
                    have O : Hid (w1b.drew.ownsRow w.heap.size 2 1 (.slice A2 i k2) i (us.map (Value.int .i64))) := Lib.hid (by
                      have := BD.out.mine.ms
                      unfold Mw at this
                      rw [LL.out.2.1] at this
                      exact this)
                    have hsz : w.heap.size ≤ w1b.heap.size := BB.out.bel.size
                    set_option maxRecDepth 100000 in
                    go_region_law
                      ((refine step_append_lies _ (by rfl) _ _ _ (by rfl) w.heap.size 2 i0 _ 1 8 Try.underlying31 hi0 hz0 hz1 hz2 rfl (by omega) _ i _ (by rfl) (O.out.alloc _)
                          ⟨w1b.heap.size, 0, none⟩ 1 1 [.int .i64 y2] (by rfl) (by rfl) (World.news_of_block (cs := #[.int .i64 y2]) (t := 2) (fr := (0, 0)) (heap_alloc_new w1b _)) (by simp [Value.oneCell'])
                          (by omega) (by simp only [maxLen]; omega) (by omega) (by simp; omega) (w1b.heap.size + 1) (by simp) ?_; intro gg cap w1 hown1 hgrow hat hlt'; have b2 := (BC.out _ hgrow).1; have bf := (BC.out _ hgrow).2))
                    all_goals
                      have e1 : (us ++ [y2]).length = i + 1 := by rw [List.length_append, LL.out.2.1]; rfl
                      have B2 := BD.out.slots (x := y2) (gg := gg) (cap := cap) HQ.out.2 HQ.out.1 hgrow (by rw [e1]; simpa using hown1) hat
                      rw [e1] at B2
                      have BB := Lib.hid B2
                      clear B2 b2 bf hown1 hgrow hat hlt' O BC BD a0 a1 ya hsz e1
                      simp only at BB
                      generalize w1.setCell ⟨q, 3, none⟩ (.slice (some ⟨gg, 0, none⟩) (i + 1) cap) = w2b at *
                      clear w1
                      go_upto_region 10 with (fail)
                      obtain ⟨y3, hy3⟩ : ∃ y, nth x (18 + i) = y := ⟨_, rfl⟩
                      have ya := CA.out w2b BB.out.bel (18 + i) (by omega)
                      rw [hy3] at ya HTT
                      clear hy3
                      have a0 : w2b.cell? ⟨q, 4, none⟩ = some (.slice A3 i k3) := BB.out.node.cell 4
                      have a1 : (w2b.alloc (.cells #[.int .i64 y3] 2)).cell? ⟨q, 4, none⟩ = some (.slice A3 i k3) := box_cell _ _ _ _ a0
                      have BD := Lib.hid (BB.out.still (below_drew (Below.refl w2b.heap.size w2b)))
                      have BC : Hid (∀ w1, (w2b.drew.alloc (.cells #[.int .i64 y3] 2)).grownBy w1 (Value.slice A3 i k3).ownBlock → w1.cell? ⟨q, 4, none⟩ = some (.slice A3 i k3) ∧ w1.frozen? ⟨q, 4, none⟩ = false) := Lib.hid (fun w1 hg => BD.out.gaps_at hg)
                      have O : Hid (w2b.drew.ownsRow w.heap.size 2 1 (.slice A3 i k3) i (ug.map (Value.int .i64))) := Lib.hid (by
                        have := BD.out.mine.mg
                        unfold Mw at this
                        rw [LL.out.2.2] at this
                        exact this)
                      have hsz : w.heap.size ≤ w2b.heap.size := BB.out.bel.size
                      set_option maxRecDepth 100000 in
                      go_region_law
                        ((refine step_append_lies _ (by rfl) _ _ _ (by rfl) w.heap.size 2 i0 _ 1 8 Try.underlying31 hi0 hz0 hz1 hz2 rfl (by omega) _ i _ (by rfl) (O.out.alloc _)
                            ⟨w2b.heap.size, 0, none⟩ 1 1 [.int .i64 y3] (by rfl) (by rfl) (World.news_of_block (cs := #[.int .i64 y3]) (t := 2) (fr := (0, 0)) (heap_alloc_new w2b _)) (by simp [Value.oneCell'])
                            (by omega) (by simp only [maxLen]; omega) (by omega) (by simp; omega) (w2b.heap.size + 1) (by simp) ?_; intro gg cap w1 hown1 hgrow hat hlt'; have b2 := (BC.out _ hgrow).1; have bf := (BC.out _ hgrow).2))
                      all_goals
                        have e1 : (ug ++ [y3]).length = i + 1 := by rw [List.length_append, LL.out.2.2]; rfl
                        have B2 := BD.out.gaps (x := y3) (gg := gg) (cap := cap) HQ.out.2 HQ.out.1 hgrow (by rw [e1]; simpa using hown1) hat
                        rw [e1] at B2
                        have BB := Lib.hid B2
                        clear B2 b2 bf hown1 hgrow hat hlt' O BC BD a0 a1 ya hsz e1
                        simp only at BB
                        generalize w1.setCell ⟨q, 4, none⟩ (.slice (some ⟨gg, 0, none⟩) (i + 1) cap) = w3b at *
                        clear w1
                        have UE := HU.out _ _ _ HTT.out.1 HTT.out.2.1 HTT.out.2.2
                        rw [UE] at BB
                        clear HTT HU UE LL
                        go_wp2_with fail
                        go_roundw
                        case rel => exact ⟨i + 1, _, _, _, by omega, by go_num, BB.out⟩
                        case measure => simp [intOf]; omega
                · have hiK : i = K := by omega
                  subst hiK
                  have hup := upTo_all HCN.out
                  rw [HL1.out] at hup
                  rw [hup] at hB
                  clear hup
                  obtain ⟨A1, k1, rfl⟩ := own_slice hB.mine.me
                  obtain ⟨A2, k2, rfl⟩ := own_slice hB.mine.ms
                  obtain ⟨A3, k3, rfl⟩ := own_slice hB.mine.mg
                  obtain ⟨r, hr⟩ := tells_any (NdF n)
                  have CF := Lib.hid (refFormedN_c hB.mine.here hr)
                  have HRR := Lib.hid hr
                  have BB := Lib.hid hB
                  obtain ⟨d0, d1, d2, d3, d4⟩ := row5 hB.node
                  have hw8 : IntKind.i64.wrap (3 * (i : Int)) = 3 * (i : Int) := by rw [IntKind.wrap_i64]; omega
                  have hw9 : IntKind.i64.wrap (2 + 3 * (i : Int)) = 2 + 3 * (i : Int) := by rw [IntKind.wrap_i64]; omega
                  have HSZ : Hid ((2 + 3 * (i : Int)) = ((2 + 3 * i : Nat) : Int)) := Lib.hid (by omega)
                  clear hB hr CA HEL HIN HCN
                  unfold Nd.val at CF
                  generalize n.ends.length = L1 at *
                  generalize n.slots.length = L2 at *
                  generalize n.gaps.length = L3 at *
                  go_wp2_with fail
                  refine CF.out.mono ?_
                  rintro e w2 ⟨rfl, hb⟩
                  have BB := Lib.hid (BB.out.still hb)
                  clear hb CF d0 d1 d2 d3 d4
                  obtain ⟨d0, d1, d2, d3, d4⟩ := row5 BB.out.node
                  obtain ⟨z0, z1, z2, z3, z4⟩ := row5 BB.out.res
                  obtain ⟨f0, f1, f2, f3, f4⟩ := row5f BB.out.res
                  cases r with
                  | false =>
                    have hn : ¬ NdF n := fun h => by have := HRR.out.2 h; cases this
                    have FX : Hid (P (.returned (.tuple #[nilN, .bool false, .int .i64 (2 + 3 * (i : Int))])) (set5 w2 w.heap.size (.bool false) (.int .i64 0) (.slice none 0 0) (.slice none 0 0) (.slice none 0 0))) := Lib.hid (by
                      refine FIN.out _ _ ?_ (BB.out.bel.trans ((five_only _ _ _ _ _ _ _).below (fun k hk => by rw [hk]; exact Nat.le_refl _) BB.out.bel.size))
                      rw [HNW.out.2 hn, HSZ.out]
                      rfl)
                    have P0 := Lib.hid (five_put BB.out.res (.bool false) (.int .i64 0) (.slice none 0 0) (.slice none 0 0) (.slice none 0 0))
                    clear FIN HNW BB
                    go_wp2_with fail
                    refine bodyPost_ret (results_row_tmp2 rfl _ _ w.heap.size 50 _ (0, 0) _ rfl P0.out Try.underlying50 rfl (by kernel_rfl)) rfl ?_
                    exact FX.out
                  | true =>
                    have hn : NdF n := HRR.out.1 rfl
                    have FX : Hid (P (.returned (.tuple #[.agg #[.bool n.inner, .int .i64 n.lo, .slice A1 L1 k1, .slice A2 L2 k2, .slice A3 L3 k3], .bool true, .int .i64 (2 + 3 * (i : Int))])) (set5 w2 w.heap.size (.bool n.inner) (.int .i64 n.lo) (.slice A1 L1 k1) (.slice A2 L2 k2) (.slice A3 L3 k3))) := Lib.hid (by
                      refine FIN.out _ _ ?_ (BB.out.bel.trans ((five_only _ _ _ _ _ _ _).below (fun k hk => by rw [hk]; exact Nat.le_refl _) BB.out.bel.size))
                      rw [HNW.out.1 hn, HSZ.out]
                      exact ⟨_, _, _, rfl, BB.out.mine.far BB.out.res (five_only _ _ _ _ _ _ _)⟩)
                    have P0 := Lib.hid (five_put BB.out.res (.bool n.inner) (.int .i64 n.lo) (.slice A1 L1 k1) (.slice A2 L2 k2) (.slice A3 L3 k3))
                    clear FIN HNW BB hn
                    go_wp2_with fail
                    refine bodyPost_ret (results_row_tmp2 rfl _ _ w.heap.size 50 _ (0, 0) _ rfl P0.out Try.underlying50 rfl (by kernel_rfl)) rfl ?_
                    exact FX.out

end Go.Proofs.Ytlhjimkfcchdaaa
