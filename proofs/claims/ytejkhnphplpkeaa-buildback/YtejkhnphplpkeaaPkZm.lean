/-
  Texts of our own, one behind the other (BdNode): what the laws' proofs rest on; each says at its head what it holds. No conditions.
-/
import Derived.Test.YtejkhnphplpkeaaPkZh
import Derived.Test.YtejkhnphplpkeaaPkZj
import Derived.Test.YtejkhnphplpkeaaPkZl
/-
  Layer 18: entries with their gaps, in memory; the node that has just these entries.
-/
namespace Go.Proofs.Ytejkhnphplpkeaa
open Go.ChangeShapes Go.WideShapes Go.ChangeAt Go.RowKit
set_option linter.unusedVariables false

/-! Entries with their gaps. -/
def upAt (l : List Up) (i : Nat) : Up := l.getD i ⟨0, 0, 0, 0⟩
def upC (l : List Up) : List Value := l.flatMap fun u => [.int .i64 u.lo, .int .i64 u.hi, .int .i64 u.h, .int .i64 u.g]
theorem upC_len (l : List Up) : (upC l).length = l.length * 4 := by
  induction l with
  | nil => rfl
  | cons e l ih => show (_ ++ upC l).length = _; rw [List.length_append, ih, List.length_cons]; simp; omega
theorem upC_app (l l' : List Up) : upC (l ++ l') = upC l ++ upC l' := by unfold upC; rw [List.flatMap_append]
theorem upC_at (l : List Up) (i : Nat) (hi : i < l.length) : (upC l)[i * 4]? = some (.int .i64 (upAt l i).lo) ∧ (upC l)[i * 4 + 1]? = some (.int .i64 (upAt l i).hi) ∧ (upC l)[i * 4 + 2]? = some (.int .i64 (upAt l i).h) ∧ (upC l)[i * 4 + 3]? = some (.int .i64 (upAt l i).g) := by
  induction l generalizing i with
  | nil => simp at hi
  | cons e l ih =>
    have ec : upC (e :: l) = [.int .i64 e.lo, .int .i64 e.hi, .int .i64 e.h, .int .i64 e.g] ++ upC l := rfl
    match i with
    | 0 => rw [ec]; exact ⟨rfl, rfl, rfl, rfl⟩
    | i + 1 =>
      obtain ⟨h1, h2, h3, h4⟩ := ih i (by simpa using hi)
      have key : ∀ j, (upC (e :: l))[(i + 1) * 4 + j]? = (upC l)[i * 4 + j]? := fun j => by
        rw [ec, List.getElem?_append_right (by simp; omega)]
        congr 1
        simp; omega
      exact ⟨by have := key 0; rw [Nat.add_zero, Nat.add_zero] at this; rw [this]; exact h1, by rw [key 1]; exact h2, by rw [key 2]; exact h3, by rw [key 3]; exact h4⟩
/-- A row of them that a call has made. -/
def Ups (base : Nat) (w : World) (v : Value) (l : List Up) : Prop := w.ownsRow base 124 4 v l.length (upC l)
/-- A slice of them, as it reads. -/
def UpIn (w : World) (v : Value) (l : List Up) : Prop := ∃ A c, v = .slice A l.length c ∧ l.length ≤ c ∧ (0 < l.length → ∃ b off, A = some ⟨b, off, none⟩ ∧ ∀ i, i < l.length → w.cell? ⟨b, off + i * 4, none⟩ = some (.int .i64 (upAt l i).lo) ∧ w.cell? ⟨b, off + i * 4 + 1, none⟩ = some (.int .i64 (upAt l i).hi) ∧ w.cell? ⟨b, off + i * 4 + 2, none⟩ = some (.int .i64 (upAt l i).h) ∧ w.cell? ⟨b, off + i * 4 + 3, none⟩ = some (.int .i64 (upAt l i).g))
theorem Ups.nil (w : World) (base : Nat) : Ups base w (.slice none 0 0) [] := World.ownsRow_nil w base _ _
theorem Ups.here {base : Nat} {w : World} {v : Value} {l : List Up} (h : Ups base w v l) : UpIn w v l := by
  obtain ⟨A, c, rfl⟩ := own_slice h
  have hc : l.length ≤ c := by
    rcases h.2 with ⟨e, h0⟩ | ⟨g, cap, cur, e, _, _, hn, _⟩
    · rw [h0]; omega
    · injection e with _ _ e3; omega
  refine ⟨A, c, rfl, hc, fun h0 => ?_⟩
  obtain ⟨g, rfl, _, _⟩ := own_form h h0
  refine ⟨g, 0, rfl, fun i hi => ?_⟩
  obtain ⟨h1, h2, h3, h4⟩ := upC_at l i hi
  unfold Ups at h
  rw [Nat.zero_add]
  exact ⟨by rw [h.cellAt (i * 4) (by omega)]; exact h1, by rw [h.cellAt (i * 4 + 1) (by omega)]; exact h2, by rw [h.cellAt (i * 4 + 2) (by omega)]; exact h3, by rw [h.cellAt (i * 4 + 3) (by omega)]; exact h4⟩
theorem UpIn.still {w w' : World} {v : Value} {l : List Up} (h : UpIn w v l) (hb : Below w.heap.size w w') : UpIn w' v l := by
  obtain ⟨A, c, rfl, hc, hA⟩ := h
  refine ⟨A, c, rfl, hc, fun h0 => ?_⟩
  obtain ⟨b, off, rfl, k⟩ := hA h0
  refine ⟨b, off, rfl, fun i hi => ?_⟩
  obtain ⟨k0, k1, k2, k3⟩ := k i hi
  exact ⟨by rw [hb.cell (p := ⟨b, off + i * 4, none⟩) (World.block_lt_of_cell? w _ k0)]; exact k0, by rw [hb.cell (p := ⟨b, off + i * 4 + 1, none⟩) (World.block_lt_of_cell? w _ k1)]; exact k1, by rw [hb.cell (p := ⟨b, off + i * 4 + 2, none⟩) (World.block_lt_of_cell? w _ k2)]; exact k2, by rw [hb.cell (p := ⟨b, off + i * 4 + 3, none⟩) (World.block_lt_of_cell? w _ k3)]; exact k3⟩

/-! Their node. -/
def ndU (inner : Bool) (l : List Up) : Nd := ⟨inner, (upAt l 0).lo, l.map Up.hi, l.map Up.h, l.map Up.g⟩
/-- The node of the first k. -/
def ndK (inner : Bool) (l : List Up) (k : Nat) : Nd := ⟨inner, (upAt l 0).lo, (l.take k).map Up.hi, (l.take k).map Up.h, (l.take k).map Up.g⟩
theorem ndK_all (inner : Bool) (l : List Up) : ndK inner l l.length = ndU inner l := by unfold ndK ndU; rw [List.take_length]
theorem ndK_len {inner : Bool} {l : List Up} {k : Nat} (h : k ≤ l.length) : (ndK inner l k).ends.length = k ∧ (ndK inner l k).slots.length = k ∧ (ndK inner l k).gaps.length = k := by simp [ndK]; omega
theorem take_up {l : List Up} {k : Nat} (h : k < l.length) : l.take (k + 1) = l.take k ++ [upAt l k] := by
  rw [List.take_add_one, List.getElem?_eq_getElem h]
  unfold upAt
  rw [List.getD_eq_getElem?_getD, List.getElem?_eq_getElem h]
  rfl
theorem ndK_step {inner : Bool} {l : List Up} {k : Nat} (h : k < l.length) : ndK inner l (k + 1) = ⟨inner, (upAt l 0).lo, (ndK inner l k).ends ++ [(upAt l k).hi], (ndK inner l k).slots ++ [(upAt l k).h], (ndK inner l k).gaps ++ [(upAt l k).g]⟩ := by
  unfold ndK
  rw [take_up h]
  simp
set_option maxRecDepth 100000 in
set_option maxHeartbeats 8000000 in
theorem node18_c {w : World} {v : Value} {l : List Up} {inner : Bool} (h : UpIn w v l) (h1 : 1 ≤ l.length) (h8 : l.length ≤ 64) :
    Calls Try.prog 64 #[.bool inner, v] w (NodeBPost w (ndU inner l)) := by
  obtain ⟨i0, hi0, hz0, hz1, hz2⟩ := int64_info'
  obtain ⟨A, c, rfl, _, hA⟩ := h
  obtain ⟨b, off, rfl, ce⟩ := hA (by omega)
  have CE : Hid (∀ W, Below w.heap.size w W → ∀ i, i < l.length → W.cell? ⟨b, off + i * 4, none⟩ = some (.int .i64 (upAt l i).lo) ∧ W.cell? ⟨b, off + i * 4 + 1, none⟩ = some (.int .i64 (upAt l i).hi) ∧ W.cell? ⟨b, off + i * 4 + 2, none⟩ = some (.int .i64 (upAt l i).h) ∧ W.cell? ⟨b, off + i * 4 + 3, none⟩ = some (.int .i64 (upAt l i).g)) := Lib.hid (fun W hb i hi => by
    obtain ⟨k0, k1, k2, k3⟩ := ce i hi
    exact ⟨by rw [hb.cell (p := ⟨b, off + i * 4, none⟩) (World.block_lt_of_cell? w _ k0)]; exact k0, by rw [hb.cell (p := ⟨b, off + i * 4 + 1, none⟩) (World.block_lt_of_cell? w _ k1)]; exact k1, by rw [hb.cell (p := ⟨b, off + i * 4 + 2, none⟩) (World.block_lt_of_cell? w _ k2)]; exact k2, by rw [hb.cell (p := ⟨b, off + i * 4 + 3, none⟩) (World.block_lt_of_cell? w _ k3)]; exact k3⟩)
  clear hA ce
  obtain ⟨L, hL⟩ : ∃ L, l.length = L := ⟨_, rfl⟩
  have HL := Lib.hid hL
  rw [← ndK_all]
  rw [hL] at h1 h8 CE ⊢
  clear hL
  obtain ⟨R, hR⟩ : ∃ R, NodeBPost w (ndK inner l L) = R := ⟨_, rfl⟩
  rw [hR]
  have HR := Lib.hid hR
  clear hR
  obtain ⟨lo0, hlo⟩ : ∃ lo0, (upAt l 0).lo = lo0 := ⟨_, rfl⟩
  have HLO := Lib.hid hlo
  obtain ⟨e0, e1, e2, e3⟩ := CE.out w (Below.refl _ _) 0 (by omega)
  rw [hlo] at e0
  have x0 : (w.alloc (.cells nilC 34)).cell? ⟨b, off, none⟩ = some (.int .i64 lo0) := box_cell _ _ _ _ (by simpa using e0)
  have B0 : Hid (Bld w ((w.alloc (.cells nilC 34)).alloc (.cells #[.bool inner, .int .i64 lo0, .slice none 0 0, .slice none 0 0, .slice none 0 0] 34)) w.heap.size (w.heap.size + 1) (ndK inner l 0) (.slice none 0 0) (.slice none 0 0) (.slice none 0 0)) := Lib.hid (by
    have B := Bag.two w 34 34 nilC #[.bool inner, .int .i64 lo0, .slice none 0 0, .slice none 0 0, .slice none 0 0]
    rw [← hlo] at B ⊢
    exact ⟨B.v0, B.v1, ⟨Mw.nil _ _, Mw.nil _ _, Mw.nil _ _, fun k h => by simp [Value.ownBlock] at h, fun k h => by simp [Value.ownBlock] at h, fun k h => by simp [Value.ownBlock] at h⟩, B.bel⟩)
  have l0 : (0 : Int) < (L : Int) := by omega
  unfold nilC at *
  clear e0 e1 e2 e3 hlo
  go_enter Try.func64, Try.ntmps64
  go_upto_region 2 with (fail)
  have HQ : Hid (w.heap.size ≠ w.heap.size + 1 ∧ w.heap.size ≤ w.heap.size + 1) := Lib.hid (by omega)
  generalize (w.alloc _).alloc _ = wA at *
  generalize w.heap.size + 1 = q6 at *
  clear x0 l0
  go_wp2_with fail
  go_loopw [7, 17] (fun _ iv wr => ∃ (k : Nat) (x y z : Value), k ≤ L ∧ iv = .int .i64 k ∧ Bld w wr w.heap.size q6 (ndK inner l k) x y z) (fun _ iv _ => L - (intOf iv).toNat)
  case atStart => exact ⟨0, _, _, _, by omega, rfl, B0.out⟩
  case round =>
    obtain ⟨k, x, y, z, hk, rfl, hB⟩ := hrel
    by_cases hlt : k < L
    · have ll := ndK_len (inner := inner) (l := l) (k := k) (by rw [HL.out]; omega)
      have HB := Lib.hid hB
      obtain ⟨B1, c1, rfl⟩ := own_slice hB.mine.me
      obtain ⟨B2, c2, rfl⟩ := own_slice hB.mine.ms
      obtain ⟨B3, c3, rfl⟩ := own_slice hB.mine.mg
      rw [ll.1, ll.2.1, ll.2.2] at HB
      obtain ⟨k0, k1, k2, k3⟩ := CE.out wr hB.bel k hlt
      have j1 : (k : Int) < (L : Int) := by omega
      have hk8 : (k : Int) ≤ 64 := by omega
      have N1 := Lib.hid ll.1
      have N2 := Lib.hid ll.2.1
      have N3 := Lib.hid ll.2.2
      have NDK := Lib.hid (ndK_step (inner := inner) (l := l) (k := k) (by rw [HL.out]; exact hlt))
      have ni : (ndK inner l k).inner = inner := rfl
      have nl : (ndK inner l k).lo = (upAt l 0).lo := rfl
      have NE : Hid (ndK inner l k = ⟨inner, lo0, (ndK inner l k).ends, (ndK inner l k).slots, (ndK inner l k).gaps⟩) := Lib.hid (by rw [← HLO.out]; rfl)
      clear hB ll B0 ni nl
      rw [HLO.out] at NDK
      obtain ⟨NK, hNK⟩ : ∃ NK, ndK inner l (k + 1) = NK := ⟨_, rfl⟩
      rw [hNK] at NDK
      have HNK := Lib.hid hNK
      clear hNK
      rw [NE.out] at HB
      clear NE
      generalize (ndK inner l k).ends = E1 at *
      generalize (ndK inner l k).slots = E2 at *
      generalize (ndK inner l k).gaps = E3 at *
      generalize upAt l k = u at *
      obtain ⟨el, eh, ea, eg⟩ := u
      simp only at k0 k1 k2 k3 NDK
      have BX := Lib.hid (HB.out.still (below_new wr (.cells #[.int .i64 el, .int .i64 eh, .int .i64 ea, .int .i64 eg] 124)))
      have PX := Lib.hid (Whole.new wr 124 #[.int .i64 el, .int .i64 eh, .int .i64 ea, .int .i64 eg])
      clear CE
      go_upto_region 5 with (fail)
      obtain ⟨w1, hw1⟩ : ∃ w1, wr.alloc (.cells #[.int .i64 el, .int .i64 eh, .int .i64 ea, .int .i64 eg] 124) = w1 := ⟨_, rfl⟩
      obtain ⟨qe, hqe⟩ : ∃ qe, wr.heap.size = qe := ⟨_, rfl⟩
      rw [hw1] at BX PX ⊢
      rw [hqe] at PX ⊢
      clear hw1 hqe k0 k1 k2 k3 HB
      have d0 : w1.cell? ⟨q6, 2, none⟩ = some (.slice B1 k c1) := BX.out.node.cell 2
      have p0 : w1.cell? ⟨qe, 1, none⟩ = some (.int .i64 eh) := PX.out.cell 1
      have O : Hid (w1.ownsRow w.heap.size 2 1 (.slice B1 k c1) k (E1.map (Value.int .i64))) := Lib.hid (by
        have := BX.out.mine.me
        unfold Mw at this
        rw [show E1.length = k from N1.out] at this
        exact this)
      have hsz : w.heap.size ≤ w1.heap.size := BX.out.bel.size
      have BC : Hid (∀ W, (w1.alloc (.cells #[.int .i64 eh] 2)).grownBy W (Value.ownBlock (.slice B1 k c1)) → W.cell? ⟨q6, 2, none⟩ = some (.slice B1 k c1) ∧ W.frozen? ⟨q6, 2, none⟩ = false) := Lib.hid (fun W hg => BX.out.ends_at hg)
      go_upto_region 6 with (at_builtin; refine wpList_append_lies _ rfl (.tmp 22) (.tmp 26) _ rfl w.heap.size 2 i0 _ 1 8 Try.underlying27 hi0 hz0 hz1 hz2 rfl (by omega) _ k _ rfl (O.out.alloc _) ⟨w1.heap.size, 0, none⟩ 1 1 [.int .i64 eh] rfl rfl (World.news_of_block (cs := #[.int .i64 eh]) (t := 2) (fr := (0, 0)) (heap_alloc_new w1 _)) (by simp [Value.oneCell']) (by omega) (by simp only [maxLen]; omega) (by omega) (by simp; omega) (w1.heap.size + 1) (by simp) ?_; intro gg cap wg hown1 hgrow hat hlt'; have b2 := (BC.out _ hgrow).1; have bf := (BC.out _ hgrow).2)
      have NX : Hid (Bld w (wg.setCell ⟨q6, 2, none⟩ (.slice (some ⟨gg, 0, none⟩) (k + 1) cap)) w.heap.size q6 ⟨inner, lo0, (E1 ++ [eh]), E2, E3⟩ (.slice (some ⟨gg, 0, none⟩) (k + 1) cap) (.slice B2 k c2) (.slice B3 k c3)) := Lib.hid (by
        have e1 : (E1 ++ [eh]).length = k + 1 := by rw [List.length_append, show E1.length = k from N1.out]; rfl
        have nx := BX.out.ends (x := eh) (gg := gg) (cap := cap) HQ.out.1 HQ.out.2 hgrow (by rw [e1, List.map_append]; exact hown1) hat
        rw [e1] at nx
        exact nx)
      have PN := Lib.hid ((built_row PX.out BX.out.mine.me (by decide) hgrow).far (p := ⟨q6, 2, none⟩) (Ne.symm (Whole.apart BX.out.node PX.out (by decide))) (.slice (some ⟨gg, 0, none⟩) (k + 1) cap))
      obtain ⟨w2, hw2⟩ : ∃ W, wg.setCell ⟨q6, 2, none⟩ (.slice (some ⟨gg, 0, none⟩) (k + 1) cap) = W := ⟨_, rfl⟩
      rw [hw2] at NX PN ⊢
      clear hown1 hgrow hat hlt' b2 bf BC O d0 p0 BX PX hw2 hsz
      rename Hid (Bld _ _ _ _ _ _ _ _) => BX
      rename Hid (Whole _ _ _ _) => PX
      obtain ⟨g0, hg0⟩ : ∃ g : Nat, gg = g := ⟨_, rfl⟩
      obtain ⟨f0, hf0⟩ : ∃ g : Nat, cap = g := ⟨_, rfl⟩
      rw [hg0, hf0] at BX ⊢
      clear hg0 hf0
      have d1 : w2.cell? ⟨q6, 3, none⟩ = some (.slice B2 k c2) := BX.out.node.cell 3
      have p1 : w2.cell? ⟨qe, 2, none⟩ = some (.int .i64 ea) := PX.out.cell 2
      have O : Hid (w2.ownsRow w.heap.size 2 1 (.slice B2 k c2) k (E2.map (Value.int .i64))) := Lib.hid (by
        have := BX.out.mine.ms
        unfold Mw at this
        rw [show E2.length = k from N2.out] at this
        exact this)
      have hsz : w.heap.size ≤ w2.heap.size := BX.out.bel.size
      have BC : Hid (∀ W, (w2.alloc (.cells #[.int .i64 ea] 2)).grownBy W (Value.ownBlock (.slice B2 k c2)) → W.cell? ⟨q6, 3, none⟩ = some (.slice B2 k c2) ∧ W.frozen? ⟨q6, 3, none⟩ = false) := Lib.hid (fun W hg => BX.out.slots_at hg)
      go_upto_region 7 with (at_builtin; refine wpList_append_lies _ rfl (.tmp 30) (.tmp 34) _ rfl w.heap.size 2 i0 _ 1 8 Try.underlying27 hi0 hz0 hz1 hz2 rfl (by omega) _ k _ rfl (O.out.alloc _) ⟨w2.heap.size, 0, none⟩ 1 1 [.int .i64 ea] rfl rfl (World.news_of_block (cs := #[.int .i64 ea]) (t := 2) (fr := (0, 0)) (heap_alloc_new w2 _)) (by simp [Value.oneCell']) (by omega) (by simp only [maxLen]; omega) (by omega) (by simp; omega) (w2.heap.size + 1) (by simp) ?_; intro gg cap wg hown1 hgrow hat hlt'; have b2 := (BC.out _ hgrow).1; have bf := (BC.out _ hgrow).2)
      have NX : Hid (Bld w (wg.setCell ⟨q6, 3, none⟩ (.slice (some ⟨gg, 0, none⟩) (k + 1) cap)) w.heap.size q6 ⟨inner, lo0, (E1 ++ [eh]), (E2 ++ [ea]), E3⟩ (.slice (some ⟨g0, 0, none⟩) (k + 1) f0) (.slice (some ⟨gg, 0, none⟩) (k + 1) cap) (.slice B3 k c3)) := Lib.hid (by
        have e1 : (E2 ++ [ea]).length = k + 1 := by rw [List.length_append, show E2.length = k from N2.out]; rfl
        have nx := BX.out.slots (x := ea) (gg := gg) (cap := cap) HQ.out.1 HQ.out.2 hgrow (by rw [e1, List.map_append]; exact hown1) hat
        rw [e1] at nx
        exact nx)
      have PN := Lib.hid ((built_row PX.out BX.out.mine.ms (by decide) hgrow).far (p := ⟨q6, 3, none⟩) (Ne.symm (Whole.apart BX.out.node PX.out (by decide))) (.slice (some ⟨gg, 0, none⟩) (k + 1) cap))
      obtain ⟨w3, hw2⟩ : ∃ W, wg.setCell ⟨q6, 3, none⟩ (.slice (some ⟨gg, 0, none⟩) (k + 1) cap) = W := ⟨_, rfl⟩
      rw [hw2] at NX PN ⊢
      clear hown1 hgrow hat hlt' b2 bf BC O d1 p1 BX PX hw2 hsz
      rename Hid (Bld _ _ _ _ _ _ _ _) => BX
      rename Hid (Whole _ _ _ _) => PX
      obtain ⟨g1, hg1⟩ : ∃ g : Nat, gg = g := ⟨_, rfl⟩
      obtain ⟨f1, hf1⟩ : ∃ g : Nat, cap = g := ⟨_, rfl⟩
      rw [hg1, hf1] at BX ⊢
      clear hg1 hf1
      have d2 : w3.cell? ⟨q6, 4, none⟩ = some (.slice B3 k c3) := BX.out.node.cell 4
      have p2 : w3.cell? ⟨qe, 3, none⟩ = some (.int .i64 eg) := PX.out.cell 3
      have O : Hid (w3.ownsRow w.heap.size 2 1 (.slice B3 k c3) k (E3.map (Value.int .i64))) := Lib.hid (by
        have := BX.out.mine.mg
        unfold Mw at this
        rw [show E3.length = k from N3.out] at this
        exact this)
      have hsz : w.heap.size ≤ w3.heap.size := BX.out.bel.size
      have BC : Hid (∀ W, (w3.alloc (.cells #[.int .i64 eg] 2)).grownBy W (Value.ownBlock (.slice B3 k c3)) → W.cell? ⟨q6, 4, none⟩ = some (.slice B3 k c3) ∧ W.frozen? ⟨q6, 4, none⟩ = false) := Lib.hid (fun W hg => BX.out.gaps_at hg)
      go_upto_region 8 with (at_builtin; refine wpList_append_lies _ rfl (.tmp 38) (.tmp 41) _ rfl w.heap.size 2 i0 _ 1 8 Try.underlying27 hi0 hz0 hz1 hz2 rfl (by omega) _ k _ rfl (O.out.alloc _) ⟨w3.heap.size, 0, none⟩ 1 1 [.int .i64 eg] rfl rfl (World.news_of_block (cs := #[.int .i64 eg]) (t := 2) (fr := (0, 0)) (heap_alloc_new w3 _)) (by simp [Value.oneCell']) (by omega) (by simp only [maxLen]; omega) (by omega) (by simp; omega) (w3.heap.size + 1) (by simp) ?_; intro gg cap wg hown1 hgrow hat hlt'; have b2 := (BC.out _ hgrow).1; have bf := (BC.out _ hgrow).2)
      have NX : Hid (Bld w (wg.setCell ⟨q6, 4, none⟩ (.slice (some ⟨gg, 0, none⟩) (k + 1) cap)) w.heap.size q6 ⟨inner, lo0, (E1 ++ [eh]), (E2 ++ [ea]), (E3 ++ [eg])⟩ (.slice (some ⟨g0, 0, none⟩) (k + 1) f0) (.slice (some ⟨g1, 0, none⟩) (k + 1) f1) (.slice (some ⟨gg, 0, none⟩) (k + 1) cap)) := Lib.hid (by
        have e1 : (E3 ++ [eg]).length = k + 1 := by rw [List.length_append, show E3.length = k from N3.out]; rfl
        have nx := BX.out.gaps (x := eg) (gg := gg) (cap := cap) HQ.out.1 HQ.out.2 hgrow (by rw [e1, List.map_append]; exact hown1) hat
        rw [e1] at nx
        exact nx)
      have PN := Lib.hid ((built_row PX.out BX.out.mine.mg (by decide) hgrow).far (p := ⟨q6, 4, none⟩) (Ne.symm (Whole.apart BX.out.node PX.out (by decide))) (.slice (some ⟨gg, 0, none⟩) (k + 1) cap))
      obtain ⟨w4, hw2⟩ : ∃ W, wg.setCell ⟨q6, 4, none⟩ (.slice (some ⟨gg, 0, none⟩) (k + 1) cap) = W := ⟨_, rfl⟩
      rw [hw2] at NX PN ⊢
      clear hown1 hgrow hat hlt' b2 bf BC O d2 p2 BX PX hw2 hsz
      rename Hid (Bld _ _ _ _ _ _ _ _) => BX
      rename Hid (Whole _ _ _ _) => PX
      obtain ⟨g2, hg2⟩ : ∃ g : Nat, gg = g := ⟨_, rfl⟩
      obtain ⟨f2, hf2⟩ : ∃ g : Nat, cap = g := ⟨_, rfl⟩
      rw [hg2, hf2] at BX ⊢
      clear hg2 hf2
      rw [← NDK.out, ← HNK.out] at BX
      go_wp2_with fail
      go_roundw
      case rel => exact ⟨k + 1, _, _, _, by omega, by go_num, BX.out⟩
      case measure => simp [intOf]; omega
    · have hkL : k = L := by omega
      subst hkL
      have j1 : ¬ (k : Int) < (k : Int) := by omega
      have HB := Lib.hid hB
      obtain ⟨B1, c1, rfl⟩ := own_slice hB.mine.me
      obtain ⟨B2, c2, rfl⟩ := own_slice hB.mine.ms
      obtain ⟨B3, c3, rfl⟩ := own_slice hB.mine.mg
      have ll := ndK_len (inner := inner) (l := l) (k := k) (by rw [HL.out]; omega)
      rw [ll.1, ll.2.1, ll.2.2] at HB
      clear hB B0 CE ll
      obtain ⟨d0, d1, d2, d3, d4⟩ := row5 HB.out.node
      obtain ⟨z0, z1, z2, z3, z4⟩ := row5 HB.out.res
      obtain ⟨f0, f1, f2, f3, f4⟩ := row5f HB.out.res
      have ni : (ndK inner l k).inner = inner := rfl
      have nl : (ndK inner l k).lo = (upAt l 0).lo := rfl
      rw [ni] at d0
      rw [nl, HLO.out] at d1
      have FX : Hid (R (.returned ((ndK inner l k).val (.slice B1 k c1) (.slice B2 k c2) (.slice B3 k c3))) (set5 wr w.heap.size (.bool inner) (.int .i64 lo0) (.slice B1 k c1) (.slice B2 k c2) (.slice B3 k c3))) := Lib.hid (by
        rw [← HR.out]
        exact ⟨_, _, _, rfl, HB.out.mine.far HB.out.res (five_only _ _ _ _ _ _ _), HB.out.bel.trans ((five_only _ _ _ _ _ _ _).below (fun k hk => by rw [hk]; exact Nat.le_refl _) HB.out.bel.size)⟩)
      have P0 := Lib.hid (five_put HB.out.res (.bool inner) (.int .i64 lo0) (.slice B1 k c1) (.slice B2 k c2) (.slice B3 k c3))
      have HV : Hid ((ndK inner l k).val (.slice B1 k c1) (.slice B2 k c2) (.slice B3 k c3) = .agg #[.bool inner, .int .i64 lo0, .slice B1 k c1, .slice B2 k c2, .slice B3 k c3]) := Lib.hid (by rw [← HLO.out]; rfl)
      rw [HV.out] at FX
      clear HB ni nl HR HV HLO
      go_wp2_with fail
      refine bodyPost_ret (results_cell_row rfl _ _ w.heap.size 34 _ (0, 0) _ rfl P0.out Try.underlying34 rfl (by kernel_rfl)) rfl ?_
      exact FX.out
end Go.Proofs.Ytejkhnphplpkeaa
