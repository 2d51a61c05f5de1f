/-
  Texts of our own, one behind the other (RbNode): what the laws' proofs rest on; each says at its head what it holds. No conditions.
-/
import Derived.Test.YtejkhnphplpkeaaPkZj
import Derived.Test.YtejkhnphplpkeaaPkYe
/-
  Layer 18: the reference: a node of some entries.
-/
namespace Go.Proofs.Ytejkhnphplpkeaa
open Go.ChangeShapes Go.WideShapes Go.ChangeAt Go.RowKit
set_option linter.unusedVariables false

/-- An entry's gap. -/
def gapAt (l : List En) (gs : List Int) (inner : Bool) (i : Nat) : Int := if inner then nth gs i else if (enAt l i).h = 0 then (enAt l i).hi - (enAt l i).lo else 0
/-- The node of the first k. -/
def ndTo (l : List En) (gs : List Int) (inner : Bool) (k : Nat) : Nd :=
  ⟨inner, (enAt l 0).lo, (List.range k).map fun i => (enAt l i).hi, (List.range k).map fun i => (enAt l i).h, (List.range k).map fun i => gapAt l gs inner i⟩
theorem ndTo_len (l : List En) (gs : List Int) (inner : Bool) (k : Nat) : (ndTo l gs inner k).ends.length = k ∧ (ndTo l gs inner k).slots.length = k ∧ (ndTo l gs inner k).gaps.length = k := by simp [ndTo]
theorem range_step {f : Nat → Int} (k : Nat) : (List.range k).map f ++ [f k] = (List.range (k + 1)).map f := by rw [List.range_succ, List.map_append]; rfl
theorem map_enAt (f : En → Int) (l : List En) : (List.range l.length).map (fun i => f (enAt l i)) = l.map f := by
  apply ext_nth
  · simp
  · intro i hi
    have hi : i < l.length := by simpa using hi
    rw [nth_mapE f hi]
    unfold nth
    rw [List.getD_eq_getElem?_getD, List.getElem?_map, List.getElem?_range hi]
    rfl
/-- Of a leaf's entries it is the leaf. -/
theorem ndTo_leaf (l : List En) (gs : List Int) : ndTo l gs false l.length = leafN l := by
  unfold ndTo leafN
  rw [map_enAt En.hi, map_enAt En.h]
  congr 1
  exact map_enAt (fun e => if e.h = 0 then e.hi - e.lo else 0) l
/-- Of nodes' entries and their greatest gaps it is the inner one. -/
theorem ndTo_inner (us : List Up) : ndTo (us.map fun u => ⟨u.lo, u.hi, u.h⟩) (us.map Up.g) true us.length = innerN us := by
  have hat : ∀ i, i < us.length → enAt (us.map fun u => (⟨u.lo, u.hi, u.h⟩ : En)) i = ⟨(us.getD i ⟨0, 0, 0, 0⟩).lo, (us.getD i ⟨0, 0, 0, 0⟩).hi, (us.getD i ⟨0, 0, 0, 0⟩).h⟩ := fun i hi => by
    unfold enAt
    rw [List.getD_eq_getElem?_getD, List.getElem?_map, List.getD_eq_getElem?_getD, List.getElem?_eq_getElem hi]
    rfl
  have key : ∀ f : Up → Int, ∀ g : Nat → Int, (∀ i, i < us.length → g i = f (us.getD i ⟨0, 0, 0, 0⟩)) → (List.range us.length).map g = us.map f := fun f g h => by
    apply ext_nth
    · simp
    · intro i hi
      have hi : i < us.length := by simpa using hi
      have e1 : nth ((List.range us.length).map g) i = g i := by
        unfold nth
        rw [List.getD_eq_getElem?_getD, List.getElem?_map, List.getElem?_range hi]
        rfl
      have e2 : nth (us.map f) i = f (us.getD i ⟨0, 0, 0, 0⟩) := by
        unfold nth
        rw [List.getD_eq_getElem?_getD, List.getElem?_map, List.getD_eq_getElem?_getD, List.getElem?_eq_getElem hi]
        rfl
      rw [e1, e2, h i hi]
  unfold ndTo innerN
  rw [key Up.hi _ (fun i hi => by rw [hat i hi]), key Up.h _ (fun i hi => by rw [hat i hi]), key Up.g _ (fun i hi => by
    unfold gapAt
    rw [if_pos rfl]
    unfold nth
    rw [List.getD_eq_getElem?_getD, List.getElem?_map, List.getD_eq_getElem?_getD, List.getElem?_eq_getElem hi]
    rfl)]
  congr 1
  cases us with
  | nil => rfl
  | cons u us => rw [hat 0 (by simp)]
/-- The tree's nodes, the root last. -/
def treeN (es : List En) (hd : Nat → Int) : List Nd := if pcs es.length = 1 then [leafN es] else ((List.range (pcs es.length)).map fun i => leafN (piece es i)) ++ [innerN (ups es hd)]
theorem treeN_len (es : List En) (hd : Nat → Int) : (treeN es hd).length = cntN es.length := by
  unfold treeN cntN
  split
  · rfl
  · simp

/-- What the call leaves. -/
def NodeBPost (w : World) (n : Nd) (e : Ending) (w' : World) : Prop := ∃ x y z, e = .returned (n.val x y z) ∧ NdMine w.heap.size w' n x y z ∧ Below w.heap.size w w'
/-- Where its loop stands. -/
def NodeBRel (w : World) (q0 q6 : Nat) (l : List En) (gs : List Int) (inner : Bool) (L : Nat) (iv : Value) (wr : World) : Prop := ∃ (k : Nat) (x y z : Value), k ≤ L ∧ iv = .int .i64 k ∧ Bld w wr q0 q6 (ndTo l gs inner k) x y z
set_option maxRecDepth 100000 in
set_option maxHeartbeats 8000000 in
theorem refNodeB_c {w : World} {v gv : Value} {l : List En} {gs : List Int} {inner : Bool} (h : Ens w v l) (hg : Wds w gv gs) (h1 : 1 ≤ l.length) (h8 : l.length ≤ 8) (hgl : inner = true → gs.length = l.length) (hc : ∀ i, i < l.length → 0 ≤ (enAt l i).lo ∧ (enAt l i).lo ≤ (enAt l i).hi ∧ (enAt l i).hi ≤ 2097152) :
    Calls Try.prog 46 #[v, gv, .bool inner] w (NodeBPost w (ndTo l gs inner l.length)) := by
  have hnot : ∀ (x : Bool) (w : World), (Op.unary .not (.bool x)).run Try.prog w = .ok (.bool (!x)) w := fun _ _ => rfl
  obtain ⟨i0, hi0, hz0, hz1, hz2⟩ := int64_info'
  obtain ⟨A, c, rfl, _, hA⟩ := h
  obtain ⟨b, off, rfl, ce⟩ := hA (by omega)
  have CE : Hid (∀ W, Below w.heap.size w W → ∀ i, i < l.length → W.cell? ⟨b, off + i * 3, none⟩ = some (.int .i64 (enAt l i).lo) ∧ W.cell? ⟨b, off + i * 3 + 1, none⟩ = some (.int .i64 (enAt l i).hi) ∧ W.cell? ⟨b, off + i * 3 + 2, none⟩ = some (.int .i64 (enAt l i).h)) := Lib.hid (fun W hb i hi => by
    obtain ⟨k0, k1, k2⟩ := ce i hi
    exact ⟨by rw [hb.cell (p := ⟨b, off + i * 3, none⟩) (World.block_lt_of_cell? w _ k0)]; exact k0, by rw [hb.cell (p := ⟨b, off + i * 3 + 1, none⟩) (World.block_lt_of_cell? w _ k1)]; exact k1, by rw [hb.cell (p := ⟨b, off + i * 3 + 2, none⟩) (World.block_lt_of_cell? w _ k2)]; exact k2⟩)
  obtain ⟨gA, gc, rfl, _, gA2⟩ := hg
  have CG : Hid (∀ W, Below w.heap.size w W → inner = true → ∀ i, i < l.length → ∃ gb go, gA = some ⟨gb, go, none⟩ ∧ W.cell? ⟨gb, go + i, none⟩ = some (.int .i64 (nth gs i))) := Lib.hid (fun W hb hin i hi => by
    have hl := hgl hin
    obtain ⟨gb, go, rfl, k⟩ := gA2 (by omega)
    have e := k i (by omega)
    exact ⟨gb, go, rfl, by rw [hb.cell (p := ⟨gb, go + i, none⟩) (World.block_lt_of_cell? w _ e)]; exact e⟩)
  clear gA2 ce hA
  obtain ⟨L, hL⟩ : ∃ L, l.length = L := ⟨_, rfl⟩
  rw [hL] at h1 h8 hgl hc CE CG ⊢
  clear hL
  obtain ⟨R, hR⟩ : ∃ R, NodeBPost w (ndTo l gs inner L) = R := ⟨_, rfl⟩
  rw [hR]
  have HR := Lib.hid hR
  clear hR
  have HCC := Lib.hid hc
  clear hc
  obtain ⟨e0, e1, e2⟩ := CE.out w (Below.refl _ _) 0 (by omega)
  have x0 : (w.alloc (.cells nilC 34)).cell? ⟨b, off, none⟩ = some (.int .i64 (enAt l 0).lo) := box_cell _ _ _ _ (by simpa using e0)
  have B0 : Hid (Bld w ((w.alloc (.cells nilC 34)).alloc (.cells #[.bool inner, .int .i64 (enAt l 0).lo, .slice none 0 0, .slice none 0 0, .slice none 0 0] 34)) w.heap.size (w.heap.size + 1) (ndTo l gs inner 0) (.slice none 0 0) (.slice none 0 0) (.slice none 0 0)) := Lib.hid (by
    have B := Bag.two w 34 34 nilC #[.bool inner, .int .i64 (enAt l 0).lo, .slice none 0 0, .slice none 0 0, .slice none 0 0]
    exact ⟨B.v0, B.v1, ⟨Mw.nil _ _, Mw.nil _ _, Mw.nil _ _, fun k h => by simp [Value.ownBlock] at h, fun k h => by simp [Value.ownBlock] at h, fun k h => by simp [Value.ownBlock] at h⟩, B.bel⟩)
  have l0 : (0 : Int) < (L : Int) := by omega
  unfold nilC at *
  clear e0 e1 e2
  go_enter Try.func46, Try.ntmps46
  go_upto_region 2 with (fail)
  have HQ : Hid (w.heap.size ≠ w.heap.size + 1 ∧ w.heap.size ≤ w.heap.size + 1) := Lib.hid (by omega)
  generalize (w.alloc _).alloc _ = wA at *
  generalize w.heap.size + 1 = q6 at *
  clear x0 l0
  go_wp2_with fail
  go_loopw [8] (fun iv wr => NodeBRel w w.heap.size q6 l gs inner L iv wr) (fun iv _ => L - (intOf iv).toNat)
  case atStart => exact ⟨0, _, _, _, by omega, rfl, B0.out⟩
  case round =>
    obtain ⟨k, x, y, z, hk, rfl, hB⟩ := hrel
    by_cases hlt : k < L
    · have ll := ndTo_len l gs inner k
      have HB := Lib.hid hB
      obtain ⟨B1, c1, rfl⟩ := own_slice hB.mine.me
      obtain ⟨B2, c2, rfl⟩ := own_slice hB.mine.ms
      obtain ⟨B3, c3, rfl⟩ := own_slice hB.mine.mg
      rw [ll.1, ll.2.1, ll.2.2] at HB
      obtain ⟨k0, k1, k2⟩ := CE.out wr hB.bel k hlt
      have j1 : (k : Int) < (L : Int) := by omega
      have hk8 : (k : Int) ≤ 8 := by omega
      have LL := Lib.hid ll
      clear hB ll B0
      unfold ndTo at HB
      have s1 := range_step (f := fun i => (enAt l i).hi) k
      have s2 := range_step (f := fun i => (enAt l i).h) k
      have s3 := range_step (f := gapAt l gs inner) k
      have S1 := Lib.hid s1
      have S2 := Lib.hid s2
      have S3 := Lib.hid s3
      clear s1 s2 s3
      obtain ⟨E1, hE1⟩ : ∃ E, (List.range k).map (fun i => (enAt l i).hi) = E := ⟨_, rfl⟩
      obtain ⟨E2, hE2⟩ : ∃ E, (List.range k).map (fun i => (enAt l i).h) = E := ⟨_, rfl⟩
      obtain ⟨E3, hE3⟩ : ∃ E, (List.range k).map (fun i => gapAt l gs inner i) = E := ⟨_, rfl⟩
      have n1 : E1.length = k := by rw [← hE1]; simp
      have n2 : E2.length = k := by rw [← hE2]; simp
      have n3 : E3.length = k := by rw [← hE3]; simp
      rw [hE1, hE2, hE3] at HB
      have N1 := Lib.hid n1
      have N2 := Lib.hid n2
      have N3 := Lib.hid n3
      clear n1 n2 n3
      obtain ⟨eh, hh1⟩ : ∃ eh, (enAt l k).hi = eh := ⟨_, rfl⟩
      obtain ⟨ea, hh2⟩ : ∃ ea, (enAt l k).h = ea := ⟨_, rfl⟩
      rw [hh1] at k1
      rw [hh2] at k2
      go_upto_region 5 with (fail)
      go_cut [] from 16 to 73 (fun wx => ∃ B c, Bld w wx w.heap.size q6 ⟨inner, (enAt l 0).lo, E1 ++ [eh], E2, E3⟩ (.slice B (k + 1) c) (.slice B2 k c2) (.slice B3 k c3))
      case first =>
        have a0 : wr.cell? ⟨q6, 2, none⟩ = some (.slice B1 k c1) := HB.out.node.cell 2
        have a1 : (wr.alloc (.cells #[.int .i64 eh] 2)).cell? ⟨q6, 2, none⟩ = some (.slice B1 k c1) := box_cell _ _ _ _ a0
        have BD := Lib.hid (HB.out.still (below_drew (Below.refl wr.heap.size wr)))
        have BC : Hid (∀ w1, (wr.drew.alloc (.cells #[.int .i64 eh] 2)).grownBy w1 (Value.slice B1 k c1).ownBlock → w1.cell? ⟨q6, 2, none⟩ = some (.slice B1 k c1) ∧ w1.frozen? ⟨q6, 2, none⟩ = false) := Lib.hid (fun w1 hg => BD.out.ends_at hg)
        have O : Hid (wr.drew.ownsRow w.heap.size 2 1 (.slice B1 k c1) k (E1.map (Value.int .i64))) := Lib.hid (by
          have := BD.out.mine.me
          unfold Mw at this
          rw [show E1.length = k from N1.out] at this
          exact this)
        have hsz : w.heap.size ≤ wr.heap.size := HB.out.bel.size
        go_region_law
          ((refine step_append_lies _ (by rfl) _ _ _ (by rfl) w.heap.size 2 i0 _ 1 8 Try.underlying27 hi0 hz0 hz1 hz2 rfl (by omega) _ k _ (by rfl) (O.out.alloc _)
              ⟨wr.heap.size, 0, none⟩ 1 1 [.int .i64 eh] (by rfl) (by rfl) (World.news_of_block (cs := #[.int .i64 eh]) (t := 2) (fr := (0, 0)) (heap_alloc_new wr _)) (by simp [Value.oneCell'])
              (by omega) (by simp only [maxLen]; omega) (by omega) (by simp; omega) (wr.heap.size + 1) (by simp) ?_; intro gg cap w1 hown1 hgrow hat hlt'; have b2 := (BC.out _ hgrow).1; have bf := (BC.out _ hgrow).2))
        all_goals
          have e1 : (E1 ++ [eh]).length = k + 1 := by rw [List.length_append, show E1.length = k from N1.out]; rfl
          have nx := BD.out.ends (x := eh) (gg := gg) (cap := cap) HQ.out.1 HQ.out.2 hgrow (by rw [e1, List.map_append]; exact hown1) hat
          rw [e1] at nx
          have NX := Lib.hid nx
          clear nx hown1 hgrow hat hlt' b2 bf BC BD O a0 a1
          go_wp2_with fail
          go_meet
          exact ⟨_, _, NX.out⟩
      case rest =>
      obtain ⟨D1, f1, hb4⟩ := hcut
      have HB := Lib.hid hb4
      obtain ⟨k0, k1, k2⟩ := CE.out wc hb4.bel k hlt
      rw [hh1] at k1
      rw [hh2] at k2
      clear hb4
      go_upto_region 6 with (fail)
      go_cut [] from 16 to 73 (fun wx => ∃ B c, Bld w wx w.heap.size q6 ⟨inner, (enAt l 0).lo, E1 ++ [eh], E2 ++ [ea], E3⟩ (.slice D1 (k + 1) f1) (.slice B (k + 1) c) (.slice B3 k c3))
      case first =>
        have a0 : wc.cell? ⟨q6, 3, none⟩ = some (.slice B2 k c2) := HB.out.node.cell 3
        have a1 : (wc.alloc (.cells #[.int .i64 ea] 2)).cell? ⟨q6, 3, none⟩ = some (.slice B2 k c2) := box_cell _ _ _ _ a0
        have BD := Lib.hid (HB.out.still (below_drew (Below.refl wc.heap.size wc)))
        have BC : Hid (∀ w1, (wc.drew.alloc (.cells #[.int .i64 ea] 2)).grownBy w1 (Value.slice B2 k c2).ownBlock → w1.cell? ⟨q6, 3, none⟩ = some (.slice B2 k c2) ∧ w1.frozen? ⟨q6, 3, none⟩ = false) := Lib.hid (fun w1 hg => BD.out.slots_at hg)
        have O : Hid (wc.drew.ownsRow w.heap.size 2 1 (.slice B2 k c2) k (E2.map (Value.int .i64))) := Lib.hid (by
          have := BD.out.mine.ms
          unfold Mw at this
          rw [show E2.length = k from N2.out] at this
          exact this)
        have hsz : w.heap.size ≤ wc.heap.size := HB.out.bel.size
        go_region_law
          ((refine step_append_lies _ (by rfl) _ _ _ (by rfl) w.heap.size 2 i0 _ 1 8 Try.underlying27 hi0 hz0 hz1 hz2 rfl (by omega) _ k _ (by rfl) (O.out.alloc _)
              ⟨wc.heap.size, 0, none⟩ 1 1 [.int .i64 ea] (by rfl) (by rfl) (World.news_of_block (cs := #[.int .i64 ea]) (t := 2) (fr := (0, 0)) (heap_alloc_new wc _)) (by simp [Value.oneCell'])
              (by omega) (by simp only [maxLen]; omega) (by omega) (by simp; omega) (wc.heap.size + 1) (by simp) ?_; intro gg cap w1 hown1 hgrow hat hlt'; have b2 := (BC.out _ hgrow).1; have bf := (BC.out _ hgrow).2))
        all_goals
          have e1 : (E2 ++ [ea]).length = k + 1 := by rw [List.length_append, show E2.length = k from N2.out]; rfl
          have nx := BD.out.slots (x := ea) (gg := gg) (cap := cap) HQ.out.1 HQ.out.2 hgrow (by rw [e1, List.map_append]; exact hown1) hat
          rw [e1] at nx
          have NX := Lib.hid nx
          clear nx hown1 hgrow hat hlt' b2 bf BC BD O a0 a1
          go_wp2_with fail
          go_meet
          exact ⟨_, _, NX.out⟩
      case rest =>
      obtain ⟨D2, f2, hb5⟩ := hcut
      have HB := Lib.hid hb5
      obtain ⟨k0, k1, k2⟩ := CE.out wc hb5.bel k hlt
      rw [hh1] at k1
      rw [hh2] at k2
      have KG := Lib.hid (fun hin => CG.out wc hb5.bel hin k hlt)
      have cb := HCC.out k hlt
      rw [hh1] at cb
      obtain ⟨el, hh0⟩ : ∃ el, (enAt l k).lo = el := ⟨_, rfl⟩
      rw [hh0] at k0 cb
      have HGV : Hid (gapAt l gs inner k = if inner then nth gs k else if ea = 0 then eh - el else 0) := Lib.hid (by unfold gapAt; rw [hh0, hh1, hh2])
      have NDK : Hid (ndTo l gs inner (k + 1) = ⟨inner, (enAt l 0).lo, E1 ++ [eh], E2 ++ [ea], E3 ++ [gapAt l gs inner k]⟩) := Lib.hid (by
        unfold ndTo
        rw [← hE1, ← hE2, ← hE3, ← hh1, ← hh2, S1.out, S2.out, S3.out])
      clear hb5 S1 S2 S3 hE1 hE2 hE3 hh0 hh1 hh2 CE CG HCC
      cases inner with
      | true =>
        simp only [if_true] at HGV
        obtain ⟨gb, go, rfl, kg⟩ := KG.out rfl
        have gl : (k : Int) < (gs.length : Int) := by have := hgl rfl; omega
        generalize hgn : nth gs k = gn at *
        clear hgn KG
        have d4 : wc.cell? ⟨q6, 4, none⟩ = some (.slice B3 k c3) := HB.out.node.cell 4
        have O : Hid (wc.ownsRow w.heap.size 2 1 (.slice B3 k c3) k (E3.map (Value.int .i64))) := Lib.hid (by
          have := HB.out.mine.mg
          unfold Mw at this
          rw [show E3.length = k from N3.out] at this
          exact this)
        have hsz : w.heap.size ≤ wc.heap.size := HB.out.bel.size
        have BC : Hid (∀ w1, (wc.alloc (.cells #[.int .i64 (gn)] 2)).grownBy w1 (Value.slice B3 k c3).ownBlock → w1.cell? ⟨q6, 4, none⟩ = some (.slice B3 k c3) ∧ w1.frozen? ⟨q6, 4, none⟩ = false) := Lib.hid (fun w1 hg => HB.out.gaps_at hg)
        go_upto_region 4 with (at_builtin; refine wpList_append_lies _ rfl (.tmp 69) (.tmp 71) _ rfl w.heap.size 2 i0 _ 1 8 Try.underlying27 hi0 hz0 hz1 hz2 rfl (by omega) _ k _ rfl (O.out.alloc _) ⟨wc.heap.size, 0, none⟩ 1 1 [.int .i64 (gn)] rfl rfl (World.news_of_block (cs := #[.int .i64 (gn)]) (t := 2) (fr := (0, 0)) (heap_alloc_new wc _)) (by simp [Value.oneCell']) (by omega) (by simp only [maxLen]; omega) (by omega) (by simp; omega) (wc.heap.size + 1) (by simp) ?_; intro gg cap w1 hown1 hgrow hat hlt'; have b2 := (BC.out _ hgrow).1; have bf := (BC.out _ hgrow).2)
        have e1 : (E3 ++ [gn]).length = k + 1 := by rw [List.length_append, N3.out]; rfl
        have nx := HB.out.gaps (x := gn) (gg := gg) (cap := cap) HQ.out.1 HQ.out.2 hgrow (by rw [e1, List.map_append]; exact hown1) hat
        rw [e1] at nx
        rw [HGV.out] at NDK
        have NX : Hid (Bld w (w1.setCell ⟨q6, 4, none⟩ (.slice (some ⟨gg, 0, none⟩) (k + 1) cap)) w.heap.size q6 (ndTo l gs true (k + 1)) (.slice D1 (k + 1) f1) (.slice D2 (k + 1) f2) (.slice (some ⟨gg, 0, none⟩) (k + 1) cap)) := Lib.hid (by rw [NDK.out]; exact nx)
        clear nx hown1 hgrow hat hlt' b2 bf BC O d4
        go_wp2_with fail
        go_roundw
        case rel => exact ⟨k + 1, _, _, _, by omega, by go_num, NX.out⟩
        case measure => simp [intOf]; omega
      | false =>
        simp only [Bool.false_eq_true, if_false] at HGV
        clear KG
        by_cases hz : ea = 0
        · rw [if_pos hz] at HGV
          have jz : (ea == 0) = true := beq_iff_eq.2 hz
          have hw : IntKind.i64.wrap (eh - el) = eh - el := by rw [IntKind.wrap_i64]; omega
          have HBQ := Lib.hid (fun q => HB.out.still (below_drewN (Below.refl wc.heap.size wc) q))
          go_upto_region 9 with (fail)
          go_quiet (fail)
          have HB := Lib.hid (HBQ.out nq)
          clear HBQ
          generalize wc.drewN nq = wq at *
          have d4 : wq.cell? ⟨q6, 4, none⟩ = some (.slice B3 k c3) := HB.out.node.cell 4
          have O : Hid (wq.ownsRow w.heap.size 2 1 (.slice B3 k c3) k (E3.map (Value.int .i64))) := Lib.hid (by
            have := HB.out.mine.mg
            unfold Mw at this
            rw [show E3.length = k from N3.out] at this
            exact this)
          have hsz : w.heap.size ≤ wq.heap.size := HB.out.bel.size
          have BC : Hid (∀ w1, (wq.alloc (.cells #[.int .i64 (eh - el)] 2)).grownBy w1 (Value.slice B3 k c3).ownBlock → w1.cell? ⟨q6, 4, none⟩ = some (.slice B3 k c3) ∧ w1.frozen? ⟨q6, 4, none⟩ = false) := Lib.hid (fun w1 hg => HB.out.gaps_at hg)
          go_upto_region 4 with (at_builtin; refine wpList_append_lies _ rfl (.tmp 69) (.tmp 71) _ rfl w.heap.size 2 i0 _ 1 8 Try.underlying27 hi0 hz0 hz1 hz2 rfl (by omega) _ k _ rfl (O.out.alloc _) ⟨wq.heap.size, 0, none⟩ 1 1 [.int .i64 (eh - el)] rfl rfl (World.news_of_block (cs := #[.int .i64 (eh - el)]) (t := 2) (fr := (0, 0)) (heap_alloc_new wq _)) (by simp [Value.oneCell']) (by omega) (by simp only [maxLen]; omega) (by omega) (by simp; omega) (wq.heap.size + 1) (by simp) ?_; intro gg cap w1 hown1 hgrow hat hlt'; have b2 := (BC.out _ hgrow).1; have bf := (BC.out _ hgrow).2)
          have e1 : (E3 ++ [eh - el]).length = k + 1 := by rw [List.length_append, N3.out]; rfl
          have nx := HB.out.gaps (x := eh - el) (gg := gg) (cap := cap) HQ.out.1 HQ.out.2 hgrow (by rw [e1, List.map_append]; exact hown1) hat
          rw [e1] at nx
          rw [HGV.out] at NDK
          have NX : Hid (Bld w (w1.setCell ⟨q6, 4, none⟩ (.slice (some ⟨gg, 0, none⟩) (k + 1) cap)) w.heap.size q6 (ndTo l gs false (k + 1)) (.slice D1 (k + 1) f1) (.slice D2 (k + 1) f2) (.slice (some ⟨gg, 0, none⟩) (k + 1) cap)) := Lib.hid (by rw [NDK.out]; exact nx)
          clear nx hown1 hgrow hat hlt' b2 bf BC O d4
          go_wp2_with fail
          go_roundw
          case rel => exact ⟨k + 1, _, _, _, by omega, by go_num, NX.out⟩
          case measure => simp [intOf]; omega
        · rw [if_neg hz] at HGV
          have jz : (ea == 0) = false := beq_eq_false_iff_ne.2 hz
          have d4 : wc.cell? ⟨q6, 4, none⟩ = some (.slice B3 k c3) := HB.out.node.cell 4
          have O : Hid (wc.ownsRow w.heap.size 2 1 (.slice B3 k c3) k (E3.map (Value.int .i64))) := Lib.hid (by
            have := HB.out.mine.mg
            unfold Mw at this
            rw [show E3.length = k from N3.out] at this
            exact this)
          have hsz : w.heap.size ≤ wc.heap.size := HB.out.bel.size
          have BC : Hid (∀ w1, (wc.alloc (.cells #[.int .i64 (0)] 2)).grownBy w1 (Value.slice B3 k c3).ownBlock → w1.cell? ⟨q6, 4, none⟩ = some (.slice B3 k c3) ∧ w1.frozen? ⟨q6, 4, none⟩ = false) := Lib.hid (fun w1 hg => HB.out.gaps_at hg)
          go_upto_region 4 with (at_builtin; refine wpList_append_lies _ rfl (.tmp 69) (.tmp 71) _ rfl w.heap.size 2 i0 _ 1 8 Try.underlying27 hi0 hz0 hz1 hz2 rfl (by omega) _ k _ rfl (O.out.alloc _) ⟨wc.heap.size, 0, none⟩ 1 1 [.int .i64 (0)] rfl rfl (World.news_of_block (cs := #[.int .i64 (0)]) (t := 2) (fr := (0, 0)) (heap_alloc_new wc _)) (by simp [Value.oneCell']) (by omega) (by simp only [maxLen]; omega) (by omega) (by simp; omega) (wc.heap.size + 1) (by simp) ?_; intro gg cap w1 hown1 hgrow hat hlt'; have b2 := (BC.out _ hgrow).1; have bf := (BC.out _ hgrow).2)
          have e1 : (E3 ++ [0]).length = k + 1 := by rw [List.length_append, N3.out]; rfl
          have nx := HB.out.gaps (x := 0) (gg := gg) (cap := cap) HQ.out.1 HQ.out.2 hgrow (by rw [e1, List.map_append]; exact hown1) hat
          rw [e1] at nx
          rw [HGV.out] at NDK
          have NX : Hid (Bld w (w1.setCell ⟨q6, 4, none⟩ (.slice (some ⟨gg, 0, none⟩) (k + 1) cap)) w.heap.size q6 (ndTo l gs false (k + 1)) (.slice D1 (k + 1) f1) (.slice D2 (k + 1) f2) (.slice (some ⟨gg, 0, none⟩) (k + 1) cap)) := Lib.hid (by rw [NDK.out]; exact nx)
          clear nx hown1 hgrow hat hlt' b2 bf BC O d4
          go_wp2_with fail
          go_roundw
          case rel => exact ⟨k + 1, _, _, _, by omega, by go_num, NX.out⟩
          case measure => simp [intOf]; omega
    · have hkL : k = L := by omega
      subst hkL
      have HB := Lib.hid hB
      obtain ⟨B1, c1, rfl⟩ := own_slice hB.mine.me
      obtain ⟨B2, c2, rfl⟩ := own_slice hB.mine.ms
      obtain ⟨B3, c3, rfl⟩ := own_slice hB.mine.mg
      have ll := ndTo_len l gs inner k
      rw [ll.1, ll.2.1, ll.2.2] at HB
      clear hB B0 CE CG HCC ll
      obtain ⟨d0, d1, d2, d3, d4⟩ := row5 HB.out.node
      obtain ⟨z0, z1, z2, z3, z4⟩ := row5 HB.out.res
      obtain ⟨f0, f1, f2, f3, f4⟩ := row5f HB.out.res
      have ni : (ndTo l gs inner k).inner = inner := rfl
      have nl : (ndTo l gs inner k).lo = (enAt l 0).lo := rfl
      rw [ni] at d0
      rw [nl] at d1
      have FX : Hid (R (.returned ((ndTo l gs inner k).val (.slice B1 k c1) (.slice B2 k c2) (.slice B3 k c3))) (set5 wr w.heap.size (.bool inner) (.int .i64 (enAt l 0).lo) (.slice B1 k c1) (.slice B2 k c2) (.slice B3 k c3))) := Lib.hid (by
        rw [← HR.out]
        exact ⟨_, _, _, rfl, HB.out.mine.far HB.out.res (five_only _ _ _ _ _ _ _), HB.out.bel.trans ((five_only _ _ _ _ _ _ _).below (fun k hk => by rw [hk]; exact Nat.le_refl _) HB.out.bel.size)⟩)
      have P0 := Lib.hid (five_put HB.out.res (.bool inner) (.int .i64 (enAt l 0).lo) (.slice B1 k c1) (.slice B2 k c2) (.slice B3 k c3))
      clear HB ni nl HR
      go_wp2_with fail
      refine bodyPost_ret (results_cell_row rfl _ _ w.heap.size 34 _ (0, 0) _ rfl P0.out Try.underlying34 rfl (by kernel_rfl)) rfl ?_
      exact FX.out
end Go.Proofs.Ytejkhnphplpkeaa
