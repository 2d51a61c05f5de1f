/-
  Texts of our own, one behind the other (BdNodes): what the laws' proofs rest on; each says at its head what it holds. No conditions.
-/
import Derived.Test.YtejkhnphplpkeaaPkZo
import Derived.Test.YtejkhnphplpkeaaPkZi
/-
  Layer 18: nodes that are placed, in memory; the nodes of one level.
-/
namespace Go.Proofs.Ytejkhnphplpkeaa
open Go.ChangeShapes Go.WideShapes Go.ChangeAt Go.RowKit
set_option linter.unusedVariables false

/-- A node, its handle, its three slices. -/
structure Pd where
  h : Int
  n : Nd
  x : Value
  y : Value
  z : Value
def Pd.c (p : Pd) : List Value := [.int .i64 p.h, .bool p.n.inner, .int .i64 p.n.lo, p.x, p.y, p.z]
def plC (l : List Pd) : List Value := l.flatMap Pd.c
theorem plC_len (l : List Pd) : (plC l).length = l.length * 6 := by
  induction l with
  | nil => rfl
  | cons e l ih => show (e.c ++ plC l).length = _; rw [List.length_append, ih, List.length_cons]; simp [Pd.c]; omega
theorem plC_app (l l' : List Pd) : plC (l ++ l') = plC l ++ plC l' := by unfold plC; rw [List.flatMap_append]
def pdAt (l : List Pd) (i : Nat) : Pd := l.getD i ⟨0, Nd.nil, .slice none 0 0, .slice none 0 0, .slice none 0 0⟩
theorem plC_at (l : List Pd) (i j : Nat) (hi : i < l.length) (hj : j < 6) : (plC l)[i * 6 + j]? = (pdAt l i).c[j]? := by
  induction l generalizing i with
  | nil => simp at hi
  | cons e l ih =>
    have ec : plC (e :: l) = e.c ++ plC l := rfl
    have e6 : e.c.length = 6 := rfl
    match i with
    | 0 =>
      rw [ec, Nat.zero_mul, Nat.zero_add, List.getElem?_append_left (by omega)]
      rfl
    | i + 1 =>
      have := ih i (by simpa using hi)
      rw [ec, List.getElem?_append_right (by omega), e6, show (i + 1) * 6 + j - 6 = i * 6 + j by omega, this]
      rfl
theorem pdAt_mem {l : List Pd} {i : Nat} (h : i < l.length) : pdAt l i ∈ l := by
  unfold pdAt
  rw [List.getD_eq_getElem?_getD, List.getElem?_eq_getElem h]
  exact List.getElem_mem h
theorem pdAt_app (l : List Pd) (p : Pd) (i : Nat) (h : i < l.length + 1) : pdAt (l ++ [p]) i = if i < l.length then pdAt l i else p := by
  unfold pdAt
  rw [List.getD_eq_getElem?_getD, List.getD_eq_getElem?_getD]
  by_cases hi : i < l.length
  · rw [List.getElem?_append_left hi, if_pos hi]
  · have e : i = l.length := by omega
    subst e
    rw [List.getElem?_append_right (Nat.le_refl _), if_neg hi]
    simp
/-- A row of them that a call has made. -/
def Pls (base : Nat) (w : World) (v : Value) (l : List Pd) : Prop := w.ownsRow base 36 6 v l.length (plC l) ∧ ∀ p ∈ l, NdMine base w p.n p.x p.y p.z
section
variable {w w' W : World} {base : Nat} {v : Value} {l : List Pd}
theorem Pls.nil (w : World) (base : Nat) : Pls base w (.slice none 0 0) [] := ⟨World.ownsRow_nil w base _ _, fun p hp => by simp at hp⟩
theorem Pls.still (h : Pls base w v l) (hb : Below w.heap.size w w') : Pls base w' v l := ⟨own_still h.1 hb, fun p hp => (h.2 p hp).still hb⟩
theorem Pls.base' {b : Nat} (h : Pls base w v l) (hb : b ≤ base) : Pls b w v l := ⟨own_base h.1 hb, fun p hp => (h.2 p hp).base' hb⟩
theorem NdMine.grown {n : Nd} {e s g u : Value} {m : Nat} {xs : List Value} (h : NdMine base w n e s g) (hr : w.ownsRow base 36 6 u m xs) (hg : w.grownBy W u.ownBlock) : NdMine base W n e s g :=
  ⟨own_kept h.me hr hg (by decide), own_kept h.ms hr hg (by decide), own_kept h.mg hr hg (by decide), h.es, h.eg, h.sg⟩
/-- More of them, behind those that are there. -/
theorem Pls.more {k : List Pd} {u : Value} (h : Pls base w v l) (hk : ∀ p ∈ k, NdMine base w p.n p.x p.y p.z) (hg : w.grownBy W v.ownBlock) (hr : W.ownsRow base 36 6 u (l.length + k.length) (plC l ++ plC k)) : Pls base W u (l ++ k) := by
  refine ⟨by rw [List.length_append, plC_app]; exact hr, fun p hp => ?_⟩
  rcases List.mem_append.1 hp with hp | hp
  · exact (h.2 p hp).grown h.1 hg
  · exact (hk p hp).grown h.1 hg
theorem Pls.alloc (h : Pls base w v l) (o : Obj) : Pls base (w.alloc o) v l := h.still (below_new w o)
theorem Pls.cell (h : Pls base w v l) {g c : Nat} (hv : v = .slice (some ⟨g, 0, none⟩) l.length c) (i j : Nat) (hi : i < l.length) (hj : j < 6) : w.cell? ⟨g, i * 6 + j, none⟩ = (pdAt l i).c[j]? := by
  subst hv
  rw [h.1.cellAt (i * 6 + j) (by omega)]
  exact plC_at l i j hi hj
end
theorem placed_info : (Try.prog.info? 36).map (fun i => (i.zero, i.size, i.bytes)) = some (some (.agg #[.int .i64 0, .bool false, .int .i64 0, .slice none 0 0, .slice none 0 0, .slice none 0 0]), 6, 96) := by kernel_rfl
theorem placed_info' : ∃ i0, Try.prog.info? 36 = some i0 ∧ i0.zero = some (.agg #[.int .i64 0, .bool false, .int .i64 0, .slice none 0 0, .slice none 0 0, .slice none 0 0]) ∧ i0.size = 6 ∧ i0.bytes = 96 := by
  obtain ⟨i0, h1, h2⟩ := Option.map_eq_some_iff.1 placed_info
  simp only [Prod.mk.injEq] at h2
  exact ⟨i0, h1, h2.1, h2.2.1, h2.2.2⟩

/-! The nodes of a level. -/
/-- The i-th piece of entries. -/
def pieceU (us : List Up) (i : Nat) : List Up := (us.drop (pcAt us.length i)).take (pc us.length i)
theorem upAt_part (us : List Up) {a k i : Nat} (h : i < k) : upAt ((us.drop a).take k) i = upAt us (a + i) := by
  unfold upAt
  rw [List.getD_eq_getElem?_getD, List.getD_eq_getElem?_getD, List.getElem?_take, if_pos h, List.getElem?_drop]
theorem pcU_in {n i : Nat} (h1 : 1 ≤ n) (hi : i < pcs n) : pcAt n i + pc n i ≤ n := by
  have h := pcAt_le (n := n) (show i + 1 ≤ pcs n by omega)
  rw [pcAt_end h1, pcAt_succ] at h
  exact h
theorem pieceU_len {us : List Up} (h1 : 1 ≤ us.length) {i : Nat} (hi : i < pcs us.length) : (pieceU us i).length = pc us.length i := by
  have := pcU_in h1 hi
  simp [pieceU]
  omega
/-- What the level is, so far. -/
def Lev (inner : Bool) (us : List Up) (hs : List Int) (ps : List Pd) : Prop := ∀ j, j < ps.length → (pdAt ps j).h = nth hs j ∧ (pdAt ps j).n = ndU inner (pieceU us j)
set_option maxRecDepth 10000 in
set_option maxHeartbeats 8000000 in
theorem nodes_c {w : World} {v hv : Value} {us : List Up} {hs : List Int} {inner : Bool} (h : UpIn w v us) (hh : Wds w hv hs) (h1 : 1 ≤ us.length) (h64 : us.length ≤ 64) (hk : pcs us.length ≤ hs.length) (h1000 : hs.length ≤ 1000) :
    Calls Try.prog 40 #[.bool inner, v, hv] w fun e w' => ∃ v' ps, e = .returned v' ∧ Pls w.heap.size w' v' ps ∧ ps.length = pcs us.length ∧ Lev inner us hs ps ∧ Below w.heap.size w w' := by
  obtain ⟨j0, hj0, hjz0, hjz1, hjz2⟩ := placed_info'
  have hK := pcs_few h1 h64
  obtain ⟨R, hR⟩ : ∃ R : Ending → World → Prop, (fun e w' => ∃ v' ps, e = .returned v' ∧ Pls w.heap.size w' v' ps ∧ ps.length = pcs us.length ∧ Lev inner us hs ps ∧ Below w.heap.size w w') = R := ⟨_, rfl⟩
  rw [hR]
  have FIN : Hid (∀ v W ps, Pls w.heap.size W v ps → ps.length = pcs us.length → Lev inner us hs ps → Below w.heap.size w W → R (.returned v) W) := Lib.hid (fun v W ps a b c d => by rw [← hR]; exact ⟨v, ps, rfl, a, b, c, d⟩)
  clear hR
  obtain ⟨A, c, rfl, hc, hA⟩ := h
  obtain ⟨b, off, rfl, ce⟩ := hA (by omega)
  have CE : Hid (∀ W, Below w.heap.size w W → ∀ i, i < pcs us.length → ∀ c', pc us.length i ≤ c' → UpIn W (.slice (some ⟨b, off + pcAt us.length i * 4, none⟩) (pc us.length i) c') (pieceU us i)) := Lib.hid (fun W hb i hi c' hc' => by
    refine ⟨_, c', by rw [pieceU_len h1 hi], by rw [pieceU_len h1 hi]; exact hc', fun h0 => ⟨b, _, rfl, fun j hj => ?_⟩⟩
    rw [pieceU_len h1 hi] at hj
    have hin := pcU_in h1 hi
    obtain ⟨k0, k1, k2, k3⟩ := ce (pcAt us.length i + j) (by omega)
    unfold pieceU
    rw [upAt_part us hj]
    have e : off + pcAt us.length i * 4 + j * 4 = off + (pcAt us.length i + j) * 4 := by omega
    rw [e]
    exact ⟨by rw [hb.cell (p := ⟨b, off + (pcAt us.length i + j) * 4, none⟩) (World.block_lt_of_cell? w _ k0)]; exact k0, by rw [hb.cell (p := ⟨b, off + (pcAt us.length i + j) * 4 + 1, none⟩) (World.block_lt_of_cell? w _ k1)]; exact k1, by rw [hb.cell (p := ⟨b, off + (pcAt us.length i + j) * 4 + 2, none⟩) (World.block_lt_of_cell? w _ k2)]; exact k2, by rw [hb.cell (p := ⟨b, off + (pcAt us.length i + j) * 4 + 3, none⟩) (World.block_lt_of_cell? w _ k3)]; exact k3⟩)
  clear hA ce
  obtain ⟨A', c1, rfl, _, hA'⟩ := hh
  obtain ⟨hb0, ho, rfl, ch⟩ := hA' (by omega)
  have CH : Hid (∀ W, Below w.heap.size w W → ∀ i, i < hs.length → W.cell? ⟨hb0, ho + i, none⟩ = some (.int .i64 (nth hs i))) := Lib.hid (fun W hb i hi => by
    have k0 := ch i hi
    rw [hb.cell (p := ⟨hb0, ho + i, none⟩) (World.block_lt_of_cell? w _ k0)]; exact k0)
  clear hA' ch
  have PF : Hid (∀ i, i < pcs us.length → 1 ≤ pc us.length i ∧ pc us.length i ≤ 8 ∧ pcAt us.length i + pc us.length i ≤ us.length ∧ pcAt us.length (i + 1) = pcAt us.length i + pc us.length i) := Lib.hid (fun i hi => ⟨(pc_few h1 h64 hi).1, (pc_few h1 h64 hi).2, pcU_in h1 hi, pcAt_succ _ _⟩)
  have P0 := Lib.hid (pcAt_zero us.length)
  have CC := Lib.hid (cut18_c (w := w) (us.length : Int))
  have PLN : Hid (∀ i, i < pcs us.length → (pieceU us i).length = pc us.length i) := Lib.hid (fun i hi => pieceU_len h1 hi)
  obtain ⟨n, hn⟩ : ∃ n, us.length = n := ⟨_, rfl⟩
  rw [hn] at hc h1 h64 hk CE PF P0 CC PLN FIN hK ⊢
  have HN := Lib.hid hn
  clear hn
  obtain ⟨K, hKe⟩ : ∃ K, pcs n = K := ⟨_, rfl⟩
  rw [hKe] at hk CE PF PLN FIN hK
  have HKE := Lib.hid hKe
  clear hKe
  obtain ⟨hl, hhl⟩ : ∃ hl, hs.length = hl := ⟨_, rfl⟩
  rw [hhl] at hk h1000 CH ⊢
  have HHL := Lib.hid hhl
  clear hhl
  go_enter Try.func40, Try.ntmps40
  go_wp2_with fail
  refine CC.out.mono ?_
  intro e w1 hcp
  unfold CutPost at hcp
  rw [if_pos (by omega)] at hcp
  obtain ⟨q, rfl, hq, hqw, hb1⟩ := hcp
  rw [show ((n : Int)).toNat = n by omega] at hq ⊢
  rw [HKE.out]
  have HQ := Lib.hid hq
  have HQW := Lib.hid hqw
  have HB1 := Lib.hid hb1
  have CUT : Hid (∀ W, Whole W q 3 (nums (cutL n)) → ∀ i, i < K → W.cell? ⟨q, i, none⟩ = some (.int .i64 (pc n i : Nat))) := Lib.hid (fun W hw i hi => by
    rw [hw.cell, nums_at (cutL n) i (by rw [cutL_len, HKE.out]; exact hi), cutL_at (by rw [HKE.out]; exact hi)])
  clear hq hqw hb1 CC
  go_wp2_with fail
  go_loopw [1, 7, 8, 9, 14] (fun ev lv _ _ iv wr => ∃ (i c' : Nat) (ps : List Pd) (Ae : Option Addr), i ≤ K ∧ iv = .int .i64 i ∧ ev = .slice Ae (n - pcAt n i) c' ∧ (pcAt n i < n → Ae = some ⟨b, off + pcAt n i * 4, none⟩) ∧ n - pcAt n i ≤ c' ∧ Pls w.heap.size wr lv ps ∧ ps.length = i ∧ Lev inner us hs ps ∧ Whole wr q 3 (nums (cutL n)) ∧ Below w.heap.size w wr) (fun _ _ _ _ iv _ => K - (intOf iv).toNat)
  case atStart => exact ⟨0, c, [], _, by omega, rfl, by rw [P0.out, Nat.sub_zero], fun _ => by rw [P0.out]; simp, by omega, Pls.nil _ _, rfl, fun j hj => by simp at hj, HQ.out, HB1.out⟩
  case round =>
    obtain ⟨i, c', ps, Ae, hi, rfl, rfl, hAe, hc', hP, hpl, hlev, hq, hb⟩ := hrel
    by_cases hlt : i < K
    · have j1 : (i : Int) < (K : Int) := by omega
      have jh : (i : Int) < (hl : Int) := by omega
      have hi8 : (i : Int) ≤ 8 := by omega
      obtain ⟨p1, p8, pin, pnx⟩ := PF.out i hlt
      have hAe' := hAe (by omega)
      subst hAe'
      have cu := CUT.out wr hq i hlt
      have ch := Lib.hid (fun (W : World) (hW : Below w.heap.size w W) => CH.out W hW i (by omega))
      have CN : Hid (∀ W, Below wr.heap.size wr W → Calls Try.prog 64 #[.bool inner, .slice (some ⟨b, off + pcAt n i * 4, none⟩) (pc n i) c'] W (fun e w7 => ∃ (Bx By Bz : Option Addr) (lx ly lz cx cy cz : Nat), e = .returned (.agg #[.bool inner, .int .i64 (ndU inner (pieceU us i)).lo, .slice Bx lx cx, .slice By ly cy, .slice Bz lz cz]) ∧ NdMine W.heap.size w7 (ndU inner (pieceU us i)) (.slice Bx lx cx) (.slice By ly cy) (.slice Bz lz cz) ∧ Below W.heap.size W w7)) := Lib.hid (fun W hW => by
        refine (node18_c ((CE.out wr hb i hlt c' (by omega)).still hW) (by rw [PLN.out i hlt]; omega) (by rw [PLN.out i hlt]; omega)).mono ?_
        rintro e w7 ⟨x, y, z, rfl, hnd, hb7⟩
        obtain ⟨Bx, cx, rfl⟩ := own_slice hnd.me
        obtain ⟨By, cy, rfl⟩ := own_slice hnd.ms
        obtain ⟨Bz, cz, rfl⟩ := own_slice hnd.mg
        exact ⟨Bx, By, Bz, _, _, _, cx, cy, cz, rfl, hnd, hb7⟩)
      have LX : Hid (∀ p : Pd, p.h = nth hs i → p.n = ndU inner (pieceU us i) → Lev inner us hs (ps ++ [p])) := Lib.hid (fun p e1 e2 j hj => by
        rw [List.length_append] at hj
        have hj : j < ps.length + 1 := by simpa using hj
        rw [pdAt_app ps p j hj]
        by_cases h : j < ps.length
        · rw [if_pos h]; exact hlev j h
        · rw [if_neg h]
          have e : j = i := by omega
          subst e
          exact ⟨e1, e2⟩)
      obtain ⟨B1, cb1, rfl⟩ := own_slice hP.1
      rw [hpl] at hP ⊢
      have HP := Lib.hid hP
      have HB := Lib.hid hb
      have HW := Lib.hid hq
      have HPL := Lib.hid hpl
      clear hAe hP hb hq hpl hlev CE CH PF CUT PLN FIN HQ HB1 P0
      have NI : Hid ((ndU inner (pieceU us i)).inner = inner) := Lib.hid rfl
      generalize ndU inner (pieceU us i) = nd at *
      generalize pcAt n i = a at *
      generalize pc n i = s at *
      generalize nth hs i = hx at *
      obtain ⟨m, hm⟩ : ∃ m, n - a = m := ⟨_, rfl⟩
      rw [hm] at hc' ⊢
      have HM := Lib.hid hm
      have PNX := Lib.hid pnx
      have s8 : (s : Int) ≤ 8 := by omega
      have sm : (s : Int) ≤ (m : Int) := by omega
      have sc : (s : Int) ≤ (c' : Int) := by omega
      have mc : (m : Int) ≤ (c' : Int) := by omega
      clear hm pnx
      go_upto_region 5 with (fail)
      have k0 := ch.out wr HB.out
      have kd := ch.out wr.drew (below_drew HB.out)
      have DR : Hid (Below wr.heap.size wr wr.drew) := Lib.hid (below_drew (Below.refl _ _))
      go_region_held3 (fun W => W.cell? ⟨hb0, ho + i, none⟩ = some (.int .i64 hx))
        (first | exact k0 | exact kd | exact K7 | exact box_cell _ _ _ _ K7 | exact K8)
        (first
          | (go_at_call 64; refine (CN.out _ DR.out).mono ?_; rintro e w7 ⟨Bx, By, Bz, lx, ly, lz, cx, cy, cz, rfl, hnd, hb7⟩; have hB7 := DR.out.trans (by exact hb7); have P7 := Lib.hid (HP.out.still hB7); have B7 := Lib.hid (below_then HB.out hB7 (Nat.le_refl _)); have W7 := Lib.hid (HW.out.below hB7 HW.out.lt); have N7 := Lib.hid hnd; have K7 := ch.out w7 B7.out; have O7 := Lib.hid P7.out.1; rw [HPL.out] at O7; clear hnd hb7 hB7)
          | (refine step_append_lies _ (by rfl) (.tmp 19) (.tmp 30) _ (by rfl) w.heap.size 36 j0 _ 6 96 Try.underlying29 hj0 hjz0 hjz1 hjz2 rfl (by omega) _ i _ (by rfl) (O7.out.alloc _) ⟨w7.heap.size, 0, none⟩ 1 1 [.int .i64 hx, .bool inner, .int .i64 nd.lo, .slice Bx lx cx, .slice By ly cy, .slice Bz lz cz] (by rfl) rfl (World.news_of_block (cs := #[.int .i64 hx, .bool inner, .int .i64 nd.lo, .slice Bx lx cx, .slice By ly cy, .slice Bz lz cz]) (t := 36) (fr := (0, 0)) (heap_alloc_new w7 _)) (by simp [Value.oneCell']) (by omega) (by simp only [maxLen]; omega) (by omega) (by have := B7.out.size; simp; omega) (w7.heap.size + 1) (by simp) ?_; intro gg cap w8 hown hgrow hat hlt3; have GW := Lib.hid hown; have GG := Lib.hid hgrow; have NB := Lib.hid ((B7.out.alloc B7.out.size _).grown hgrow (by have := B7.out.size; simp; omega) (fun k hk => (World.ownsRow.lt O7.out k hk).1)); have K8 := ch.out w8 NB.out; clear hown hgrow hat hlt3)
          | fail)
      have PA := Lib.hid (P7.out.alloc (.cells #[.int .i64 hx, .bool inner, .int .i64 nd.lo, .slice Bx lx cx, .slice By ly cy, .slice Bz lz cz] 36))
      have N8 := Lib.hid ((N7.out.base' (b := w.heap.size) HB.out.size).still (below_new w7 (.cells #[.int .i64 hx, .bool inner, .int .i64 nd.lo, .slice Bx lx cx, .slice By ly cy, .slice Bz lz cz] 36)))
      have NX : Hid (Pls w.heap.size w8 (.slice (some ⟨gg, 0, none⟩) (i + 1) cap) (ps ++ [⟨hx, nd, .slice Bx lx cx, .slice By ly cy, .slice Bz lz cz⟩])) := Lib.hid (PA.out.more (fun p hp => by
        have e : p = ⟨hx, nd, .slice Bx lx cx, .slice By ly cy, .slice Bz lz cz⟩ := by simpa using hp
        subst e
        exact N8.out) GG.out (by
        rw [HPL.out]
        have e : plC [(⟨hx, nd, .slice Bx lx cx, .slice By ly cy, .slice Bz lz cz⟩ : Pd)] = [.int .i64 hx, .bool inner, .int .i64 nd.lo, .slice Bx lx cx, .slice By ly cy, .slice Bz lz cz] := by
          rw [← NI.out]; rfl
        rw [e]
        exact GW.out))
      have NW : Hid (Whole w8 q 3 (nums (cutL n))) := Lib.hid ((W7.out.alloc _).grown GG.out (fun he => own_apart P7.out.1 W7.out (by decide) he.symm))
      have NL := Lib.hid (LX.out ⟨hx, nd, .slice Bx lx cx, .slice By ly cy, .slice Bz lz cz⟩ rfl rfl)
      have NPL : Hid ((ps ++ [(⟨hx, nd, .slice Bx lx cx, .slice By ly cy, .slice Bz lz cz⟩ : Pd)]).length = i + 1) := Lib.hid (by rw [List.length_append, HPL.out]; rfl)
      generalize ps ++ [(⟨hx, nd, .slice Bx lx cx, .slice By ly cy, .slice Bz lz cz⟩ : Pd)] = ps' at *
      clear O7 PA N8 P7 N7 W7 B7 K7 K8 GW GG DR CN LX HP HB HW ch k0 kd
      go_wp2_with fail
      go_roundw
      case rel =>
        refine ⟨i + 1, c' - s, ps', _, by omega, by go_num, by rw [PNX.out, ← Nat.sub_sub, HM.out], ?_, ?_, NX.out, NPL.out, NL.out, NW.out, NB.out⟩
        · intro hlt2
          rw [PNX.out] at hlt2 ⊢
          have := HM.out
          rw [if_neg (by omega), Nat.add_mul, Nat.add_assoc]
        · rw [PNX.out, ← Nat.sub_sub, HM.out]; omega
      case measure => simp [intOf]; omega
    · have e : i = K := by omega
      subst e
      have j1 : ¬ (i : Int) < (i : Int) := by omega
      have FX := Lib.hid (FIN.out _ _ _ hP hpl hlev hb)
      obtain ⟨B1, cb1, rfl⟩ := own_slice hP.1
      clear hAe FIN hP hpl hlev hb hq CE CH PF CUT PLN HQ HB1 P0
      go_wp2_with fail
      exact FX.out
end Go.Proofs.Ytejkhnphplpkeaa
