/-
  Texts of our own, one behind the other (RbTree): what the laws' proofs rest on; each says at its head what it holds. No conditions.
-/
import Derived.Test.YtejkhnphplpkeaaPkZt
import Derived.Test.YtejkhnphplpkeaaPkZi
/-
  Layer 18: samararef18.Tree.
-/
namespace Go.Proofs.Ytejkhnphplpkeaa
open Go.ChangeShapes Go.WideShapes Go.ChangeAt Go.RowKit
set_option linter.unusedVariables false

/-- Entries that came in, or that a round has made. -/
def Src (w : World) (v : Value) (L : List En) (wr : World) : Prop := Ens w v L ∨ Mes w.heap.size wr v L
/-- Where the rounds stand. -/
def RtRel (w : World) (es : List En) (hs : List Int) (r : Nat) (l0 ov v6 : Value) (inner : Bool) (wr : World) : Prop :=
  ∃ (L : List En) (gs : List Int) (outs : List Pd), Rnd es hs r L gs inner (outs.map Pd.n) ∧ Src w l0 L wr ∧ Mw w.heap.size wr v6 gs ∧ wr.ownsRow w.heap.size 34 5 ov outs.length (nsC outs) ∧ (∀ p ∈ outs, NdMine w.heap.size wr p.n p.x p.y p.z) ∧ Below w.heap.size w wr
/-- What the call leaves. -/
def RtPost (w : World) (es : List En) (hs : List Int) (e : Ending) (w' : World) : Prop := ∃ v ps, e = .returned v ∧ w'.ownsRow w.heap.size 34 5 v ps.length (nsC ps) ∧ (∀ p ∈ ps, NdMine w.heap.size w' p.n p.x p.y p.z) ∧ ps.map Pd.n = treeN es (nth hs) ∧ Below w.heap.size w w'
section
variable {w : World} {es : List En} {hs : List Int}
/-- What a round reads. -/
structure RdOk (w : World) (l0 v6 hv : Value) (L : List En) (gs hs : List Int) (inner : Bool) (W : World) : Prop where
  ens : Ens W l0 L
  wds : Wds W v6 gs
  hnd : Wds W hv hs
theorem src_only {wr W : World} {l0 v6 hv ov : Value} {L : List En} {gs : List Int} {inner : Bool} {n : Nat} {xs : List Value} (h : Src w l0 L wr) (hg : Mw w.heap.size wr v6 gs) (hh : Wds w hv hs) (hb : Below w.heap.size w wr) (ho : wr.ownsRow w.heap.size 34 5 ov n xs) (hO : Only (fun k => ov.ownBlock = some k) wr W) : RdOk w l0 v6 hv L gs hs inner W := by
  have hB : Below w.heap.size w W := hb.trans (hO.below (fun k hk => (World.ownsRow.lt ho k hk).1) hb.size)
  refine ⟨?_, ?_, hh.still hB⟩
  · rcases h with h | h
    · exact h.still hB
    · exact (Mes.only h hO (fun k hk he => own_rows h ho (by decide) k hk he)).ens
  · exact (hg.only hO (fun k hk he => own_rows hg ho (by decide) k hk he)).wds
end
theorem Ens.part {w : World} {b off c : Nat} {L : List En} {a k c' : Nat} (h : Ens w (.slice (some ⟨b, off, none⟩) L.length c) L) (hk : a + k ≤ L.length) (hc : k ≤ c') : Ens w (.slice (some ⟨b, off + a * 3, none⟩) k c') ((L.drop a).take k) := by
  obtain ⟨A, c2, e, _, hA⟩ := h
  injection e with e1 _ e3
  subst e1
  have hl : ((L.drop a).take k).length = k := by simp; omega
  refine ⟨_, c', by rw [hl], by rw [hl]; exact hc, fun h0 => ?_⟩
  rw [hl] at h0
  obtain ⟨b', off', e, ce⟩ := hA (by omega)
  injection e with e
  injection e with eb eo
  subst eb
  subst eo
  refine ⟨b, off + a * 3, rfl, fun i hi => ?_⟩
  rw [hl] at hi
  rw [enAt_take hi, enAt_drop]
  have := ce (a + i) (by omega)
  rw [show off + a * 3 + i * 3 = off + (a + i) * 3 by omega]
  exact this
theorem Wds.part {w : World} {b off c : Nat} {L : List Int} {a k c' : Nat} (h : Wds w (.slice (some ⟨b, off, none⟩) L.length c) L) (hk : a + k ≤ L.length) (hc : k ≤ c') : Wds w (.slice (some ⟨b, off + a, none⟩) k c') ((L.drop a).take k) := by
  obtain ⟨A, c2, e, _, hA⟩ := h
  injection e with e1 _ e3
  subst e1
  have hl : ((L.drop a).take k).length = k := by simp; omega
  refine ⟨_, c', by rw [hl], by rw [hl]; exact hc, fun h0 => ?_⟩
  rw [hl] at h0
  obtain ⟨b', off', e, ce⟩ := hA (by omega)
  injection e with e
  injection e with eb eo
  subst eb
  subst eo
  refine ⟨b, off + a, rfl, fun i hi => ?_⟩
  rw [hl] at hi
  have := ce (a + i) (by omega)
  rw [show off + a + i = off + (a + i) by omega, this]
  unfold nth
  simp only [List.getD_eq_getElem?_getD, List.getElem?_take, if_pos hi, List.getElem?_drop]
theorem range_more {α : Type} (f : Nat → α) (k : Nat) : (List.range k).map f ++ [f k] = (List.range (k + 1)).map f := by rw [List.range_succ, List.map_append]; rfl
/-- What a node's call leaves. -/
def NodePx (W : World) (n : Nd) (inner : Bool) (e : Ending) (w7 : World) : Prop := ∃ (Bx By Bz : Option Addr) (lx ly lz cx cy cz : Nat), e = .returned (.agg #[.bool n.inner, .int .i64 n.lo, .slice Bx lx cx, .slice By ly cy, .slice Bz lz cz]) ∧ lz = n.gaps.length ∧ (1 ≤ lz ∧ lz ≤ 8) ∧ NdMine W.heap.size w7 n (.slice Bx lx cx) (.slice By ly cy) (.slice Bz lz cz) ∧ Below W.heap.size W w7
theorem rt_node {W : World} {lb lo lc o i : Nat} {gv : Value} {L : List En} {gs hs : List Int} {inner : Bool} (ok : RndOk hs L gs inner o) (hi : i < pcs L.length) (he : Ens W (.slice (some ⟨lb, lo, none⟩) L.length lc) L) (hg : Wds W gv (if inner then pieceI gs L.length i else [])) (hc : L.length ≤ lc) : Calls Try.prog 46 #[.slice (some ⟨lb, lo + pcAt L.length i * 3, none⟩) (pc L.length i) (lc - pcAt L.length i), gv, .bool inner] W (NodePx W (nodeJ L gs inner i) inner) := by
  have hp := pc_few ok.one ok.few hi
  have hin := pcU_in ok.one hi
  have hpl := piece_len ok.one hi
  have e1 := he.part (a := pcAt L.length i) (k := pc L.length i) (c' := lc - pcAt L.length i) hin (by omega)
  have key := refNodeB_c (inner := inner) e1 hg (by show 1 ≤ (piece L i).length; omega) (by show (piece L i).length ≤ 8; omega) (fun h => by
    show _ = (piece L i).length
    rw [hpl, if_pos h]
    unfold pieceI
    have := ok.len h
    simp
    omega) (fun j hj => by
    have hj : j < pc L.length i := by rw [← hpl]; exact hj
    have e := piece_at (es := L) hj
    unfold piece at e
    rw [e]
    exact ok.bnd _ (by omega))
  refine key.mono ?_
  rintro e w7 ⟨x, y, z, rfl, hnd, hb7⟩
  have en : ndTo ((L.drop (pcAt L.length i)).take (pc L.length i)) (if inner then pieceI gs L.length i else []) inner ((L.drop (pcAt L.length i)).take (pc L.length i)).length = nodeJ L gs inner i := by
    show ndTo (piece L i) _ inner (piece L i).length = _
    unfold nodeJ
    rw [hpl]
  rw [en] at hnd ⊢
  obtain ⟨Bx, cx, rfl⟩ := own_slice hnd.me
  obtain ⟨By, cy, rfl⟩ := own_slice hnd.ms
  obtain ⟨Bz, cz, rfl⟩ := own_slice hnd.mg
  exact ⟨Bx, By, Bz, _, _, _, cx, cy, cz, rfl, rfl, (by rw [show (nodeJ L gs inner i).gaps.length = pc L.length i from (ndTo_len _ _ _ _).2.2]; exact hp), hnd, hb7⟩
/-- A round's end. -/
theorem rt_next {w w3 W : World} {es : List En} {hs : List Int} {r : Nat} {L : List En} {gs : List Int} {inner : Bool} {outs ps : List Pd} {ov ov' uv mv : Value} (hf : Formed18 es) (hh : hs.length = cntN es.length) (hr : Rnd es hs r L gs inner (outs.map Pd.n)) (hb : Below w.heap.size w w3) (ho : w3.ownsRow w.heap.size 34 5 ov outs.length (nsC outs)) (hn : ∀ p ∈ outs, NdMine w.heap.size w3 p.n p.x p.y p.z)
    (hl : ps.length = pcs L.length) (hp : ∀ j, j < ps.length → (pdAt ps j).n = nodeJ L gs inner j) (hx : InX w.heap.size w3 (fun k => ov.ownBlock = some k) ov' (outs ++ ps) ps uv ((List.range (pcs L.length)).map (upJ L hs outs.length)) mv ((List.range (pcs L.length)).map (mostJ L gs inner)) W) :
    Below w.heap.size w W ∧ (∀ p ∈ outs ++ ps, NdMine w.heap.size W p.n p.x p.y p.z) ∧ (pcs L.length = 1 → (outs ++ ps).map Pd.n = treeN es (nth hs)) ∧ (pcs L.length ≠ 1 → r = 0 ∧ RtRel w es hs 1 uv ov' mv true W) := by
  have hB : Below w.heap.size w W := hb.trans (hx.only.below (fun k hk => (World.ownsRow.lt ho k hk).1) hb.size)
  have hN : ∀ p ∈ outs ++ ps, NdMine w.heap.size W p.n p.x p.y p.z := fun p hm => by
    rcases List.mem_append.1 hm with hm | hm
    · have n := hn p hm
      exact ⟨own_only n.me hx.only (fun k hk he => own_rows n.me ho (by decide) k hk he), own_only n.ms hx.only (fun k hk he => own_rows n.ms ho (by decide) k hk he), own_only n.mg hx.only (fun k hk he => own_rows n.mg ho (by decide) k hk he), n.es, n.eg, n.sg⟩
    · exact (hx.nds p hm).base' hb.size
  have hm : ps.map Pd.n = (List.range (pcs L.length)).map (nodeJ L gs inner) := by
    rw [← hl]
    exact map_at Pd.n hp
  obtain ⟨s1, s2⟩ := rnd_step hf hh hr
  rw [List.length_map] at s2
  refine ⟨hB, hN, fun hk => ?_, fun hk => ?_⟩
  · rw [List.map_append, hm, hk]
    exact s1 hk
  · obtain ⟨e, hr'⟩ := s2 hk
    refine ⟨e, _, _, outs ++ ps, ?_, .inr (hx.mes.base' hb.size), hx.mw.base' hb.size, hx.row, hN, hB⟩
    rw [List.map_append, hm]
    exact hr'
set_option maxRecDepth 10000 in
set_option maxHeartbeats 8000000 in
theorem refTree_c {w : World} {v hv : Value} {es : List En} {hs : List Int} (h : Ens w v es) (hh : Wds w hv hs) (hf : Formed18 es) (hl : hs.length = cntN es.length) : Calls Try.prog 23 #[v, hv] w (RtPost w es hs) := by
  obtain ⟨j0, hj0, hjz0, hjz1, hjz2⟩ := wentry_info'
  obtain ⟨i0, hi0, hz0, hz1, hz2⟩ := int64_info'
  obtain ⟨s0, hs0, hsz0, hsz1, hsz2⟩ := snode_info'
  obtain ⟨R, hR⟩ : ∃ R, RtPost w es hs = R := ⟨_, rfl⟩
  rw [hR]
  have FIN : Hid (∀ W v (ps : List Pd), W.ownsRow w.heap.size 34 5 v ps.length (nsC ps) → (∀ p ∈ ps, NdMine w.heap.size W p.n p.x p.y p.z) → ps.map Pd.n = treeN es (nth hs) → Below w.heap.size w W → R (.returned v) W) := Lib.hid (fun W v ps a b c d => by rw [← hR]; exact ⟨v, ps, rfl, a, b, c, d⟩)
  clear hR
  have hcnt := cnt_few hf.2.1 hf.2.2
  have h0 : RtRel w es hs 0 v (.slice none 0 0) (.slice none 0 0) false w := ⟨es, [], [], .inl ⟨rfl, rfl, rfl, rfl, rfl⟩, .inl h, Mw.nil _ _, World.ownsRow_nil _ _ _ _, fun p hp => by simp at hp, Below.refl _ _⟩
  have H0 := Lib.hid h0
  have HH := Lib.hid hh
  have HF := Lib.hid hf
  have HL := Lib.hid hl
  obtain ⟨A, c, rfl, hc, _⟩ := h
  obtain ⟨A', c', rfl, hc', hA'⟩ := hh
  obtain ⟨hb0, ho, rfl, _⟩ := hA' (by omega)
  have hl9 : hs.length ≤ 9 := by omega
  clear hA' h0 hf hl hcnt
  obtain ⟨n0, hn0⟩ : ∃ n, es.length = n := ⟨_, rfl⟩
  rw [hn0] at hc H0 ⊢
  clear hn0
  obtain ⟨hl', hhl'⟩ : ∃ n, hs.length = n := ⟨_, rfl⟩
  rw [hhl'] at hl9 HH hc' ⊢
  have HHL := Lib.hid hhl'
  clear hhl'
  go_enter Try.func23, Try.ntmps23
  go_wp2_with fail
  go_loopw [0, 5, 6, 7, 8, 9, 10, 11, 12, 13, 14, 15, 16, 17, 18] (fun l0 ov v6 nv rv _ _ _ _ _ _ _ _ _ _ wr => ∃ (r : Nat) (inner : Bool), r ≤ 1 ∧ rv = .int .i64 r ∧ nv = .bool inner ∧ RtRel w es hs r l0 ov v6 inner wr) (fun _ _ _ _ rv _ _ _ _ _ _ _ _ _ _ _ => 2 - (intOf rv).toNat)
  case atStart => exact ⟨0, false, by omega, rfl, rfl, H0.out⟩
  case round =>
    obtain ⟨r, inner, hr, rfl, rfl, hrel⟩ := hrel
    obtain ⟨L, gs, outs, hrnd, hsrc, hgs, horow, hond, hb⟩ := hrel
    have ok := rnd_ok HF.out HL.out hrnd
    rw [List.length_map] at ok
    have e0 : Ens wr u0 L := (src_only (inner := inner) (W := wr) hsrc hgs HH.out hb horow (Only.refl _ _)).ens
    obtain ⟨LA, lc, rfl, hlc, hLA⟩ := e0
    obtain ⟨lb, lo, rfl, _⟩ := hLA (by have := ok.one; omega)
    clear hLA
    obtain ⟨GA, gc, rfl⟩ := own_slice hgs
    obtain ⟨OA, oc, rfl⟩ := own_slice horow
    have CC := Lib.hid (refCut_c (w := wr) (L.length : Int))
    have r2 : (r : Int) < 9 := by omega
    go_wp2_with fail
    refine CC.out.mono ?_
    intro e w3 hcp
    have k1 := ok.one
    have k64 := ok.few
    unfold CutPost at hcp
    rw [if_pos (by omega)] at hcp
    obtain ⟨q, rfl, hq, hqw, hb3⟩ := hcp
    rw [show ((L.length : Nat) : Int).toNat = L.length by omega] at hq ⊢
    have hO3 : Only (fun k => (Value.slice OA outs.length oc).ownBlock = some k) wr w3 := Only.of_below hb3 _
    have SRC : Hid (∀ W, Only (fun k => (Value.slice OA outs.length oc).ownBlock = some k) w3 W → RdOk w (.slice (some ⟨lb, lo, none⟩) L.length lc) (.slice GA gs.length gc) (.slice (some ⟨hb0, ho, none⟩) hl' c') L gs hs inner W) := Lib.hid (fun W hW => src_only hsrc hgs HH.out hb horow (hO3.trans hW))
    have hnq : ¬ ((Value.slice OA outs.length oc).ownBlock = some q) := fun h => by
      have := (World.ownsRow.lt horow q h).2
      omega
    have CUT : Hid (∀ W, Only (fun k => (Value.slice OA outs.length oc).ownBlock = some k) w3 W → ∀ i, i < pcs L.length → W.cell? ⟨q, i, none⟩ = some (.int .i64 (pc L.length i : Nat))) := Lib.hid (fun W hW i hi => by
      have h3 := hq.only hW hnq
      rw [h3.cell, nums_at (cutL L.length) i (by rw [cutL_len]; exact hi), cutL_at hi])
    have hrow3 := own_still horow hb3
    have hnd3 : ∀ p ∈ outs, NdMine w.heap.size w3 p.n p.x p.y p.z := fun p hp => (hond p hp).still hb3
    have hB3 := below_then hb hb3 (Nat.le_refl _)
    have X0 : Hid (InX w.heap.size w3 (fun k => (Value.slice OA outs.length oc).ownBlock = some k) (.slice OA outs.length oc) (outs ++ []) [] (.slice none 0 0) ((List.range 0).map (upJ L hs outs.length)) (.slice none 0 0) ((List.range 0).map (mostJ L gs inner)) w3) := Lib.hid ⟨by rw [List.append_nil]; exact hrow3, fun p hp => by simp at hp, Mes.nil _ _, Mw.nil _ _, fun p hp => by simp at hp, Only.refl _ _, fun k hk => .inl hk⟩
    have NEXT : Hid (∀ ov' uv mv ps W, ps.length = pcs L.length → (∀ j, j < ps.length → (pdAt ps j).n = nodeJ L gs inner j) → InX w.heap.size w3 (fun k => (Value.slice OA outs.length oc).ownBlock = some k) ov' (outs ++ ps) ps uv ((List.range (pcs L.length)).map (upJ L hs outs.length)) mv ((List.range (pcs L.length)).map (mostJ L gs inner)) W → (pcs L.length = 1 → R (.returned ov') W) ∧ (pcs L.length ≠ 1 → r = 0 ∧ RtRel w es hs 1 uv ov' mv true W)) := Lib.hid (fun ov' uv mv ps W h1 h2 h3 => by
      obtain ⟨a, b, c, d⟩ := rt_next HF.out HL.out hrnd hB3 hrow3 hnd3 h1 h2 h3
      exact ⟨fun hk => FIN.out W ov' _ h3.row b (c hk) a, d⟩)
    have PF : Hid (∀ i, i < pcs L.length → 1 ≤ pc L.length i ∧ pc L.length i ≤ 8 ∧ pcAt L.length i + pc L.length i ≤ L.length ∧ pcAt L.length (i + 1) = pcAt L.length i + pc L.length i) := Lib.hid (fun i hi => ⟨(pc_few k1 k64 hi).1, (pc_few k1 k64 hi).2, pcU_in k1 hi, pcAt_succ _ _⟩)
    have OK := Lib.hid ok
    have kk := pcs_few k1 k64
    have has := ok.has
    have cnt := ok.cnt
    rw [HHL.out] at has
    have HSZ : Hid (w.heap.size ≤ w3.heap.size) := Lib.hid hB3.size
    clear hq hqw hb3 hO3 hnq hrow3 hnd3 hB3 hrnd hsrc hgs horow hond hb ok CC
    obtain ⟨N, hN⟩ : ∃ N, L.length = N := ⟨_, rfl⟩
    have HN := Lib.hid hN
    rw [hN] at SRC CUT NEXT PF kk has k1 k64 hlc ⊢
    clear hN
    obtain ⟨K, hK⟩ : ∃ K, pcs N = K := ⟨_, rfl⟩
    have HK := Lib.hid hK
    rw [hK] at CUT NEXT PF kk has ⊢
    clear hK
    obtain ⟨o, hoo⟩ : ∃ o, outs.length = o := ⟨_, rfl⟩
    have HO := Lib.hid hoo
    rw [hoo] at SRC CUT X0 NEXT cnt has ⊢
    clear hoo
    go_wp2_with fail
    go_loopw [5, 9, 10, 12, 13, 14, 15, 16, 17, 18] (fun ov uv mv av iv _ _ _ _ _ wr => ∃ (i : Nat) (ps : List Pd), i ≤ K ∧ iv = .int .i64 i ∧ av = .int .i64 (pcAt N i : Nat) ∧ ps.length = i ∧ (∀ j, j < ps.length → (pdAt ps j).n = nodeJ L gs inner j) ∧ InX w.heap.size w3 (fun k => (Value.slice OA o oc).ownBlock = some k) ov (outs ++ ps) ps uv ((List.range i).map (upJ L hs o)) mv ((List.range i).map (mostJ L gs inner)) wr) (fun _ _ _ _ iv _ _ _ _ _ _ => K - (intOf iv).toNat)
    case atStart => exact ⟨0, [], by omega, rfl, by rw [pcAt_zero]; rfl, rfl, fun j hj => by simp at hj, X0.out⟩
    case round =>
      obtain ⟨i, ps, hi, rfl, rfl, hpl, hpn, hX⟩ := hrel
      by_cases hlt : i < K
      · obtain ⟨p1, p8, pin, pnx⟩ := PF.out i hlt
        have rd := SRC.out wr hX.only
        have cc := CUT.out wr hX.only i hlt
        have CN : Hid (∀ W gv, Below wr.heap.size wr W → Wds W gv (if inner then pieceI gs N i else []) → Calls Try.prog 46 #[.slice (some ⟨lb, lo + pcAt N i * 3, none⟩) (pc N i) (lc - pcAt N i), gv, .bool inner] W (NodePx W (nodeJ L gs inner i) inner)) := Lib.hid (fun W gv hW hgv => by
          have key := rt_node (W := W) (gv := gv) (lc := lc) OK.out (i := i) (by rw [HN.out, HK.out]; exact hlt) (by rw [HN.out]; exact rd.ens.still hW) (by rw [HN.out]; exact hgv) (by rw [HN.out]; exact hlc)
          rw [HN.out] at key
          exact key)
        obtain ⟨gb, go, cgo⟩ : ∃ gb go, inner = true → GA = some ⟨gb, go, none⟩ ∧ gs.length = N ∧ N ≤ gc := by
          by_cases h : inner = true
          · obtain ⟨A2, c2, e2, hc2, h2⟩ := rd.wds
            injection e2 with e21 e22 e23
            have hl := OK.out.len h
            rw [HN.out] at hl
            obtain ⟨gb, go, e3, _⟩ := h2 (by omega)
            exact ⟨gb, go, fun _ => ⟨by rw [e21, e3], hl, by omega⟩⟩
          · exact ⟨0, 0, fun h' => absurd h' h⟩
        have GV : Hid (∀ W, Only (fun k => (Value.slice OA o oc).ownBlock = some k) w3 W → inner = true → Wds W (.slice (some ⟨gb, go + pcAt N i, none⟩) (pc N i) (gc - pcAt N i)) (pieceI gs N i)) := Lib.hid (fun W hW h => by
          obtain ⟨e1, e2, e3⟩ := cgo h
          have := (SRC.out W hW).wds
          rw [e1] at this
          exact this.part (by rw [e2]; exact pin) (by omega))
        have EV : Hid (∀ W, Only (fun k => (Value.slice OA o oc).ownBlock = some k) w3 W → W.cell? ⟨lb, lo + pcAt N i * 3, none⟩ = some (.int .i64 (enAt L (pcAt N i)).lo) ∧ W.cell? ⟨lb, lo + (pcAt N (i + 1) - 1) * 3 + 1, none⟩ = some (.int .i64 (enAt L (pcAt N (i + 1) - 1)).hi) ∧ W.cell? ⟨hb0, ho + (o + i), none⟩ = some (.int .i64 (nth hs (o + i)))) := Lib.hid (fun W hW => by
          have r := SRC.out W hW
          obtain ⟨A2, c2, e2, hc2, h2⟩ := r.ens
          injection e2 with e21 e22 e23
          obtain ⟨b2, o2, e3, ce⟩ := h2 (by rw [HN.out]; omega)
          rw [e3] at e21
          injection e21 with e21
          injection e21 with f1 f2
          subst f1
          subst f2
          obtain ⟨A4, c4, e4, hc4, h4⟩ := r.hnd
          injection e4 with e41 e42 e43
          obtain ⟨b5, o5, e5, ch⟩ := h4 (by rw [HHL.out]; omega)
          rw [e5] at e41
          injection e41 with e41
          injection e41 with f1 f2
          subst f1
          subst f2
          exact ⟨(ce _ (by rw [HN.out]; omega)).1, (ce _ (by rw [HN.out]; omega)).2.1, ch _ (by rw [HHL.out]; omega)⟩)
        have UPJ : Hid (upJ L hs o i = ⟨(enAt L (pcAt N i)).lo, (enAt L (pcAt N (i + 1) - 1)).hi, nth hs (o + i)⟩) := Lib.hid (by unfold upJ; rw [HN.out])
        have MJ : Hid (mostJ L gs inner i = most0 (nodeJ L gs inner i).gaps) := Lib.hid rfl
        have NI : Hid ((nodeJ L gs inner i).inner = inner) := Lib.hid rfl
        have RS1 := Lib.hid (range_more (upJ L hs o) i)
        have RS2 := Lib.hid (range_more (mostJ L gs inner) i)
        have HX := Lib.hid hX
        have HPL := Lib.hid hpl
        have PNX : Hid (∀ p : Pd, p.n = nodeJ L gs inner i → ∀ j, j < (ps ++ [p]).length → (pdAt (ps ++ [p]) j).n = nodeJ L gs inner j) := Lib.hid (fun p e1 j hj => by
          rw [List.length_append] at hj
          have hj : j < ps.length + 1 := by simpa using hj
          rw [pdAt_app ps p j hj]
          by_cases h : j < ps.length
          · rw [if_pos h]; exact hpn j h
          · rw [if_neg h]
            have e : j = i := by omega
            subst e
            exact e1)
        have GVN := Lib.hid cgo
        obtain ⟨UA, uc, rfl⟩ := own_slice hX.mes
        obtain ⟨MA, mc, rfl⟩ := own_slice hX.mw
        obtain ⟨VA, vc, rfl⟩ := own_slice hX.row
        have hoi : (outs ++ ps).length = o + i := by rw [List.length_append, hpl, HO.out]
        clear NEXT SRC CUT PF OK X0 hpn cgo hX hpl rd
        generalize hul : (List.range i).map (upJ L hs o) = ul at *
        generalize hml : (List.range i).map (mostJ L gs inner) = ml at *
        have UL : Hid (ul.length = i) := Lib.hid (by rw [← hul]; simp)
        have ML : Hid (ml.length = i) := Lib.hid (by rw [← hml]; simp)
        clear hul hml
        generalize upJ L hs o i = ue at *
        generalize mostJ L gs inner i = me at *
        generalize nodeJ L gs inner i = nd at *
        rw [UL.out, ML.out] at HX ⊢
        obtain ⟨oi, hoi2⟩ : ∃ oi, (outs ++ ps).length = oi := ⟨_, rfl⟩
        rw [hoi2] at hoi HX ⊢
        have HOI := Lib.hid hoi2
        rw [← hoi] at EV UPJ
        have joi : (oi : Int) < (hl' : Int) := by omega
        have i8 : (i : Int) ≤ 8 := by omega
        have oi16 : (oi : Int) ≤ 16 := by omega
        have EOI := Lib.hid hoi
        clear hoi hoi2
        obtain ⟨hx, hhx⟩ : ∃ hx, nth hs oi = hx := ⟨_, rfl⟩
        rw [hhx] at EV UPJ
        clear hhx
        obtain ⟨tx, hto⟩ : ∃ tx, pcAt N (i + 1) = tx := ⟨_, rfl⟩
        have HTO := Lib.hid hto
        rw [hto] at EV UPJ pnx
        clear hto
        obtain ⟨at', hat'⟩ : ∃ a, pcAt N i = a := ⟨_, rfl⟩
        rw [hat'] at EV UPJ pnx pin CN GV ⊢
        clear hat'
        obtain ⟨s, hs'⟩ : ∃ s, pc N i = s := ⟨_, rfl⟩
        rw [hs'] at p1 p8 pnx pin CN GV cc
        clear hs'
        generalize pieceI gs N i = pgs at *
        generalize (enAt L at').lo = lo1 at *
        generalize (enAt L (tx - 1)).hi = hi1 at *
        obtain ⟨tl, htl⟩ : ∃ tl, tx = tl + 1 := ⟨tx - 1, by omega⟩
        have jtl : (tl : Int) < (N : Int) := by omega
        have jat : (at' : Int) < (N : Int) := by omega
        have hwto : IntKind.i64.wrap ((at' : Int) + (s : Int)) = (tx : Int) := by rw [IntKind.wrap_i64]; omega
        have hw1 : IntKind.i64.wrap ((tx : Int) - 1) = (tl : Int) := by rw [IntKind.wrap_i64]; omega
        have j1 : (i : Int) < (K : Int) := by omega
        have jto : (at' : Int) ≤ (tx : Int) := by omega
        have jto2 : (tx : Int) ≤ (lc : Int) := by omega
        have hts : tx - at' = s := by omega
        have hne : ¬ (lc = at') := by omega
        rw [show tx - 1 = tl by omega] at EV
        have PNXT := Lib.hid pnx
        clear pnx htl
        cases inner
        case' false =>
          have C0 := Lib.hid (CN.out wr (.slice none 0 0) (Below.refl _ _) (Wds.nil _ _ _))
          clear CN GV GVN
        case' true =>
          have C0 := Lib.hid (CN.out wr _ (Below.refl _ _) (GV.out wr HX.out.only rfl))
          obtain ⟨hga, hgl, hgc⟩ := GVN.out rfl
          have jto3 : (tx : Int) ≤ (gc : Int) := by omega
          have hne2 : ¬ (gc = at') := by omega
          subst hga
          clear CN GV GVN
        all_goals go_wp2_with fail
        all_goals (
          refine C0.out.mono ?_
          rintro e w4 ⟨Bx, By, Bz, lx, ly, lz, cx, cy, cz, rfl, hlz, hl8, hnd, hb4⟩
          have X4 := Lib.hid (HX.out.node (p := ⟨0, nd, .slice Bx lx cx, .slice By ly cy, .slice Bz lz cz⟩) hb4 hnd)
          have G4 := Lib.hid hnd.mg
          have HLZ := Lib.hid hlz
          clear HX hnd hb4 hlz C0)
        all_goals go_upto_region 20 with (fail)
        all_goals (
          have X5 := Lib.hid (X4.out.still (below_new w4 (.cells #[.bool nd.inner, .int .i64 nd.lo, .slice Bx lx cx, .slice By ly cy, .slice Bz lz cz] 34)))
          have PB := Lib.hid (Whole.new w4 34 #[.bool nd.inner, .int .i64 nd.lo, .slice Bx lx cx, .slice By ly cy, .slice Bz lz cz])
          have G5 := Lib.hid (own_still G4.out (below_new w4 (.cells #[.bool nd.inner, .int .i64 nd.lo, .slice Bx lx cx, .slice By ly cy, .slice Bz lz cz] 34)))
          generalize w4.alloc (.cells #[.bool nd.inner, .int .i64 nd.lo, .slice Bx lx cx, .slice By ly cy, .slice Bz lz cz] 34) = w5 at *
          obtain ⟨qn, hqn⟩ : ∃ qn, w4.heap.size = qn := ⟨_, rfl⟩
          rw [hqn] at PB ⊢
          clear hqn X4 G4
          rw [← HLZ.out] at G5
          obtain ⟨zb, rfl, _, _⟩ := own_form G5.out (by omega)
          have GC : Hid (∀ k, k < lz → w5.cell? ⟨zb, k, none⟩ = some (.int .i64 (nth nd.gaps k))) := Lib.hid (fun k hk => by
            have o := G5.out
            rw [HLZ.out] at o hk
            exact own_int o k hk)
          have GS : Hid (∀ k, k < lz → most0 (nd.gaps.take (k + 1)) = max (most0 (nd.gaps.take k)) (nth nd.gaps k)) := Lib.hid (fun k hk => by
            rw [take_one (by rw [← HLZ.out]; exact hk)]
            unfold most0
            rw [List.foldl_append]
            rfl)
          have GE : Hid (most0 (nd.gaps.take lz) = me) := Lib.hid (by rw [MJ.out, HLZ.out, List.take_length])
          clear G5
          have n4 : w5.cell? ⟨qn, 4, none⟩ = some (.slice (some ⟨zb, 0, none⟩) lz cz) := PB.out.cell 4
          go_wp2_with fail
          go_loopw [17, 18] (fun bv kv wq => ∃ k : Nat, k ≤ lz ∧ kv = .int .i64 k ∧ bv = .int .i64 (most0 (nd.gaps.take k)) ∧ wq = w5) (fun _ kv _ => lz - (intOf kv).toNat)
          case atStart => exact ⟨0, by omega, rfl, rfl, rfl⟩
          case round =>
            obtain ⟨k, hk, rfl, rfl, hwq⟩ := hrel
            replace hwq := hwq.symm
            subst hwq
            by_cases hkl : k < lz
            · have jk : (k : Int) < (lz : Int) := by omega
              have k8 : (k : Int) ≤ 8 := by omega
              have ck := GC.out k hkl
              have gs1 := Lib.hid (GS.out k hkl)
              clear GC GS GE MJ X5 PB
              generalize most0 (nd.gaps.take k) = mk at *
              generalize nth nd.gaps k = gk at *
              go_wp2_with fail
              go_roundw
              case rel =>
                refine ⟨k + 1, by omega, by go_num, ?_, trivial⟩
                rw [gs1.out]
                congr 1
                omega
              case measure => simp [intOf]; omega
            · have e : k = lz := by omega
              subst e
              have jk : ¬ (k : Int) < (k : Int) := by omega
              rw [GE.out]
              clear GC GS GE
              go_upto_region 24 with (fail)
              have hue := UPJ.out
              subst hue
              have XD := Lib.hid (X5.out.still (below_drew (Below.refl w5.heap.size w5)))
              have PD : Hid (Whole w5.drew qn 34 #[.bool nd.inner, .int .i64 nd.lo, .slice Bx lx cx, .slice By ly cy, .slice (some ⟨zb, 0, none⟩) k cz]) := Lib.hid (PB.out.below (below_drew (Below.refl w5.heap.size w5)) PB.out.lt)
              have OU : Hid (w5.drew.ownsRow w3.heap.size 44 3 (.slice UA i uc) i (enCells ul)) := Lib.hid (by
                have := XD.out.mes
                unfold Mes at this
                rw [UL.out] at this
                exact this)
              have ka := EV.out w5 X5.out.only
              have kd := EV.out w5.drew XD.out.only
              have kc := EV.out _ ((XD.out.still (below_new w5.drew (.cells #[.int .i64 lo1, .int .i64 hi1, .int .i64 hx] 44))).only)
              clear X5 PB UPJ
              go_region_held3 (fun W => W.cell? ⟨lb, lo + at' * 3, none⟩ = some (.int .i64 lo1) ∧ W.cell? ⟨lb, lo + tl * 3 + 1, none⟩ = some (.int .i64 hi1) ∧ W.cell? ⟨hb0, ho + oi, none⟩ = some (.int .i64 hx))
                (first | exact ka | exact kd | exact kc | exact K8)
                (first
                  | fail
                  | (refine step_append_lies _ (by rfl) (.tmp 64) (.tmp 82) _ (by rfl) w3.heap.size 44 j0 _ 3 24 Try.underlying25 hj0 hjz0 hjz1 hjz2 rfl (by omega) _ i _ (by rfl) (OU.out.alloc _) ⟨w5.drew.heap.size, 0, none⟩ 1 1 [.int .i64 lo1, .int .i64 hi1, .int .i64 hx] (by rfl) rfl (World.news_of_block (cs := #[.int .i64 lo1, .int .i64 hi1, .int .i64 hx]) (t := 44) (fr := (0, 0)) (heap_alloc_new w5.drew _)) (by simp [Value.oneCell']) (by omega) (by simp only [maxLen]; omega) (by omega) (by have := XD.out.only.size; simp at this ⊢; omega) _ rfl ?_; intro gg cap w8 hown hgrow hat hlt3; have X8 := Lib.hid ((XD.out.still (below_new w5.drew (.cells #[.int .i64 lo1, .int .i64 hi1, .int .i64 hx] 44))).up (e := ⟨lo1, hi1, hx⟩) hgrow (by rw [UL.out]; exact hown)); have P8 := Lib.hid ((PD.out.alloc (.cells #[.int .i64 lo1, .int .i64 hi1, .int .i64 hx] 44)).grown hgrow (fun he => own_apart OU.out PD.out (by decide) he.symm)); have K8 := EV.out w8 X8.out.only; clear hown hgrow hat hlt3))
              rename_i hHeld
              clear hHeld ka kd kc K8 OU PD XD EV
              have n0 : w8.cell? ⟨qn, 0, none⟩ = some (.bool nd.inner) := P8.out.cell 0
              have n1 : w8.cell? ⟨qn, 1, none⟩ = some (.int .i64 nd.lo) := P8.out.cell 1
              have n2 : w8.cell? ⟨qn, 2, none⟩ = some (.slice Bx lx cx) := P8.out.cell 2
              have n3 : w8.cell? ⟨qn, 3, none⟩ = some (.slice By ly cy) := P8.out.cell 3
              have n4 : w8.cell? ⟨qn, 4, none⟩ = some (.slice (some ⟨zb, 0, none⟩) k cz) := P8.out.cell 4
              have OR8 : Hid (w8.ownsRow w.heap.size 34 5 (.slice VA oi vc) oi (nsC (outs ++ ps))) := Lib.hid (by
                have := X8.out.row
                rw [HOI.out] at this
                exact this)
              have SZ3 := Lib.hid X8.out.only.size
              have SZW : Hid (w.heap.size ≤ w3.heap.size) := Lib.hid HSZ.out
              go_upto_region 26 with (at_builtin; refine wpList_append_lies _ rfl (.tmp 84) (.tmp 86) _ rfl w.heap.size 34 s0 _ 5 88 Try.underlying50 hs0 hsz0 hsz1 hsz2 rfl (by omega) _ oi _ rfl (OR8.out.alloc _) ⟨w8.heap.size, 0, none⟩ 1 1 [.bool nd.inner, .int .i64 nd.lo, .slice Bx lx cx, .slice By ly cy, .slice (some ⟨zb, 0, none⟩) k cz] rfl rfl (World.news_of_block (cs := #[.bool nd.inner, .int .i64 nd.lo, .slice Bx lx cx, .slice By ly cy, .slice (some ⟨zb, 0, none⟩) k cz]) (t := 34) (fr := (0, 0)) (heap_alloc_new w8 _)) (by simp [Value.oneCell']) (by omega) (by simp only [maxLen]; omega) (by omega) (by have := SZ3.out; have := SZW.out; simp; omega) (w8.heap.size + 1) (by simp) ?_; intro g9 c9 w9 hown hgrow hat hlt3)
              have X9 : Hid (InX w.heap.size w3 (fun k => (Value.slice OA o oc).ownBlock = some k) (.slice (some ⟨g9, 0, none⟩) (oi + 1) c9) ((outs ++ ps) ++ [⟨0, nd, .slice Bx lx cx, .slice By ly cy, .slice (some ⟨zb, 0, none⟩) k cz⟩]) (ps ++ [⟨0, nd, .slice Bx lx cx, .slice By ly cy, .slice (some ⟨zb, 0, none⟩) k cz⟩]) (.slice (some ⟨gg, 0, none⟩) (i + 1) cap) (ul ++ [⟨lo1, hi1, hx⟩]) (.slice MA i mc) ml w9) := Lib.hid (by
                have key := (X8.out.still (below_new w8 (.cells #[.bool nd.inner, .int .i64 nd.lo, .slice Bx lx cx, .slice By ly cy, .slice (some ⟨zb, 0, none⟩) k cz] 34))).out (p := ⟨0, nd, .slice Bx lx cx, .slice By ly cy, .slice (some ⟨zb, 0, none⟩) k cz⟩) (A := some ⟨g9, 0, none⟩) (c := c9) hgrow hat (by have := SZ3.out; omega) rfl (by rw [HOI.out]; exact hown)
                rw [HOI.out] at key
                exact key)
              clear hown hgrow hat hlt3 X8 P8 n0 n1 n2 n3 n4 OR8 SZ3
              have OM9 : Hid (w9.ownsRow w3.heap.size 2 1 (.slice MA i mc) i (ml.map (Value.int .i64))) := Lib.hid (by
                have := X9.out.mw
                unfold Mw at this
                rw [ML.out] at this
                exact this)
              have SZ9 := Lib.hid X9.out.only.size
              go_wp2_with (at_builtin; refine wpList_append_lies _ rfl (.tmp 88) (.tmp 90) _ rfl w3.heap.size 2 i0 _ 1 8 Try.underlying27 hi0 hz0 hz1 hz2 rfl (by omega) _ i _ rfl (OM9.out.alloc _) ⟨w9.heap.size, 0, none⟩ 1 1 [.int .i64 me] rfl rfl (World.news_of_block (cs := #[.int .i64 me]) (t := 2) (fr := (0, 0)) (heap_alloc_new w9 _)) (by simp [Value.oneCell']) (by omega) (by simp only [maxLen]; omega) (by omega) (by have := SZ9.out; simp; omega) (w9.heap.size + 1) (by simp) ?_; intro g2 c2 wz hown hgrow hat hlt3)
              have XZ : Hid (InX w.heap.size w3 (fun k => (Value.slice OA o oc).ownBlock = some k) (.slice (some ⟨g9, 0, none⟩) (oi + 1) c9) (outs ++ (ps ++ [⟨0, nd, .slice Bx lx cx, .slice By ly cy, .slice (some ⟨zb, 0, none⟩) k cz⟩])) (ps ++ [⟨0, nd, .slice Bx lx cx, .slice By ly cy, .slice (some ⟨zb, 0, none⟩) k cz⟩]) (.slice (some ⟨gg, 0, none⟩) (i + 1) cap) ((List.range (i + 1)).map (upJ L hs o)) (.slice (some ⟨g2, 0, none⟩) (i + 1) c2) ((List.range (i + 1)).map (mostJ L gs _)) wz) := Lib.hid (by
                have key := (X9.out.still (below_new w9 (.cells #[.int .i64 me] 2))).most (A := some ⟨g2, 0, none⟩) (c := c2) (x := me) hgrow hat (by simp) rfl (by rw [ML.out]; exact hown)
                rw [ML.out, List.append_assoc, RS1.out, RS2.out] at key
                exact key)
              have NPL : Hid ((ps ++ [(⟨0, nd, .slice Bx lx cx, .slice By ly cy, .slice (some ⟨zb, 0, none⟩) k cz⟩ : Pd)]).length = i + 1) := Lib.hid (by rw [List.length_append, HPL.out]; rfl)
              have NPN := Lib.hid (PNX.out ⟨0, nd, .slice Bx lx cx, .slice By ly cy, .slice (some ⟨zb, 0, none⟩) k cz⟩ rfl)
              generalize ps ++ [(⟨0, nd, .slice Bx lx cx, .slice By ly cy, .slice (some ⟨zb, 0, none⟩) k cz⟩ : Pd)] = ps' at *
              clear hown hgrow hat hlt3 X9 OM9 SZ9 RS1 RS2 PNX
              go_wp2_with fail
              refine ⟨?_, by simp [intOf]; omega⟩
              first
                | exact ⟨i + 1, ps', by omega, by go_num, by rw [HTO.out], NPL.out, NPN.out, XZ.out⟩
                | exact ⟨_, _, _, _, _, ⟨i + 1, by omega, rfl, rfl, ps', NPL.out, NPN.out, XZ.out⟩, rfl, rfl, rfl, by rw [HTO.out], by go_num⟩
          )
      · have e : i = K := by omega
        subst e
        have NX := Lib.hid (NEXT.out _ _ _ _ _ hpl hpn hX)
        clear NEXT SRC CUT PF OK X0 hpn
        obtain ⟨UA, uc, rfl⟩ := own_slice hX.mes
        obtain ⟨MA, mc, rfl⟩ := own_slice hX.mw
        obtain ⟨VA, vc, rfl⟩ := own_slice hX.row
        have j1 : ¬ (i : Int) < (i : Int) := by omega
        have ul : ((List.range i).map (upJ L hs o)).length = i := by simp
        have ml : ((List.range i).map (mostJ L gs inner)).length = i := by simp
        rw [ul, ml] at NX ⊢
        clear hX ul ml hpl
        generalize (outs ++ ps).length = vn at *
        by_cases h1 : i = 1
        · have FX := Lib.hid (NX.out.1 h1)
          clear NX
          subst h1
          go_wp2_with fail
          exact FX.out
        · obtain ⟨hr0, hn⟩ := NX.out.2 h1
          have FX := Lib.hid hn
          have j2 : ¬ (i : Int) = 1 := by omega
          have j3 : ((i : Int) == 1) = false := beq_eq_false_iff_ne.2 j2
          clear NX hn
          subst hr0
          go_wp2_with fail
          go_roundw
          case rel => exact ⟨1, true, by omega, by go_num, rfl, FX.out⟩
          case measure => simp [intOf]
end Go.Proofs.Ytejkhnphplpkeaa
