/-
  Texts of our own, one behind the other (BdInner, BdUps): what the laws' proofs rest on; each says at its head what it holds. No conditions.
-/
import Derived.Test.YtejkhnphplpkeaaPkZp
import Derived.Test.YtejkhnphplpkeaaPkZh
/-
  Layer 18: the entries of the level above.
-/
namespace Go.Proofs.Ytejkhnphplpkeaa
open Go.ChangeShapes Go.WideShapes Go.ChangeAt Go.RowKit
set_option linter.unusedVariables false

/-- A placed node, as an entry. -/
def upP (p : Pd) : Up := ⟨p.n.lo, nth p.n.ends (p.n.ends.length - 1), p.h, most0 p.n.gaps⟩
theorem upP_at {ps : List Pd} {i : Nat} (h : i < ps.length) : upAt (ps.map upP) i = upP (pdAt ps i) := by
  unfold upAt pdAt
  rw [List.getD_eq_getElem?_getD, List.getElem?_map, List.getD_eq_getElem?_getD, List.getElem?_eq_getElem h]
  rfl
set_option maxRecDepth 10000 in
set_option maxHeartbeats 8000000 in
theorem innerEntries_c {base : Nat} {w : World} {v : Value} {ps : List Pd} (h : Pls base w v ps) (hF : ∀ p ∈ ps, NdF p.n) (h1 : 1 ≤ ps.length) (h64 : ps.length ≤ 64) :
    Calls Try.prog 42 #[v] w fun e w' => ∃ v', e = .returned v' ∧ Ups w.heap.size w' v' (ps.map upP) ∧ Below w.heap.size w w' := by
  obtain ⟨j0, hj0, hjz0, hjz1, hjz2⟩ := bentry_info'
  obtain ⟨R, hR⟩ : ∃ R : Ending → World → Prop, (fun e w' => ∃ v', e = .returned v' ∧ Ups w.heap.size w' v' (ps.map upP) ∧ Below w.heap.size w w') = R := ⟨_, rfl⟩
  rw [hR]
  have FIN : Hid (∀ v W, Ups w.heap.size W v ((ps.map upP).take ps.length) → Below w.heap.size w W → R (.returned v) W) := Lib.hid (fun v W a b => by
    rw [show ps.length = (ps.map upP).length by simp, List.take_length] at a
    rw [← hR]; exact ⟨v, rfl, a, b⟩)
  clear hR
  obtain ⟨A, c, rfl⟩ := own_slice h.1
  obtain ⟨g, rfl, _, _⟩ := own_form h.1 (by omega)
  have HH := Lib.hid h
  have HF : Hid (∀ i, i < ps.length → NdF (pdAt ps i).n) := Lib.hid (fun i hi => hF _ (pdAt_mem hi))
  have CP : Hid (∀ W, Below w.heap.size w W → ∀ i, i < ps.length → (∀ j, j < 6 → W.cell? ⟨g, i * 6 + j, none⟩ = (pdAt ps i).c[j]?) ∧ NdIn W (pdAt ps i).n (pdAt ps i).x (pdAt ps i).y (pdAt ps i).z) := Lib.hid (fun W hb i hi => ⟨fun j hj => (HH.out.still hb).cell rfl i j hi hj, ((HH.out.still hb).2 _ (pdAt_mem hi)).here⟩)
  have ST : Hid (∀ i, i < ps.length → (ps.map upP).take (i + 1) = (ps.map upP).take i ++ [upP (pdAt ps i)]) := Lib.hid (fun i hi => by rw [take_up (by simpa using hi), upP_at hi])
  have LN : Hid (∀ i, i ≤ ps.length → ((ps.map upP).take i).length = i) := Lib.hid (fun i hi => by simp; omega)
  clear h hF
  generalize ps.map upP = U at *
  obtain ⟨n, hn⟩ : ∃ n, ps.length = n := ⟨_, rfl⟩
  rw [hn] at h1 h64 FIN HF CP ST LN ⊢
  clear hn HH
  go_enter Try.func42, Try.ntmps42
  go_wp2_with fail
  go_loopw [3, 5, 6, 9] (fun ov _ _ iv wr => ∃ i : Nat, i ≤ n ∧ iv = .int .i64 i ∧ Ups w.heap.size wr ov (U.take i) ∧ Below w.heap.size w wr) (fun _ _ _ iv _ => n - (intOf iv).toNat)
  case atStart => exact ⟨0, by omega, rfl, Ups.nil _ _, Below.refl _ _⟩
  case round =>
    obtain ⟨i, hi, rfl, hm, hb⟩ := hrel
    have hi8 : (i : Int) ≤ 64 := by omega
    obtain ⟨B1, c1, rfl⟩ := own_slice hm
    have HM := Lib.hid hm
    have HB := Lib.hid hb
    rw [LN.out i hi]
    by_cases hlt : i < n
    · have j1 : (i : Int) < (n : Int) := by omega
      obtain ⟨cp, ni⟩ := CP.out wr hb i hlt
      have nf := HF.out i hlt
      have STI := Lib.hid (ST.out i hlt)
      have LI := Lib.hid (LN.out i hi)
      have UP : Hid (upP (pdAt ps i) = ⟨(pdAt ps i).n.lo, nth (pdAt ps i).n.ends ((pdAt ps i).n.ends.length - 1), (pdAt ps i).h, most0 (pdAt ps i).n.gaps⟩) := Lib.hid rfl
      generalize upP (pdAt ps i) = up at *
      clear CP HF ST LN FIN hm hb
      generalize pdAt ps i = p at *
      obtain ⟨ph, pn, px, py, pz⟩ := p
      simp only at ni nf UP
      have c0 := cp 0 (by omega)
      have c1' := cp 1 (by omega)
      have c2 := cp 2 (by omega)
      have c3 := cp 3 (by omega)
      have c4 := cp 4 (by omega)
      have c5 := cp 5 (by omega)
      rw [Nat.add_zero] at c0
      clear cp
      have d0 : wr.cell? ⟨g, i * 6, none⟩ = some (.int .i64 ph) := c0
      have d1 : wr.cell? ⟨g, i * 6 + 1, none⟩ = some (.bool pn.inner) := c1'
      have d2 : wr.cell? ⟨g, i * 6 + 2, none⟩ = some (.int .i64 pn.lo) := c2
      have d3 : wr.cell? ⟨g, i * 6 + 3, none⟩ = some px := c3
      have d4 : wr.cell? ⟨g, i * 6 + 4, none⟩ = some py := c4
      have d5 : wr.cell? ⟨g, i * 6 + 5, none⟩ = some pz := c5
      clear c0 c1' c2 c3 c4 c5
      have CL := Lib.hid (fun (W : World) (hW : Below wr.heap.size wr W) => largestN_c (ni.still hW) nf)
      have n1 := nf.cnt.one
      have n8 := nf.cnt.few
      have nw := ni.we
      obtain ⟨Ax, cx, rfl, hcx, hx⟩ := nw
      obtain ⟨eb, eo, rfl, ke⟩ := hx (by omega)
      obtain ⟨Ay, cy, rfl⟩ := ni.ws.is
      obtain ⟨Az, cz, rfl⟩ := ni.wg.is
      obtain ⟨inner, lo, ends, slots, gaps⟩ := pn
      simp only [Nd.val] at *
      have kl := ke (ends.length - 1) (by omega)
      have KL : Hid (∀ W, Below wr.heap.size wr W → W.cell? ⟨eb, eo + (ends.length - 1), none⟩ = some (.int .i64 (nth ends (ends.length - 1)))) := Lib.hid (fun W hW => by
        rw [hW.cell (p := ⟨eb, eo + (ends.length - 1), none⟩) (World.block_lt_of_cell? wr _ kl)]; exact kl)
      clear ke kl hx
      obtain ⟨last, hlast⟩ : ∃ last, nth ends (ends.length - 1) = last := ⟨_, rfl⟩
      rw [hlast] at KL UP
      clear hlast
      generalize slots.length = sl at *
      generalize gaps.length = gl at *
      generalize most0 gaps = mg at *
      clear ni nf
      obtain ⟨m, hm⟩ : ∃ m, ends.length = m + 1 := ⟨ends.length - 1, by omega⟩
      have hwL : IntKind.i64.wrap ((ends.length : Int) - 1) = (m : Int) := by rw [IntKind.wrap_i64]; omega
      have hmL : (m : Int) < (ends.length : Int) := by omega
      rw [show ends.length - 1 = m by omega] at KL
      clear hm
      generalize ends.length = L at *
      have PB := Lib.hid (Whole.new wr 36 #[.int .i64 ph, .bool inner, .int .i64 lo, .slice (some ⟨eb, eo, none⟩) L cx, .slice Ay sl cy, .slice Az gl cz])
      have BB := Lib.hid (below_new wr (.cells #[.int .i64 ph, .bool inner, .int .i64 lo, .slice (some ⟨eb, eo, none⟩) L cx, .slice Ay sl cy, .slice Az gl cz] 36))
      go_upto_region 5 with (fail)
      have HMX := Lib.hid (own_still HM.out BB.out)
      rw [LI.out] at HMX
      have HB2 := Lib.hid (below_then HB.out BB.out (Nat.le_refl _))
      have kl2 := KL.out _ BB.out
      have CL2 := Lib.hid (fun (W : World) (hW : Below (wr.alloc (.cells #[.int .i64 ph, .bool inner, .int .i64 lo, .slice (some ⟨eb, eo, none⟩) L cx, .slice Ay sl cy, .slice Az gl cz] 36)).heap.size (wr.alloc (.cells #[.int .i64 ph, .bool inner, .int .i64 lo, .slice (some ⟨eb, eo, none⟩) L cx, .slice Ay sl cy, .slice Az gl cz] 36)) W) => CL.out W (below_then BB.out hW (Nat.le_refl _)))
      generalize wr.alloc (.cells #[.int .i64 ph, .bool inner, .int .i64 lo, .slice (some ⟨eb, eo, none⟩) L cx, .slice Ay sl cy, .slice Az gl cz] 36) = wp at *
      obtain ⟨qp, hqp⟩ : ∃ qp, wr.heap.size = qp := ⟨_, rfl⟩
      rw [hqp] at PB ⊢
      clear d0 d1 d2 d3 d4 d5 KL CL BB HM HB hqp
      have b0 : wp.cell? ⟨qp, 0, none⟩ = some (.int .i64 ph) := PB.out.cell 0
      have b1 : wp.cell? ⟨qp, 1, none⟩ = some (.bool inner) := PB.out.cell 1
      have b2 : wp.cell? ⟨qp, 2, none⟩ = some (.int .i64 lo) := PB.out.cell 2
      have b3 : wp.cell? ⟨qp, 3, none⟩ = some (.slice (some ⟨eb, eo, none⟩) L cx) := PB.out.cell 3
      have b4 : wp.cell? ⟨qp, 4, none⟩ = some (.slice Ay sl cy) := PB.out.cell 4
      have b5 : wp.cell? ⟨qp, 5, none⟩ = some (.slice Az gl cz) := PB.out.cell 5
      go_region_held3 (fun W => W.cell? ⟨qp, 0, none⟩ = some (.int .i64 ph) ∧ W.cell? ⟨qp, 2, none⟩ = some (.int .i64 lo) ∧ W.cell? ⟨qp, 3, none⟩ = some (.slice (some ⟨eb, eo, none⟩) L cx) ∧ W.cell? ⟨eb, eo + m, none⟩ = some (.int .i64 last))
        (first | exact ⟨b0, b2, b3, kl2⟩ | go_keep)
        (first | fail | fail)
      have BQ : Hid (Below wp.heap.size wp (wp.alloc (.cells #[.int .i64 lo, .int .i64 last, .int .i64 ph] 44)).drew) := Lib.hid (below_drew (below_new wp _))
      have PQ := Lib.hid (PB.out.below BQ.out PB.out.lt)
      have PE : Hid (Whole (wp.alloc (.cells #[.int .i64 lo, .int .i64 last, .int .i64 ph] 44)).drew wp.heap.size 44 #[.int .i64 lo, .int .i64 last, .int .i64 ph]) := Lib.hid (Whole.new wp 44 _)
      have HMQ := Lib.hid (own_still HMX.out BQ.out)
      have HB3 := Lib.hid (below_then HB2.out BQ.out (Nat.le_refl _))
      have CL3 := Lib.hid (fun (W : World) (hW : Below ((wp.alloc (.cells #[.int .i64 lo, .int .i64 last, .int .i64 ph] 44)).drew).heap.size (wp.alloc (.cells #[.int .i64 lo, .int .i64 last, .int .i64 ph] 44)).drew W) => CL2.out W (below_then BQ.out hW (Nat.le_refl _)))
      rename_i hHeld
      clear hHeld
      generalize (wp.alloc (.cells #[.int .i64 lo, .int .i64 last, .int .i64 ph] 44)).drew = wq at *
      obtain ⟨qe, hqe⟩ : ∃ qe, wp.heap.size = qe := ⟨_, rfl⟩
      rw [hqe] at PE ⊢
      clear b0 b1 b2 b3 b4 b5 kl2 CL2 BQ HB2 HMX PB hqe
      have b1 : wq.cell? ⟨qp, 1, none⟩ = some (.bool inner) := PQ.out.cell 1
      have b2 : wq.cell? ⟨qp, 2, none⟩ = some (.int .i64 lo) := PQ.out.cell 2
      have b3 : wq.cell? ⟨qp, 3, none⟩ = some (.slice (some ⟨eb, eo, none⟩) L cx) := PQ.out.cell 3
      have b4 : wq.cell? ⟨qp, 4, none⟩ = some (.slice Ay sl cy) := PQ.out.cell 4
      have b5 : wq.cell? ⟨qp, 5, none⟩ = some (.slice Az gl cz) := PQ.out.cell 5
      have z0 : wq.cell? ⟨qe, 0, none⟩ = some (.int .i64 lo) := PE.out.cell 0
      have z1 : wq.cell? ⟨qe, 1, none⟩ = some (.int .i64 last) := PE.out.cell 1
      have z2 : wq.cell? ⟨qe, 2, none⟩ = some (.int .i64 ph) := PE.out.cell 2
      have HELD : Hid (∀ W, Below wq.heap.size wq W → W.cell? ⟨qe, 0, none⟩ = some (.int .i64 lo) ∧ W.cell? ⟨qe, 1, none⟩ = some (.int .i64 last) ∧ W.cell? ⟨qe, 2, none⟩ = some (.int .i64 ph) ∧ W.cell? ⟨qp, 1, none⟩ = some (.bool inner) ∧ W.cell? ⟨qp, 2, none⟩ = some (.int .i64 lo) ∧ W.cell? ⟨qp, 3, none⟩ = some (.slice (some ⟨eb, eo, none⟩) L cx) ∧ W.cell? ⟨qp, 4, none⟩ = some (.slice Ay sl cy) ∧ W.cell? ⟨qp, 5, none⟩ = some (.slice Az gl cz)) := Lib.hid (fun W hW => by
        have P := PQ.out.below hW PQ.out.lt
        have Q := PE.out.below hW PE.out.lt
        exact ⟨Q.cell 0, Q.cell 1, Q.cell 2, P.cell 1, P.cell 2, P.cell 3, P.cell 4, P.cell 5⟩)
      go_upto_region 6 with (fail)
      have DR : Hid (Below wq.heap.size wq wq.drew) := Lib.hid (below_drew (Below.refl _ _))
      have kd := HELD.out wq.drew DR.out
      clear b1 b2 b3 b4 b5 z0 z1 z2
      go_region_held3 (fun W => W.cell? ⟨qe, 0, none⟩ = some (.int .i64 lo) ∧ W.cell? ⟨qe, 1, none⟩ = some (.int .i64 last) ∧ W.cell? ⟨qe, 2, none⟩ = some (.int .i64 ph) ∧ W.cell? ⟨qp, 1, none⟩ = some (.bool inner) ∧ W.cell? ⟨qp, 2, none⟩ = some (.int .i64 lo) ∧ W.cell? ⟨qp, 3, none⟩ = some (.slice (some ⟨eb, eo, none⟩) L cx) ∧ W.cell? ⟨qp, 4, none⟩ = some (.slice Ay sl cy) ∧ W.cell? ⟨qp, 5, none⟩ = some (.slice Az gl cz))
        (first | exact HELD.out _ (Below.refl _ _) | exact kd | exact K7 | exact K8 | exact K9)
        (first
          | (go_at_call 65; refine (CL3.out _ DR.out).mono ?_; rintro e w7 ⟨rfl, hb7⟩; have hB7 := DR.out.trans (by exact hb7); have K7 := HELD.out w7 hB7; have K8 := HELD.out (w7.alloc (.cells #[.int .i64 lo, .int .i64 last, .int .i64 ph, .int .i64 mg] 124)) (below_then hB7 (below_new w7 _) (Nat.le_refl _)); have Q7 := Lib.hid (PQ.out.below hB7 PQ.out.lt); have E7 := Lib.hid (PE.out.below hB7 PE.out.lt); have O7 := Lib.hid (own_still HMQ.out hB7); have B7 := Lib.hid (below_then HB3.out hB7 (Nat.le_refl _)); clear hb7 hB7)
          | (refine step_append_lies _ (by rfl) (.tmp 29) (.tmp 35) _ (by rfl) w.heap.size 124 j0 _ 4 32 Try.underlying77 hj0 hjz0 hjz1 hjz2 rfl (by omega) _ i _ (by rfl) (O7.out.alloc _) ⟨w7.heap.size, 0, none⟩ 1 1 [.int .i64 lo, .int .i64 last, .int .i64 ph, .int .i64 mg] (by rfl) rfl (World.news_of_block (cs := #[.int .i64 lo, .int .i64 last, .int .i64 ph, .int .i64 mg]) (t := 124) (fr := (0, 0)) (heap_alloc_new w7 _)) (by simp [Value.oneCell']) (by omega) (by simp only [maxLen]; omega) (by omega) (by have := B7.out.size; simp; omega) (w7.heap.size + 1) (by simp) ?_; intro gg cap w8 hown hgrow hat hlt3; have GW := Lib.hid hown; have GG := Lib.hid hgrow; have NB := Lib.hid ((B7.out.alloc B7.out.size _).grown hgrow (by have := B7.out.size; simp; omega) (fun k hk => (World.ownsRow.lt O7.out k hk).1)); have q9 := (Q7.out.alloc _).grown hgrow (fun he => own_apart O7.out Q7.out (by decide) he.symm); have e9 := (E7.out.alloc _).grown hgrow (fun he => own_apart O7.out E7.out (by decide) he.symm); have K9 := And.intro (e9.cell 0) (And.intro (e9.cell 1) (And.intro (e9.cell 2) (And.intro (q9.cell 1) (And.intro (q9.cell 2) (And.intro (q9.cell 3) (And.intro (q9.cell 4) (q9.cell 5))))))); clear hown hgrow hat hlt3 q9 e9)
          )
      have NX : Hid (Ups w.heap.size w8 (.slice (some ⟨gg, 0, none⟩) (i + 1) cap) (U.take (i + 1))) := Lib.hid (by
        unfold Ups
        rw [STI.out, UP.out, List.length_append, LI.out, upC_app]
        exact GW.out)
      rename_i hHeld
      clear hHeld K7 K8 K9 Q7 E7 O7 B7 GW GG PQ PE HELD DR kd CL3 HMQ HB3 STI UP LI
      go_wp2_with fail
      go_roundw
      case rel => exact ⟨i + 1, by omega, by go_num, NX.out, NB.out⟩
      case measure => simp [intOf]; omega
    · have e : i = n := by omega
      subst e
      have j1 : ¬ (i : Int) < (i : Int) := by omega
      have FX := Lib.hid (FIN.out _ _ hm hb)
      rw [LN.out i (by omega)] at FX
      clear FIN hm hb HM HB CP HF ST
      go_wp2_with fail
      exact FX.out
end Go.Proofs.Ytejkhnphplpkeaa

/-
  Layer 18: what the levels are: the leaves of the entries, and the root above them.
-/
namespace Go.Proofs.Ytejkhnphplpkeaa
open Go.RowKit
set_option linter.unusedVariables false

theorem leafU_piece (es : List En) (i : Nat) : pieceU (leafU es) i = leafU (piece es i) := by
  unfold pieceU piece
  rw [leafU_len]
  unfold leafU
  rw [List.map_take, List.map_drop]
theorem upP_leaf {l : List En} (h1 : 1 ≤ l.length) {p : Pd} (hn : p.n = leafN l) : upP p = upOf l p.h := by
  unfold upP upOf
  rw [hn]
  have e : nth (leafN l).ends ((leafN l).ends.length - 1) = (enAt l (l.length - 1)).hi := by
    show nth (l.map En.hi) ((l.map En.hi).length - 1) = _
    rw [List.length_map, nth_mapE _ (by omega)]
  rw [e]
  rfl
section
variable {es : List En} {hs : List Int} {ps : List Pd}
/-- The leaves. -/
theorem lev_leaf (h1 : 1 ≤ es.length) (h : Lev false (leafU es) hs ps) (hl : ps.length = pcs es.length) {j : Nat} (hj : j < pcs es.length) : (pdAt ps j).h = nth hs j ∧ (pdAt ps j).n = leafN (piece es j) := by
  obtain ⟨a, b⟩ := h j (by omega)
  have hp := piece_len h1 hj
  have hp1 : 1 ≤ (piece es j).length := by
    have h0 : 0 < pcs es.length := by omega
    have hd : 1 ≤ es.length / pcs es.length := by
      rw [Nat.le_div_iff_mul_le h0]
      unfold pcs at hj ⊢
      omega
    rw [hp]
    unfold pc
    omega
  refine ⟨a, ?_⟩
  rw [b, leafU_piece, leafU_nd hp1]
theorem map_at {α : Type} (f : Pd → α) {l : List Pd} {g : Nat → α} (h : ∀ j, j < l.length → f (pdAt l j) = g j) : l.map f = (List.range l.length).map g := by
  apply List.ext_getElem
  · simp
  · intro i h1 h2
    have hi : i < l.length := by simpa using h1
    have e := h i hi
    unfold pdAt at e
    rw [List.getD_eq_getElem?_getD, List.getElem?_eq_getElem hi] at e
    simpa using e
theorem lev_ups (h1 : 1 ≤ es.length) (h64 : es.length ≤ 64) (h : Lev false (leafU es) hs ps) (hl : ps.length = pcs es.length) : ps.map upP = ups es (nth hs) := by
  unfold ups
  rw [← hl]
  apply map_at
  intro j hj
  obtain ⟨a, b⟩ := lev_leaf h1 h hl (show j < pcs es.length by omega)
  have hp := piece_len h1 (show j < pcs es.length by omega)
  have hq := pc_few h1 h64 (show j < pcs es.length by omega)
  rw [upP_leaf (by omega) b, a]
theorem lev_nodes (h1 : 1 ≤ es.length) (h : Lev false (leafU es) hs ps) (hl : ps.length = pcs es.length) : ps.map Pd.n = (List.range (pcs es.length)).map fun i => leafN (piece es i) := by
  rw [← hl]
  exact map_at _ (fun j hj => (lev_leaf h1 h hl (by omega)).2)
end
theorem pc_one {n : Nat} (h : pcs n = 1) : pcAt n 0 = 0 ∧ pc n 0 = n := by
  refine ⟨pcAt_zero n, ?_⟩
  unfold pc
  rw [h, Nat.div_one, Nat.mod_one]
  simp
theorem piece_one {es : List En} (h : pcs es.length = 1) : piece es 0 = es := by
  unfold piece
  rw [(pc_one h).1, (pc_one h).2]
  simp
theorem pieceU_one {us : List Up} (h : pcs us.length = 1) : pieceU us 0 = us := by
  unfold pieceU
  rw [(pc_one h).1, (pc_one h).2]
  simp
theorem ndU_inner (us : List Up) : ndU true us = innerN us := rfl
end Go.Proofs.Ytejkhnphplpkeaa
