/-
  Texts of our own, one behind the other (BdWhole): what the laws' proofs rest on; each says at its head what it holds. No conditions.
-/
import Derived.Test.YtejkhnphplpkeaaPkZq
/-
  Layer 18: build.Tree.
-/
namespace Go.Proofs.Ytejkhnphplpkeaa
open Go.ChangeShapes Go.WideShapes Go.ChangeAt Go.RowKit
set_option linter.unusedVariables false

/-- May they be a tree's entries, with these handles? -/
def TreeOk (es : List En) (hs : List Int) : Prop := Formed18 es ∧ hs.length = cntN es.length ∧ Given hs
/-- What the call leaves. -/
def TreePost (w : World) (es : List En) (hs : List Int) (e : Ending) (w' : World) : Prop :=
  (¬ TreeOk es hs → e = .returned (.slice none 0 0) ∧ Below w.heap.size w w') ∧
  (TreeOk es hs → ∃ v ps, e = .returned v ∧ Pls w.heap.size w' v ps ∧ ps.map Pd.n = treeN es (nth hs) ∧ (∀ i, i < ps.length → (pdAt ps i).h = nth hs i) ∧ Below w.heap.size w w')
theorem cnt_few {n : Nat} (h1 : 1 ≤ n) (h2 : n ≤ 64) : 1 ≤ cntN n ∧ cntN n ≤ 9 := by
  have := pcs_few h1 h2
  unfold cntN
  split <;> omega
theorem Wds.drop {w : World} {b off c : Nat} {l : List Int} {k : Nat} (hk : k < l.length) (hc : l.length ≤ c) (h : ∀ i, i < l.length → w.cell? ⟨b, off + i, none⟩ = some (.int .i64 (nth l i))) : Wds w (.slice (some ⟨b, off + k, none⟩) (l.length - k) (c - k)) (l.drop k) := by
  refine ⟨_, c - k, by rw [List.length_drop], by rw [List.length_drop]; omega, fun _ => ⟨b, off + k, rfl, fun i hi => ?_⟩⟩
  rw [List.length_drop] at hi
  have := h (k + i) (by omega)
  rw [Nat.add_assoc, this]
  unfold nth
  simp only [List.getD_eq_getElem?_getD, List.getElem?_drop]
theorem leaves_formed {es : List En} (h : Formed18 es) {ps : List Pd} {hs : List Int} (hl : ps.length = pcs es.length) (hv : Lev false (leafU es) hs ps) : ∀ p ∈ ps, NdF p.n := by
  intro p hp
  obtain ⟨j, hj, rfl⟩ := List.getElem_of_mem hp
  have e : ps[j] = pdAt ps j := by
    unfold pdAt
    rw [List.getD_eq_getElem?_getD, List.getElem?_eq_getElem hj]
    rfl
  rw [e, (lev_leaf h.2.1 hv hl (show j < pcs es.length by omega)).2]
  exact piece_formed (formed_chain h) h.2.1 h.2.2 (by omega)
section
variable {es : List En} {hs : List Int}
theorem tree_one (h : TreeOk es hs) (hk : pcs es.length = 1) {ps : List Pd} (hl : ps.length = pcs es.length) (hv : Lev false (leafU es) hs ps) : ps.map Pd.n = treeN es (nth hs) ∧ ∀ i, i < ps.length → (pdAt ps i).h = nth hs i := by
  refine ⟨?_, fun i hi => (lev_leaf h.1.2.1 hv hl (by omega)).1⟩
  rw [lev_nodes h.1.2.1 hv hl]
  unfold treeN
  rw [if_pos hk, hk]
  show [leafN (piece es 0)] = _
  rw [piece_one hk]
theorem tree_two (h : TreeOk es hs) (hk : pcs es.length ≠ 1) {ps qs : List Pd} (hl : ps.length = pcs es.length) (hv : Lev false (leafU es) hs ps) (hl' : qs.length = 1) (hv' : Lev true (ps.map upP) (hs.drop ps.length) qs) : (ps ++ qs).map Pd.n = treeN es (nth hs) ∧ ∀ i, i < (ps ++ qs).length → (pdAt (ps ++ qs) i).h = nth hs i := by
  have h1 := h.1.2.1
  have h64 := h.1.2.2
  have hK := pcs_few h1 h64
  obtain ⟨q, rfl⟩ : ∃ q, qs = [q] := by
    match qs, hl' with
    | [q], _ => exact ⟨q, rfl⟩
  obtain ⟨a, b⟩ := hv' 0 (by simp)
  have a : q.h = nth (hs.drop ps.length) 0 := a
  have b : q.n = ndU true (pieceU (ps.map upP) 0) := b
  have one : pcs (ps.map upP).length = 1 := by
    rw [List.length_map, hl]
    exact (pcs_one hK.1).2 hK.2
  rw [pieceU_one one, lev_ups h1 h64 hv hl, ndU_inner] at b
  rw [nth_drop, Nat.add_zero] at a
  refine ⟨?_, fun i hi => ?_⟩
  · rw [List.map_append, lev_nodes h1 hv hl]
    unfold treeN
    rw [if_neg hk, ← b]
    rfl
  · rw [List.length_append] at hi
    have hi : i < ps.length + 1 := hi
    rw [pdAt_app ps q i hi]
    by_cases hlt : i < ps.length
    · rw [if_pos hlt]
      exact (lev_leaf h1 hv hl (by omega)).1
    · have e : i = ps.length := by omega
      subst e
      rw [if_neg hlt]
      exact a
end
theorem tree_lens {es : List En} (h1 : 1 ≤ es.length) (h64 : es.length ≤ 64) : pcs (leafU es).length = pcs es.length ∧ 1 ≤ (leafU es).length ∧ (leafU es).length ≤ 64 := by
  rw [leafU_len]; exact ⟨rfl, h1, h64⟩
theorem Pls.one {base : Nat} {w : World} {v : Value} {l : List Pd} (h : Pls base w v l) : ∀ u ∈ plC l, u.oneCell' = true := by
  intro u hu
  obtain ⟨q, hq, hu⟩ := List.mem_flatMap.1 hu
  have m := h.2 q hq
  obtain ⟨B1, c1, e1⟩ := own_slice m.me
  obtain ⟨B2, c2, e2⟩ := own_slice m.ms
  obtain ⟨B3, c3, e3⟩ := own_slice m.mg
  unfold Pd.c at hu
  rw [e1, e2, e3] at hu
  simp only [List.mem_cons, List.mem_nil_iff, or_false] at hu
  rcases hu with rfl | rfl | rfl | rfl | rfl | rfl <;> rfl
set_option maxRecDepth 10000 in
set_option maxHeartbeats 8000000 in
theorem tree18_c {w : World} {v hv : Value} {es : List En} {hs : List Int} (h : Ens w v es) (hh : Wds w hv hs) (hl : es.length ≤ 1000) (hhl : hs.length ≤ 1000) : Calls Try.prog 12 #[v, hv] w (TreePost w es hs) := by
  obtain ⟨j0, hj0, hjz0, hjz1, hjz2⟩ := placed_info'
  obtain ⟨R, hR⟩ : ∃ R, TreePost w es hs = R := ⟨_, rfl⟩
  rw [hR]
  have NO : Hid (¬ TreeOk es hs → ∀ W, Below w.heap.size w W → R (.returned (.slice none 0 0)) W) := Lib.hid (fun hn W hb => by rw [← hR]; exact ⟨fun _ => ⟨rfl, hb⟩, fun h => (hn h).elim⟩)
  have YES : Hid (TreeOk es hs → ∀ W v ps, Below w.heap.size w W → Pls w.heap.size W v ps → (ps.map Pd.n = treeN es (nth hs) ∧ ∀ i, i < ps.length → (pdAt ps i).h = nth hs i) → R (.returned v) W) := Lib.hid (fun hy W v ps hb hp h2 => by rw [← hR]; exact ⟨fun hn => (hn hy).elim, fun _ => ⟨v, ps, rfl, hp, h2.1, h2.2, hb⟩⟩)
  clear hR
  have HE := Lib.hid h
  have HW := Lib.hid hh
  obtain ⟨r1, hr1⟩ : ∃ r, Tells r (Formed18 es) := ⟨@decide (Formed18 es) (Classical.propDecidable _), @decide_eq_true_iff (Formed18 es) (Classical.propDecidable _)⟩
  obtain ⟨r3, hr3⟩ : ∃ r, Tells r (Given hs) := ⟨@decide (Given hs) (Classical.propDecidable _), @decide_eq_true_iff (Given hs) (Classical.propDecidable _)⟩
  have C1 := Lib.hid (right18_c h hl hr1)
  obtain ⟨A, c, rfl, hc, hA⟩ := h
  obtain ⟨A', c', rfl, hc', hA'⟩ := hh
  clear hA
  cases r1 with
  | false =>
    have FX := Lib.hid (fun W hb => NO.out (fun h => by have := hr1.2 h.1; cases this) W hb)
    clear NO YES hr1 hr3 hA'
    go_enter Try.func12, Try.ntmps12
    go_wp2_with fail
    refine C1.out.mono ?_
    rintro e w1 ⟨rfl, hb1⟩
    have F1 := Lib.hid (FX.out w1 hb1)
    clear FX C1 hb1
    go_wp2_with fail
    exact F1.out
  | true =>
    have hf : Formed18 es := hr1.1 rfl
    have hn1 := hf.2.1
    have hn64 := hf.2.2
    have hcnt := cnt_few hn1 hn64
    have CN := Lib.hid (fun W => count18_c (w := W) (es.length : Int))
    have hci : cntI (es.length : Int) = (cntN es.length : Int) := by
      unfold cntI
      rw [if_pos (by omega)]
      rfl
    have hnot : ∀ (x : Bool) (w : World), (Op.unary .not (.bool x)).run Try.prog w = .ok (.bool (!x)) w := fun _ _ => rfl
    rw [hci] at CN
    by_cases hlen : hs.length = cntN es.length
    · have HA := Lib.hid (hA' (by omega))
      have CG := Lib.hid (fun (W : World) (hW : Below w.heap.size w W) => given_c (HW.out.still hW) hhl hr3)
      cases r3 with
      | false =>
        have FX := Lib.hid (fun W hb => NO.out (fun h => by have := hr3.2 h.2.2; cases this) W hb)
        have jn : (hs.length : Int) = (cntN es.length : Int) := by omega
        have HJ := Lib.hid jn
        clear NO YES hr1 hr3 hA' hlen hci HA
        generalize (cntN es.length : Int) = cn at *
        generalize (hs.length : Nat) = hl' at *
        clear jn
        have hj := HJ.out
        subst hj
        go_enter Try.func12, Try.ntmps12
        go_wp2_with fail
        refine C1.out.mono ?_
        rintro e w1 ⟨rfl, hb1⟩
        have B1 := Lib.hid hb1
        clear C1 hb1
        go_wp2_with fail
        refine (CN.out w1).mono ?_
        rintro e w2 ⟨rfl, hb2⟩
        have B2 := Lib.hid (below_then B1.out hb2 (Nat.le_refl _))
        clear hb2 CN B1
        go_wp2_with fail
        refine (CG.out w2 B2.out).mono ?_
        rintro e w3 ⟨rfl, rfl⟩
        have F1 := Lib.hid (FX.out _ B2.out)
        clear FX CG B2
        go_wp2_with fail
        exact F1.out
      | true =>
        have ok : TreeOk es hs := ⟨hf, hlen, hr3.1 rfl⟩
        obtain ⟨hb0, ho, rfl, ch⟩ := HA.out
        have hK := pcs_few hn1 hn64
        have CLE : Hid (∀ W, Below w.heap.size w W → Calls Try.prog 41 #[.slice A es.length c] W fun e w' => ∃ v', e = .returned v' ∧ Ups W.heap.size w' v' (leafU es) ∧ Below W.heap.size W w') := Lib.hid (fun W hW => leafEntries_c (HE.out.still hW) hn64 (fun i hi => by have := hf.1 i hi; unfold EnOk at this; omega))
        have hcnt2 : pcs es.length ≤ hs.length ∧ (pcs es.length ≠ 1 → hs.length = pcs es.length + 1) := by
          rw [hlen]
          unfold cntN
          split <;> omega
        have CNO : Hid (∀ W v', Below w.heap.size w W → UpIn W v' (leafU es) → Calls Try.prog 40 #[.bool false, v', .slice (some ⟨hb0, ho, none⟩) hs.length c'] W fun e w' => ∃ v' ps, e = .returned v' ∧ Pls W.heap.size w' v' ps ∧ ps.length = pcs es.length ∧ Lev false (leafU es) hs ps ∧ Below W.heap.size W w') := Lib.hid (fun W v' hW hU => by
          have := nodes_c (inner := false) hU (HW.out.still hW) (by rw [leafU_len]; exact hn1) (by rw [leafU_len]; exact hn64) (by rw [leafU_len]; exact hcnt2.1) hhl
          rw [leafU_len] at this
          exact this)
        have CIE : Hid (∀ W v' ps, Pls w.heap.size W v' ps → ps.length = pcs es.length → Lev false (leafU es) hs ps → Calls Try.prog 42 #[v'] W fun e w' => ∃ v', e = .returned v' ∧ Ups W.heap.size w' v' (ps.map upP) ∧ Below W.heap.size W w') := Lib.hid (fun W v' ps hp hl hv => innerEntries_c hp (leaves_formed hf hl hv) (by omega) (by omega))
        have CNI : Hid (pcs es.length ≠ 1 → ∀ W v' (ps : List Pd), Below w.heap.size w W → ps.length = pcs es.length → UpIn W v' (ps.map upP) → Calls Try.prog 40 #[.bool true, v', .slice (some ⟨hb0, ho + pcs es.length, none⟩) (hs.length - pcs es.length) (c' - pcs es.length)] W fun e w' => ∃ B c2 qs, e = .returned (.slice B 1 c2) ∧ Pls W.heap.size w' (.slice B 1 c2) qs ∧ qs.length = 1 ∧ Lev true (ps.map upP) (hs.drop ps.length) qs ∧ Below W.heap.size W w') := Lib.hid (fun hne W v' ps hW hpl hU => by
          have e1 : (ps.map upP).length = pcs es.length := by rw [List.length_map, hpl]
          have one : pcs (ps.map upP).length = 1 := by rw [e1]; exact (pcs_one hK.1).2 hK.2
          have hdl : (hs.drop ps.length).length = hs.length - pcs es.length := by rw [List.length_drop, hpl]
          have hw2 : Wds W (.slice (some ⟨hb0, ho + pcs es.length, none⟩) (hs.length - pcs es.length) (c' - pcs es.length)) (hs.drop ps.length) := by
            rw [hpl]
            refine Wds.drop (by have := hcnt2.2 hne; omega) hc' (fun i hi => ?_)
            have k0 := ch i hi
            rw [hW.cell (p := ⟨hb0, ho + i, none⟩) (World.block_lt_of_cell? w _ k0)]
            exact k0
          have := nodes_c (inner := true) hU hw2 (by omega) (by omega) (by rw [one, hdl]; have := hcnt2.2 hne; omega) (by rw [hdl]; omega)
          rw [one] at this
          refine this.mono ?_
          rintro e w' ⟨v2, qs, rfl, hp, hql, hv, hb⟩
          obtain ⟨B, c2, rfl⟩ := own_slice hp.1
          rw [hql] at hp
          exact ⟨B, c2, qs, by rw [hql], hp, hql, hv, hb⟩)
        have ONE : Hid (pcs es.length = 1 → ∀ W v ps, Below w.heap.size w W → Pls w.heap.size W v ps → ps.length = pcs es.length → Lev false (leafU es) hs ps → R (.returned v) W) := Lib.hid (fun h1 W v ps hb hp hl hv => YES.out ok W v ps hb hp (tree_one ok h1 hl hv))
        have TWO : Hid (pcs es.length ≠ 1 → ∀ ps qs, ps.length = pcs es.length → Lev false (leafU es) hs ps → qs.length = 1 → Lev true (ps.map upP) (hs.drop ps.length) qs → ∀ W v, Below w.heap.size w W → Pls w.heap.size W v (ps ++ qs) → R (.returned v) W) := Lib.hid (fun h1 ps qs hl hv hl' hv' W v hb hp => YES.out ok W v _ hb hp (tree_two ok h1 hl hv hl' hv'))
        have jn : (hs.length : Int) = (cntN es.length : Int) := by omega
        have HJ := Lib.hid jn
        have HC2 := Lib.hid hcnt2.2
        have jk : pcs es.length ≤ hs.length := hcnt2.1
        clear NO YES hr1 hr3 hA' hlen hci ch HA hcnt2 jn HE HW hcnt hf ok
        generalize (cntN es.length : Int) = cn at *
        generalize leafU es = us at *
        generalize pcs es.length = K at *
        obtain ⟨hl', hhl'⟩ : ∃ hl', hs.length = hl' := ⟨_, rfl⟩
        rw [hhl'] at hhl hc' HJ CG CNO CNI HC2 jk ⊢
        clear hhl'
        have hj := HJ.out
        subst hj
        go_enter Try.func12, Try.ntmps12
        go_wp2_with fail
        refine C1.out.mono ?_
        rintro e w1 ⟨rfl, hb1⟩
        have B1 := Lib.hid hb1
        clear C1 hb1
        go_wp2_with fail
        refine (CN.out w1).mono ?_
        rintro e w2 ⟨rfl, hb2⟩
        have B2 := Lib.hid (below_then B1.out hb2 (Nat.le_refl _))
        clear hb2 CN B1
        go_wp2_with fail
        refine (CG.out w2 B2.out).mono ?_
        rintro e w3 ⟨rfl, rfl⟩
        clear CG
        go_wp2_with fail
        refine (CLE.out _ B2.out).mono ?_
        rintro e w4 ⟨uv, rfl, hU, hb4⟩
        obtain ⟨UA, uc, rfl⟩ := own_slice hU
        have CN4 := Lib.hid (CNO.out w4 _ (below_then B2.out hb4 (Nat.le_refl _)) hU.here)
        have B4 := Lib.hid (below_then B2.out hb4 (Nat.le_refl _))
        clear hU hb4 CNO CLE B2
        generalize us.length = ul at *
        go_wp2_with fail
        refine CN4.out.mono ?_
        rintro e w5 ⟨lv, ps0, rfl, hp, hpl, hlev, hb5⟩
        obtain ⟨PA, pc0, rfl⟩ := own_slice hp.1
        have HP := Lib.hid (hp.base' (b := w.heap.size) B4.out.size)
        have B5 := Lib.hid (below_then B4.out hb5 (Nat.le_refl _))
        have HPL := Lib.hid hpl
        have HLV := Lib.hid hlev
        rw [hpl] at HP ⊢
        clear hp hb5 B4 CN4 hpl hlev
        go_wp2_with fail
        go_loopw [5, 6] (fun lv av wr => (lv = av ∧ ∃ B cp ps, lv = .slice B K cp ∧ Pls w.heap.size wr lv ps ∧ ps.length = K ∧ Lev false us hs ps ∧ Below w.heap.size w wr) ∨ (K ≠ 1 ∧ ∃ B cp, lv = .slice B 1 cp ∧ (∃ B' n' c', av = .slice B' n' c') ∧ ∀ W, W = wr → R (.returned av) W)) (fun lv _ _ => match lv with | .slice _ n _ => if n = 1 then 0 else 1 | _ => 0)
        case atStart => exact .inl ⟨rfl, PA, pc0, ps0, rfl, HP.out, HPL.out, HLV.out, B5.out⟩
        case round =>
          clear HP HPL HLV B5
          rcases hrel with ⟨rfl, B, cp, ps, rfl, hp, hpl, hlev, hb⟩ | ⟨hk1, B, cp, rfl, ⟨B', n', c3, rfl⟩, hR⟩
          · by_cases hK1 : K = 1
            · have F := Lib.hid (ONE.out hK1 _ _ _ hb hp hpl hlev)
              clear ONE TWO CIE CNI hp hpl hlev hb
              subst hK1
              go_wp2_with fail
              exact F.out
            · have j1 : (1 : Int) < (K : Int) := by omega
              have jc : (K : Int) ≤ (hl' : Int) := by omega
              have jc2 : (K : Int) ≤ (c' : Int) := by omega
              have hne : ¬ c' = K := by have := HC2.out hK1; omega
              have CI := Lib.hid (CIE.out wr.drew _ _ (hp.still (below_drew (Below.refl _ _))) hpl hlev)
              have CI2 := Lib.hid (fun (W : World) (v' : Value) (hW : Below w.heap.size w W) (hU : UpIn W v' (ps.map upP)) => CNI.out hK1 W v' ps hW hpl hU)
              have HPL := Lib.hid hpl
              have HLV := Lib.hid hlev
              have HP := Lib.hid hp
              have HB := Lib.hid hb
              have TW := Lib.hid (fun qs h1 h2 W v h3 h4 => TWO.out hK1 ps qs hpl hlev h1 h2 W v h3 h4)
              clear ONE TWO CIE CNI hp hpl hlev hb
              generalize ps.map upP = us2 at *
              go_upto_region 6 with (fail)
              have DR : Hid (Below wr.heap.size wr wr.drew) := Lib.hid (below_drew (Below.refl _ _))
              go_region_held3 (fun W => True)
                (first | exact trivial)
                (first
                  | (go_at_call 42; refine (CI.out).mono ?_; rintro e w7 ⟨v7, rfl, hU, hb7⟩; obtain ⟨U7, uc7, rfl⟩ := own_slice hU; have B7 := Lib.hid (below_then (below_drew HB.out) hb7 (Nat.le_refl _)); have BB7 := Lib.hid (below_then DR.out hb7 (Nat.le_refl _)); have C7 := Lib.hid (CI2.out w7 _ B7.out hU.here); clear hU hb7)
                  | (go_at_call 40; refine C7.out.mono ?_; rintro e w8 ⟨QA, qc8, qs, rfl, hq, hql, hqv, hb8⟩; have B8 := Lib.hid (below_then B7.out hb8 (Nat.le_refl _)); have BB8 := Lib.hid (below_then BB7.out hb8 (Nat.le_refl _)); have Q8 := Lib.hid (hq.base' (b := w.heap.size) B7.out.size); have QL := Lib.hid hql; have QV := Lib.hid hqv; clear hq hql hqv hb8)
                  | fail)
              rename_i hHeld
              clear hHeld DR C7 CI CI2 B7 BB7
              have O9 := Lib.hid Q8.out.1
              rw [QL.out] at O9
              obtain ⟨g8, rfl, _, _⟩ := own_form O9.out (by omega)
              have P8 := Lib.hid (HP.out.still BB8.out)
              have O8 := Lib.hid P8.out.1
              rw [HPL.out] at O8
              have NEWS : Hid (∀ (j : Nat) (u : Value), (plC qs)[j]? = some u → w8.cell? ((⟨g8, 0, none⟩ : Addr).add j) = some u) := Lib.hid (fun j u hu => by
                have hj : j < (plC qs).length := by
                  apply Classical.byContradiction
                  intro hn
                  rw [List.getElem?_eq_none (by omega)] at hu
                  cases hu
                rw [plC_len, QL.out] at hj
                rw [Addr.add_lit, Nat.zero_add, O9.out.cellAt j (by omega)]
                exact hu)
              have QC : Hid (∀ u ∈ plC qs, u.oneCell' = true) := Lib.hid Q8.out.one
              have QN : Hid ((plC qs).length = 1 * 6) := Lib.hid (by rw [plC_len, QL.out])
              have SZ := Lib.hid B8.out.size
              go_wp2_with (at_builtin; refine wpList_append_lies _ rfl (.tmp 38) (.tmp 39) _ rfl w.heap.size 36 j0 _ 6 96 Try.underlying29 hj0 hjz0 hjz1 hjz2 rfl (by omega) _ K _ rfl O8.out ⟨g8, 0, none⟩ 1 qc8 (plC qs) rfl QN.out NEWS.out QC.out (by omega) (by simp only [maxLen]; omega) (by omega) SZ.out _ rfl ?_; intro gg cap w9 hown hgrow hat hlt9)
              have NP : Hid (Pls w.heap.size w9 (.slice (some ⟨gg, 0, none⟩) (K + 1) cap) (ps ++ qs)) := Lib.hid (P8.out.more Q8.out.2 hgrow (by rw [HPL.out, QL.out]; exact hown))
              have NB : Hid (Below w.heap.size w w9) := Lib.hid (B8.out.grown hgrow SZ.out (fun k hk => (World.ownsRow.lt O8.out k hk).1))
              have NR : Hid (R (.returned (.slice (some ⟨gg, 0, none⟩) (K + 1) cap)) w9) := Lib.hid (TW.out qs QL.out QV.out w9 _ NB.out NP.out)
              clear NP NB TW hown hgrow hat hlt9 NEWS QC QN SZ O8 O9 P8 Q8 QL QV B8 BB8 HP HB HPL HLV
              go_wp2_with fail
              go_roundw
              case rel => exact .inr ⟨hK1, _, _, rfl, ⟨_, _, _, rfl⟩, fun W hW => by rw [hW]; exact NR.out⟩
              case measure => simp [hK1]
          · have FX := Lib.hid (hR _ rfl)
            clear hR ONE TWO CIE CNI
            go_wp2_with fail
            exact FX.out
    · have FX := Lib.hid (fun W hb => NO.out (fun h => hlen h.2.1) W hb)
      have jn : ¬ ((hs.length : Int) = (cntN es.length : Int)) := by omega
      have jb : ((hs.length : Int) != (cntN es.length : Int)) = true := bne_iff_ne.2 jn
      clear NO YES hr1 hr3 hA' hlen hci
      generalize (cntN es.length : Int) = cn at *
      go_enter Try.func12, Try.ntmps12
      go_wp2_with fail
      refine C1.out.mono ?_
      rintro e w1 ⟨rfl, hb1⟩
      have B1 := Lib.hid hb1
      clear C1 hb1
      go_wp2_with fail
      refine (CN.out w1).mono ?_
      rintro e w2 ⟨rfl, hb2⟩
      have F1 := Lib.hid (FX.out w2 (below_then B1.out hb2 (Nat.le_refl _)))
      clear FX hb2 CN B1
      go_wp2_with fail
      exact F1.out
end Go.Proofs.Ytejkhnphplpkeaa
