/-
  What is built, and laid into slots, is gone through as it was, and each address is found in its entry: the law's walk.
-/
import Derived.Test.YtejkhnphplpkeaaPkZv
import Derived.Test.YtejkhnphplpkeaaPkVd
import Derived.Test.YtejkhnphplpkeaaPkZk
import Derived.Test.YtejkhnphplpkeaaPkWe
import Derived.Test.YtejkhnphplpkeaaPkVe
import Derived.BigQuiet
namespace Go.Proofs.Ytejkhnphplpkeaa
open Go.ChangeShapes Go.WideShapes Go.ChangeAt Go.RowKit
set_option linter.unusedVariables false

theorem mkTo_first (ss : List Int) (k : Nat) : (enAt (mkTo ss (-1) ⟨0, 0, 0⟩ (k + 1)).1 0).lo = 65536 := by
  induction k with
  | zero => rfl
  | succ k ih =>
    show (enAt ((mkTo ss (-1) ⟨0, 0, 0⟩ (k + 1)).1 ++ [_]) 0).lo = _
    unfold enAt at ih ⊢
    rw [List.getD_eq_getElem?_getD, List.getElem?_append_left (by rw [mkTo_len]; omega), ← List.getD_eq_getElem?_getD]
    exact ih
theorem mkTo_h (ss : List Int) (k : Nat) : ∀ e ∈ (mkTo ss (-1) ⟨0, 0, 0⟩ k).1, e.h ≤ 65536 + (k : Int) := by
  induction k with
  | zero => intro e he; simp [mkTo] at he
  | succ k ih =>
    intro e he
    rcases List.mem_append.1 (show e ∈ (mkTo ss (-1) ⟨0, 0, 0⟩ k).1 ++ [_] from he) with he | he
    · have := ih e he; omega
    · have e1 : e = mkOne (nth ss k) k (mkTo ss (-1) ⟨0, 0, 0⟩ k).2 (-1) ⟨0, 0, 0⟩ := by simpa using he
      subst e1
      unfold mkOne
      rw [if_neg (by omega)]
      show (if nth ss k % 2 = 1 then 65536 + (k : Int) else 0) ≤ _
      split <;> omega
theorem given_hd (k : Nat) : Given (handL 1 k) ∧ nth (handL 1 k) = fun i => if i < k then hdZ i else 0 := by
  refine ⟨fun i hi => ?_, funext fun i => ?_⟩
  · rw [handL_len] at hi
    rw [handL_at hi]
    omega
  · by_cases hi : i < k
    · rw [handL_at hi, if_pos hi]
      unfold hdZ
      omega
    · rw [if_neg hi]
      unfold nth
      rw [List.getD_eq_getElem?_getD, List.getElem?_eq_none (by rw [handL_len]; omega)]
      rfl
/-- Only the handles of the leaves stand in a tree. -/
theorem tree_hd (es : List En) {f g : Nat → Int} (h : ∀ i, i < pcs es.length → f i = g i) : treeN es f = treeN es g := by
  have e : ups es f = ups es g := by
    unfold ups
    apply List.map_congr_left
    intro i hi
    rw [h i (List.mem_range.1 hi)]
  unfold treeN
  rw [e]
theorem pls_only {base : Nat} {w w' : World} {v : Value} {l : List Pd} {S : Nat → Prop} (h : Pls base w v l) (ho : Only S w w') (hS : ∀ k, base ≤ k → ¬ S k) : Pls base w' v l := by
  refine ⟨own_only h.1 ho (fun k hk => hS k (World.ownsRow.lt h.1 k hk).1), fun p hp => ?_⟩
  have n := h.2 p hp
  exact ⟨own_only n.me ho (fun k hk => hS k (World.ownsRow.lt n.me k hk).1), own_only n.ms ho (fun k hk => hS k (World.ownsRow.lt n.ms k hk).1), own_only n.mg ho (fun k hk => hS k (World.ownsRow.lt n.mg k hk).1), n.es, n.eg, n.sg⟩
/-- What is read of a placed node. -/
structure PdSeen (w : World) (g i : Nat) (n : Nd) (Bx By Bz : Option Addr) (cx cy cz : Nat) : Prop where
  cells : ∀ W, Below w.heap.size w W → W.cell? ⟨g, i * 6 + 1, none⟩ = some (.bool n.inner) ∧ W.cell? ⟨g, i * 6 + 2, none⟩ = some (.int .i64 n.lo) ∧ W.cell? ⟨g, i * 6 + 3, none⟩ = some (.slice Bx n.ends.length cx) ∧ W.cell? ⟨g, i * 6 + 4, none⟩ = some (.slice By n.slots.length cy) ∧ W.cell? ⟨g, i * 6 + 5, none⟩ = some (.slice Bz n.gaps.length cz)
  here : NdIn w n (.slice Bx n.ends.length cx) (.slice By n.slots.length cy) (.slice Bz n.gaps.length cz)
theorem pd_seen {base : Nat} {w : World} {g m pcap i : Nat} {ps : List Pd} (h : Pls base w (.slice (some ⟨g, 0, none⟩) m pcap) ps) (hm : ps.length = m) (hi : i < m) : ∃ Bx By Bz cx cy cz, PdSeen w g i (pdAt ps i).n Bx By Bz cx cy cz := by
  have mp := pdAt_mem (l := ps) (i := i) (by omega)
  have nd := h.2 _ mp
  have o := h.1
  rw [hm] at o
  have cp := fun W (hW : Below w.heap.size w W) j (hj : j < 6) => ((own_still o hW).cellAt (i * 6 + j) (by omega)).trans (plC_at ps i j (by omega) hj)
  generalize pdAt ps i = p at *
  obtain ⟨ph, pn, px, py, pz⟩ := p
  simp only at nd ⊢
  obtain ⟨Bx, cx, rfl⟩ := own_slice nd.me
  obtain ⟨By, cy, rfl⟩ := own_slice nd.ms
  obtain ⟨Bz, cz, rfl⟩ := own_slice nd.mg
  exact ⟨Bx, By, Bz, cx, cy, cz, fun W hW => ⟨cp W hW 1 (by omega), cp W hW 2 (by omega), cp W hW 3 (by omega), cp W hW 4 (by omega), cp W hW 5 (by omega)⟩, nd.here⟩
/-- While slots are born. -/
structure BornAt (w wc : World) (mb mg ab ag cn : Nat) (i : Nat) (hv : Value) (wr : World) : Prop where
  ar : ArAt wr ab ag 0 (bornTo cn i) false false
  hs : Mw wc.heap.size wr hv (handL 1 i)
  only : Only (ArTwo ab ag) wc wr
set_option maxRecDepth 10000 in
set_option maxHeartbeats 8000000 in
theorem buildBack_any {w : World} {sv : Value} {ss : List Int} {at_ : Int} (h : Bys w sv ss) (ha0 : 0 ≤ at_) (ha1 : at_ ≤ 65535) : Calls Try.prog 7 #[sv, .int .u16 at_] w fun e w' => e = .returned (.bool true) ∧ Below w.heap.size w w' := by
  have hnot : ∀ (x : Bool) (w : World), (Op.unary .not (.bool x)).run Try.prog w = .ok (.bool (!x)) w := fun _ _ => rfl
  have hmf : ∀ (fn : Fn) (first cap : Array Value) (w : World), (Instr.makeFunc fn first cap).run Try.prog w = .ok (.func fn first cap) w := fun _ _ _ _ => rfl
  obtain ⟨i0, hi0, hz0, hz1, hz2⟩ := int64_info'
  obtain ⟨R, hR⟩ : ∃ R : Ending → World → Prop, (fun e w' => e = .returned (.bool true) ∧ Below w.heap.size w w') = R := ⟨_, rfl⟩
  rw [hR]
  have FIN : Hid (∀ W, Below w.heap.size w W → R (.returned (.bool true)) W) := Lib.hid (fun W hb => by rw [← hR]; exact ⟨rfl, hb⟩)
  clear hR
  have HS := Lib.hid h
  obtain ⟨A, c, rfl, hc, _⟩ := h
  by_cases hbad : ss.length = 0 ∨ 60 < ss.length
  · have j1 : ((ss.length : Int) == 0) = decide (ss.length = 0) := by
      by_cases h : ss.length = 0
      · rw [h]; rfl
      · rw [decide_eq_false h]; exact beq_eq_false_iff_ne.2 (by omega)
    have j2 : decide ((60 : Int) < (ss.length : Int)) = decide (60 < ss.length) := by
      by_cases h : 60 < ss.length
      · rw [decide_eq_true h]; exact decide_eq_true (by omega)
      · rw [decide_eq_false h]; exact decide_eq_false (by omega)
    clear HS
    generalize ss.length = n at *
    rcases hbad with rfl | hb
    · go_enter Try.func7, Try.ntmps7
      go_wp2_with fail
      refine (awake18_c _).mono ?_
      rintro e w1 ⟨rfl, hb1⟩
      have B1 := Lib.hid hb1
      clear hb1
      go_wp2_with fail
      refine (awake18_c _).mono ?_
      rintro e w2 ⟨rfl, hb2⟩
      have FX := Lib.hid (FIN.out _ (below_then B1.out hb2 (Nat.le_refl _)))
      clear hb2 B1 FIN
      go_wp2_with fail
      exact FX.out
    · have j3 : (60 : Int) < (n : Int) := by omega
      have j4 : ((n : Int) == 0) = false := beq_eq_false_iff_ne.2 (by omega)
      clear j1 j2
      go_enter Try.func7, Try.ntmps7
      go_wp2_with fail
      refine (awake18_c _).mono ?_
      rintro e w1 ⟨rfl, hb1⟩
      have B1 := Lib.hid hb1
      clear hb1
      go_wp2_with fail
      refine (awake18_c _).mono ?_
      rintro e w2 ⟨rfl, hb2⟩
      have FX := Lib.hid (FIN.out _ (below_then B1.out hb2 (Nat.le_refl _)))
      clear hb2 B1 FIN
      go_wp2_with fail
      exact FX.out
  have hlen : (mkL ss (-1) ⟨0, 0, 0⟩).length = ss.length := mkTo_len _ _ _ _
  have hfirst : (enAt (mkL ss (-1) ⟨0, 0, 0⟩) 0).lo = 65536 := by
    have := mkTo_first ss (ss.length - 1)
    rw [show ss.length - 1 + 1 = ss.length by omega] at this
    exact this
  have hh64 : ∀ i, i < (mkL ss (-1) ⟨0, 0, 0⟩).length → (enAt (mkL ss (-1) ⟨0, 0, 0⟩) i).h ≤ 9223372036854775807 := fun i hi => by
    have hm : enAt (mkL ss (-1) ⟨0, 0, 0⟩) i ∈ mkL ss (-1) ⟨0, 0, 0⟩ := by
      unfold enAt
      rw [List.getD_eq_getElem?_getD, List.getElem?_eq_getElem hi]
      exact List.getElem_mem hi
    have := mkTo_h ss ss.length _ hm
    omega
  have CM := Lib.hid (fun (W : World) (hW : Below w.heap.size w W) => made_ens (bad := -1) (more := ⟨0, 0, 0⟩) (HS.out.still hW) (by omega))
  obtain ⟨es, hes⟩ : ∃ L, mkL ss (-1) ⟨0, 0, 0⟩ = L := ⟨_, rfl⟩
  rw [hes] at hlen hfirst hh64 CM
  clear hes
  obtain ⟨n, hn⟩ : ∃ n, ss.length = n := ⟨_, rfl⟩
  rw [hn] at hlen hbad hc HS CM ⊢
  clear hn
  have HLEN := Lib.hid hlen
  have n1 : 1 ≤ n := by omega
  have n60 : n ≤ 60 := by omega
  have j1 : ((n : Int) == 0) = false := beq_eq_false_iff_ne.2 (by omega)
  have j2 : decide ((60 : Int) < (n : Int)) = false := decide_eq_false (by omega)
  have HFI := Lib.hid hfirst
  have HH := Lib.hid hh64
  clear hlen hfirst hh64 hbad HS
  go_enter Try.func7, Try.ntmps7
  go_wp2_with fail
  refine (awake18_c _).mono ?_
  rintro e w1 ⟨rfl, hb1⟩
  have B1 := Lib.hid hb1
  clear hb1
  go_wp2_with fail
  refine (CM.out w1 B1.out).mono ?_
  rintro e w2 ⟨lv, rfl, hmes, hb2⟩
  obtain ⟨LA, lc, rfl⟩ := own_slice hmes
  have M2 := Lib.hid (hmes.base' B1.out.size)
  rw [HLEN.out] at M2 ⊢
  have B2 := Lib.hid (below_then B1.out hb2 (Nat.le_refl _))
  clear hmes hb2 CM
  obtain ⟨r, hr⟩ : ∃ r, Tells r (Formed18 es) := ⟨@decide (Formed18 es) (Classical.propDecidable _), @decide_eq_true_iff (Formed18 es) (Classical.propDecidable _)⟩
  have CF := Lib.hid (refFormed18_c (Mes.ens M2.out) (by rw [HLEN.out]; omega) hr)
  go_wp2_with fail
  refine CF.out.mono ?_
  rintro e w3 ⟨rfl, hb3⟩
  have B3 := Lib.hid (below_then B2.out hb3 (Nat.le_refl _))
  have M3 := Lib.hid (own_still M2.out hb3)
  clear hb3 CF M2 B2
  cases r with
  | false =>
    have FX := Lib.hid (FIN.out _ B3.out)
    clear FIN B3 M3 hr
    go_wp2_with fail
    exact FX.out
  | true =>
    have hf : Formed18 es := hr.1 rfl
    have HF := Lib.hid hf
    have hcn := cnt_few hf.2.1 hf.2.2
    have hci : cntI (n : Int) = (cntN n : Int) := by
      unfold cntI
      rw [if_pos (by omega)]
      rfl
    have CC := Lib.hid (fun W => count18_c (w := W) (n : Int))
    rw [hci] at CC
    rw [HLEN.out] at hcn
    have CN : Hid (cntN es.length = cntN n) := Lib.hid (by rw [HLEN.out])
    obtain ⟨cn, hcne⟩ : ∃ k, cntN n = k := ⟨_, rfl⟩
    rw [hcne] at hcn CC CN
    clear hci hcne hf hr
    go_wp2_with fail
    refine (CC.out w3).mono ?_
    rintro e w4 ⟨rfl, hb4⟩
    have B4 := Lib.hid (below_then B3.out hb4 (Nat.le_refl _))
    have M4 := Lib.hid (own_still M3.out hb4)
    clear hb4 CC M3 B3
    go_wp2_with fail
    refine (arNew_any _ _ _).mono ?_
    rintro e w5 ⟨rfl, ha, hb5, hz5⟩
    have ha : ArAt w5 (w4.heap.size + 1) w4.heap.size 0 (bornTo cn 0) false false := by
      rw [bornTo_zero]
      have e1 : slotsOf (cn : Int) = cn := by unfold slotsOf; omega
      rw [e1] at ha
      exact ha
    have AB : Hid (w.heap.size ≤ w4.heap.size + 1 ∧ w.heap.size ≤ w4.heap.size) := Lib.hid (by have := B4.out.size; omega)
    have B5 := Lib.hid (below_then B4.out hb5 (Nat.le_refl _))
    have M5 := Lib.hid (own_still M4.out hb5)
    have A5 := Lib.hid ha
    clear ha hb5 hz5 M4 B4
    generalize w4.heap.size + 1 = ab at *
    generalize w4.heap.size = ag at *
    have hw28 : IntKind.i64.wrap (28 * (cn : Int)) = 28 * (cn : Int) := by rw [IntKind.wrap_i64]; omega
    go_wp2_with fail
    refine (new_mem_ex _ _).mono ?_
    rintro e w6 ⟨mb, mg, rfl, hm, hmb, hmg, hb6⟩
    have e1 : many (28 * (cn : Int)) = 28 * cn := by unfold many; omega
    rw [e1] at hm
    have MB : Hid (w5.heap.size ≤ mb ∧ w5.heap.size ≤ mg) := Lib.hid ⟨hmb, hmg⟩
    have B6 := Lib.hid (below_then B5.out hb6 (Nat.le_refl _))
    have M6 := Lib.hid (own_still M5.out hb6)
    have A6 := Lib.hid (A5.out.still hb6)
    have HM := Lib.hid hm
    have MLT : Hid (mb < w6.heap.size ∧ mg < w6.heap.size ∧ ab < w6.heap.size ∧ ag < w6.heap.size ∧ w.heap.size ≤ mb ∧ w.heap.size ≤ mg) := Lib.hid ⟨hm.top.lt, hm.row.lt, A6.out.top.lt, A6.out.row.lt, Nat.le_trans B5.out.size hmb, Nat.le_trans B5.out.size hmg⟩
    clear hm hmb hmg hb6 e1 A5 M5 B5
    have S0 : Hid (BornAt w w6 mb mg ab ag cn 0 (.slice none 0 0) w6) := Lib.hid ⟨A6.out, Mw.nil _ _, Only.refl _ _⟩
    go_wp2_with fail
    go_loopw [9, 10] (fun hv iv wr => ∃ i : Nat, i ≤ cn ∧ iv = .int .i64 i ∧ BornAt w w6 mb mg ab ag cn i hv wr) (fun _ iv _ => cn - (intOf iv).toNat)
    case atStart => exact ⟨0, by omega, rfl, S0.out⟩
    case round =>
      obtain ⟨i, hi, rfl, hS⟩ := hrel
      obtain ⟨HA, hcc, rfl⟩ := own_slice hS.hs
      rw [handL_len] at hS ⊢
      have S1 := Lib.hid hS
      clear hS S0
      by_cases hlt : i < cn
      · have j3 : (i : Int) < (cn : Int) := by omega
        have ln := bornTo_len (show i ≤ cn by omega)
        have BO := Lib.hid (born_yes i 1 S1.out.ar (bornTo_gens (by omega)) (by omega) (by omega) (by omega))
        have O := Lib.hid S1.out.hs
        unfold Mw at O
        rw [handL_len] at O
        have hnd : hndAt (bornAt (bornTo cn i) i) i = 65536 + ((1 : Int) + (i : Int)) := by
          rw [bornTo_step (by omega)]
          have e : (bornTo cn (i + 1)).getD i (0, false) = (1, true) := by rw [bornTo_at (by omega), if_pos (by omega)]
          unfold hndAt genAt
          rw [e]
          omega
        rw [hnd] at BO
        have i9 : (i : Int) ≤ 9 := by omega
        have SZ := Lib.hid S1.out.only.size
        clear ln hnd
        go_wp2_with fail
        refine BO.out.mono ?_
        rintro e w7 ⟨rfl, ha7, ho7⟩
        have O7 := Lib.hid (own_only O.out ho7 (fun k hk he => by have := (World.ownsRow.lt O.out k hk).1; have := MLT.out; rcases he with rfl | rfl <;> omega))
        have A7 := Lib.hid ha7
        have ON7 := Lib.hid (S1.out.only.trans ho7)
        have SZ7 := Lib.hid (Nat.le_trans SZ.out ho7.size)
        clear ha7 ho7 BO S1 O SZ
        go_wp2_with (at_builtin; refine wpList_append_lies _ rfl (.tmp 53) (.tmp 58) _ rfl w6.heap.size 2 i0 _ 1 8 Try.underlying27 hi0 hz0 hz1 hz2 rfl (by omega) _ i _ rfl (O7.out.alloc _) ⟨w7.heap.size, 0, none⟩ 1 1 [.int .i64 (65536 + ((1 : Int) + (i : Int)))] rfl rfl (World.news_of_block (cs := #[.int .i64 (65536 + ((1 : Int) + (i : Int)))]) (t := 2) (fr := (0, 0)) (heap_alloc_new w7 _)) (by simp [Value.oneCell']) (by omega) (by simp only [maxLen]; omega) (by omega) (by have := SZ7.out; simp; omega) (w7.heap.size + 1) (by simp) ?_; intro gg cap w8 hown hgrow hat hlt8)
        have NX : Hid (BornAt w w6 mb mg ab ag cn (i + 1) (.slice (some ⟨gg, 0, none⟩) (i + 1) cap) w8) := Lib.hid (by
          have on8 : Only (fun k => (Value.slice HA i hcc).ownBlock = some k) w7 w8 := ((Only.refl _ w7).alloc _).grown hgrow (fun k hk => .inl hk)
          have low : ∀ k, (Value.slice HA i hcc).ownBlock = some k → w6.heap.size ≤ k := fun k hk => (World.ownsRow.lt O7.out k hk).1
          refine ⟨?_, ?_, ?_⟩
          · have := A7.out
            rw [bornTo_step (by omega), bornTo_live (by omega)] at this
            exact this.only on8 (fun hk => by have := low _ hk; have := MLT.out; omega) (fun hk => by have := low _ hk; have := MLT.out; omega)
          · unfold Mw
            rw [← handL_step, List.length_append, handL_len, List.map_append]
            exact hown
          · exact (ON7.out.alloc _).grown hgrow (fun k hk => .inr (low k hk)))
        clear hown hgrow hat hlt8 O7 A7 ON7 SZ7
        go_wp2_with fail
        go_roundw
        case rel => exact ⟨i + 1, by omega, by go_num, NX.out⟩
        case measure => simp [intOf]; omega
      · have e : cn = i := by omega
        subst e
        have j3 : ¬ (cn : Int) < (cn : Int) := by omega
        have GV := given_hd cn
        have B7 := Lib.hid (B6.out.trans (S1.out.only.below (fun k hk => by have := AB.out; rcases hk with rfl | rfl <;> omega) B6.out.size))
        have M7 : Hid (Mes w.heap.size wr (.slice LA n lc) es) := Lib.hid (by
          have m6 : Mes w.heap.size w6 (.slice LA n lc) es := M6.out
          exact m6.only S1.out.only (fun k hk he => by
            rcases he with rfl | rfl
            · exact own_apart m6 A6.out.top (by decide) hk
            · exact own_apart m6 A6.out.row (by decide) hk))
        have Z7 : Hid (MemAt wr mb mg (List.replicate (28 * cn) 0) 0) := Lib.hid (HM.out.only S1.out.only (fun hk => mem_ar HM.out A6.out (.inl rfl) hk) (fun hk => mem_ar HM.out A6.out (.inr rfl) hk))
        have A7 := Lib.hid S1.out.ar
        have H7 := Lib.hid S1.out.hs
        have SZ67 := Lib.hid S1.out.only.size
        have HWD : Hid (Wds wr (.slice HA cn hcc) (handL 1 cn)) := Lib.hid (Mw.wds S1.out.hs)
        have OK : Hid (TreeOk es (handL 1 cn)) := Lib.hid ⟨HF.out, by rw [handL_len, CN.out], GV.1⟩
        have CT := Lib.hid (tree18_c (Mes.ens M7.out) HWD.out (by rw [HLEN.out]; omega) (by rw [handL_len]; omega))
        have TN : Hid (treeN es (nth (handL 1 cn)) = treeN es hdZ) := Lib.hid (tree_hd es (fun i hi => by
          rw [GV.2]
          have : i < cn := by
            have h2 := CN.out
            unfold cntN at h2
            split at h2 <;> omega
          show (if i < cn then hdZ i else 0) = hdZ i
          rw [if_pos this]))
        clear S1 M6 HM B6 HWD GV
        go_wp2_with fail
        refine CT.out.mono ?_
        intro e w8 ht
        obtain ⟨tv, ps, rfl, hps, hpn, _, hb8⟩ := ht.2 OK.out
        rw [TN.out] at hpn
        have hpl : ps.length = cn := by
          have := congrArg List.length hpn
          rw [List.length_map, treeN_len, CN.out] at this
          exact this
        obtain ⟨PA, pcap, rfl⟩ := own_slice hps.1
        rw [hpl] at hps ⊢
        have o8 := hps.1
        rw [hpl] at o8
        obtain ⟨g, rfl, _, _⟩ := own_form o8 (by omega)
        have P8 := Lib.hid hps
        have PN := Lib.hid hpn
        have PL := Lib.hid hpl
        have B8 := Lib.hid (below_then B7.out hb8 (Nat.le_refl _))
        have M8 := Lib.hid (own_still M7.out hb8)
        have Z8 := Lib.hid (Z7.out.only (Only.of_below hb8 (fun _ => False)) id id)
        have A8 := Lib.hid (A7.out.still hb8)
        have H8 := Lib.hid (own_still H7.out hb8)
        have SZ68 := Lib.hid (Nat.le_trans SZ67.out hb8.size)
        have SZ78 := Lib.hid SZ67.out
        clear ht hps hpn hpl o8 hb8 CT OK TN Z7 A7 H7 M7 B7
        have q0 : ((cn : Int) != (cn : Int)) = false := bne_self_eq_false _
        have q1 : ((cn : Int) == 0) = false := beq_eq_false_iff_ne.2 (by omega)
        obtain ⟨b8, hb8e⟩ : ∃ b, wr.heap.size = b := ⟨_, rfl⟩
        rw [hb8e] at P8 SZ78
        clear hb8e SZ67
        have L28 := Lib.hid (lsZ_28 HF.out)
        have LFT := Lib.hid (lsZ_fits HF.out HH.out)
        have LLN : Hid ((lsZ es).length = cn) := Lib.hid (by rw [lsZ_len, CN.out])
        have FLN : Hid ((lsZ es).flatten.length = 28 * cn) := Lib.hid (by rw [flat_len L28.out, LLN.out])
        have NODE : Hid (∀ i, i < cn → NdF (pdAt ps i).n ∧ ∀ k, k < 28 → nth (lsZ es).flatten (28 * i + k) = nth (packN (pdAt ps i).n) k) := Lib.hid (fun i hi => by
          have e : (treeN es hdZ)[i]? = some (pdAt ps i).n := by
            rw [← PN.out, List.getElem?_map, List.getElem?_eq_getElem (by rw [PL.out]; exact hi)]
            unfold pdAt
            rw [List.getD_eq_getElem?_getD, List.getElem?_eq_getElem (by rw [PL.out]; exact hi)]
            rfl
          refine ⟨tree_form HF.out _ (List.mem_of_getElem? e), fun k hk => ?_⟩
          rw [nth_flat L28.out i k (by rw [LLN.out]; exact hi) hk, lsZ_at e])
        have Z0 : Hid (MemAt w8 mb mg (fillZ (lsZ es).flatten (28 * 0)) ((28 * 0 : Nat) : Int)) := Lib.hid (by
          rw [Nat.mul_zero, fillZ_zero, FLN.out]
          exact Z8.out)
        have ZA : Hid (∀ k, CTwo mb mg k → ¬ ArTwo ab ag k) := Lib.hid (fun k h1 h2 => mem_ar Z8.out A8.out h1 h2)
        have ML : Hid (∀ k, (Value.slice LA n lc).ownBlock = some k → ¬ CTwo mb mg k) := Lib.hid (fun k hk he => by
          rcases he with rfl | rfl
          · exact own_apart M8.out Z8.out.top (by decide) hk
          · exact own_apart M8.out Z8.out.row (by decide) hk)
        clear Z8
        generalize hfl : (lsZ es).flatten = flat at *
        have HFL := Lib.hid hfl
        clear hfl
        go_wp2_with fail
        go_loopw [12, 13, 14] (fun iv _ _ wr => ∃ i : Nat, i ≤ cn ∧ iv = .int .i64 i ∧ MemAt wr mb mg (fillZ flat (28 * i)) ((28 * i : Nat) : Int) ∧ Only (CTwo mb mg) w8 wr) (fun iv _ _ _ => cn - (intOf iv).toNat)
        case atStart => exact ⟨0, by omega, rfl, Z0.out, Only.refl _ _⟩
        case round =>
          obtain ⟨i, hi, rfl, hZ, hO⟩ := hrel
          by_cases hlt : i < cn
          · have j4 : (i : Int) < (cn : Int) := by omega
            have i9 : (i : Int) ≤ 9 := by omega
            have PP := pls_only P8.out hO (fun k hk he => by have := MLT.out; have := SZ78.out; rcases he with rfl | rfl <;> omega)
            obtain ⟨Bx, By, Bz, cx, cy, cz, hseen⟩ := pd_seen PP PL.out hlt
            obtain ⟨nf, NW⟩ := NODE.out i hlt
            have SEEN := Lib.hid hseen
            have HNW := Lib.hid NW
            have HZ := Lib.hid hZ
            have HO := Lib.hid hO
            have CF := Lib.hid (refFormedN_c hseen.here (r := true) ⟨fun _ => nf, fun _ => rfl⟩)
            have CP := Lib.hid (fun (W : World) (hW : Below wr.heap.size wr W) => refPackQ_c (hseen.here.still hW) nf.cnt)
            have PKL := Lib.hid (pack_len nf.cnt)
            obtain ⟨d1, d2, d3, d4, d5⟩ := hseen.cells wr (Below.refl _ _)
            clear hseen PP NW nf hZ hO Z0
            generalize packN (pdAt ps i).n = pk at *
            generalize (pdAt ps i).n = nd at *
            obtain ⟨inner, lo, ends, slots, gaps⟩ := nd
            simp only [Nd.val] at *
            go_wp2_with fail
            refine CF.out.mono ?_
            rintro e w9 ⟨rfl, hb9⟩
            obtain ⟨d1, d2, d3, d4, d5⟩ := SEEN.out.cells w9 hb9
            have CP9 := Lib.hid (CP.out w9 hb9)
            have HB9 := Lib.hid hb9
            clear hb9 CF CP SEEN
            go_wp2_with fail
            refine CP9.out.mono ?_
            rintro e w10 ⟨q, rfl, hq, hqw, hb10⟩
            have BB := Lib.hid (below_then HB9.out hb10 (Nat.le_refl _))
            have PW := Lib.hid hq
            have ZB := Lib.hid (HZ.out.only (Only.of_below BB.out (fun _ => False)) id id)
            have OB := Lib.hid (HO.out.trans (Only.of_below BB.out _))
            have QN : Hid (¬ CTwo mb mg q) := Lib.hid (by
              have h1 := MLT.out
              have h2 := SZ68.out
              have h3 := HO.out.size
              have h4 := HB9.out.size
              rintro (rfl | rfl) <;> omega)
            clear hq hqw hb10 CP9 HB9 BB HZ HO d1 d2 d3 d4 d5
            go_wp2_with fail
            go_loopw [14] (fun kv wk => ∃ k : Nat, k ≤ 28 ∧ kv = .int .i64 k ∧ MemAt wk mb mg (fillZ flat (28 * i + k)) ((28 * i + k : Nat) : Int) ∧ Only (CTwo mb mg) w10 wk) (fun kv _ => 28 - (intOf kv).toNat)
            case atStart => exact ⟨0, by omega, rfl, ZB.out, Only.refl _ _⟩
            case round =>
              obtain ⟨k, hk, rfl, hZ, hO⟩ := hrel
              have HZ := Lib.hid hZ
              have HO := Lib.hid hO
              clear hZ hO
              by_cases hk28 : k < 28
              · have j5 : (k : Int) < 28 := by omega
                have r3 : wr.cell? ⟨q, k, none⟩ = some (.int .i64 (nth pk k)) := by
                  rw [(PW.out.only HO.out QN.out).cell k, nums_at pk k (by rw [PKL.out]; exact hk28)]
                have hw1 : IntKind.i64.wrap (28 * (i : Int)) = 28 * (i : Int) := by rw [IntKind.wrap_i64]; omega
                have hw2 : IntKind.i64.wrap (28 * (i : Int) + (k : Int)) = 28 * (i : Int) + (k : Int) := by rw [IntKind.wrap_i64]; omega
                have hcl : 28 * i + k < flat.length := by rw [FLN.out]; omega
                have fl := fillZ_len flat (c := 28 * i + k) (by omega)
                have ST := Lib.hid (store_in (28 * (i : Int) + (k : Int)) (nth pk k) HZ.out (by omega) (by rw [fl]; omega) (by omega))
                rw [show (28 * (i : Int) + (k : Int)).toNat = 28 * i + k by omega] at ST
                clear fl
                go_wp2_with fail
                refine ST.out.mono ?_
                rintro e w11 ⟨rfl, hm11, ho11⟩
                rw [← HNW.out k hk28, fillZ_step _ hcl] at hm11
                have NZ : Hid (MemAt w11 mb mg (fillZ flat (28 * i + (k + 1))) ((28 * i + (k + 1) : Nat) : Int)) := Lib.hid (by
                  rw [show ((28 * i + (k + 1) : Nat) : Int) = ((28 * i + k : Nat) : Int) + 1 by omega]
                  exact hm11)
                have NO := Lib.hid (HO.out.trans ho11)
                clear hm11 ho11 ST HZ HO r3 hw1 hw2 hcl
                go_wp2_with fail
                go_roundw
                case rel => exact ⟨k + 1, by omega, by go_num, NZ.out, NO.out⟩
                case measure => simp [intOf]; omega
              · have e : k = 28 := by omega
                subst e
                have NZ : Hid (MemAt wr mb mg (fillZ flat (28 * (i + 1))) ((28 * (i + 1) : Nat) : Int)) := Lib.hid (by rw [show 28 * (i + 1) = 28 * i + 28 by omega]; exact HZ.out)
                have NO := Lib.hid (OB.out.trans HO.out)
                clear HZ HO OB ZB PW QN HNW PKL
                go_wp2_with fail
                go_roundw
                case rel => exact ⟨i + 1, by omega, by go_num, NZ.out, NO.out⟩
                case measure => simp [intOf]; omega
          · have e : cn = i := by omega
            subst e
            have j4 : ¬ (cn : Int) < (cn : Int) := by omega
            have ZW : Hid (MemAt wr mb mg (zM (lsZ es) ((28 * cn : Nat) : Int)).cs (zM (lsZ es) ((28 * cn : Nat) : Int)).cnt) := Lib.hid (by
              show MemAt wr mb mg (lsZ es).flatten _
              rw [HFL.out]
              have e := fillZ_all flat
              rw [FLN.out] at e
              rw [e] at hZ
              exact hZ)
            have AW := Lib.hid (A8.out.only hO (fun hk => ZA.out _ hk (.inl rfl)) (fun hk => ZA.out _ hk (.inr rfl)))
            have MW : Hid (Mes w.heap.size wr (.slice LA n lc) es) := Lib.hid (own_only M8.out hO ML.out)
            have HWW : Hid (Mw w6.heap.size wr (.slice HA cn hcc) (handL 1 cn)) := Lib.hid (own_only H8.out hO (fun k hk he => by
              have := (World.ownsRow.lt H8.out k hk).1
              have := MLT.out
              rcases he with rfl | rfl <;> omega))
            have BW := Lib.hid (B8.out.trans (hO.below (fun k hk => by have := MLT.out; rcases hk with rfl | rfl <;> omega) B8.out.size))
            have SZW := Lib.hid (Nat.le_trans SZ68.out hO.size)
            have LAB : Hid (∀ k, (Value.slice LA n lc).ownBlock = some k → ¬ (CTwo mb mg k ∨ ArTwo ab ag k)) := Lib.hid (fun k hk he => by
              rcases he with he | he
              · exact ML.out k hk he
              · rcases he with rfl | rfl
                · exact own_apart MW.out AW.out.top (by decide) hk
                · exact own_apart MW.out AW.out.row (by decide) hk)
            clear hZ hO A8 M8 H8 P8 B8 SZ68 SZ78 NODE FLN HFL ZA ML PN PL Z0
            obtain ⟨lb0, rfl, _, _⟩ := own_form (A := LA) (n := n) (c := lc) (by have := MW.out; unfold Mes at this; rw [HLEN.out] at this; exact this) (by omega)
            obtain ⟨hh0, rfl, _, _⟩ := own_form (A := HA) (n := cn) (c := hcc) (by have := HWW.out; unfold Mw at this; rw [handL_len] at this; exact this) (by omega)
            have LC : Hid (∀ W, Mes w.heap.size W (.slice (some ⟨lb0, 0, none⟩) n lc) es → ∀ i, i < n → W.cell? ⟨lb0, i * 3, none⟩ = some (.int .i64 (enAt es i).lo) ∧ W.cell? ⟨lb0, i * 3 + 1, none⟩ = some (.int .i64 (enAt es i).hi) ∧ W.cell? ⟨lb0, i * 3 + 2, none⟩ = some (.int .i64 (enAt es i).h)) := Lib.hid (fun W hW i hi => by
              obtain ⟨g, c, e, a, b, c⟩ := hW.at i (by rw [HLEN.out]; exact hi)
              injection e with e
              injection e with e
              injection e with e1 e2
              subst e1
              exact ⟨a, b, c⟩)
            have hch := formed_chain HF.out
            obtain ⟨nl, hnl⟩ : ∃ nl, n = nl + 1 := ⟨n - 1, by omega⟩
            have o0 := hch.one 0 (by rw [HLEN.out]; omega)
            have oN := hch.one nl (by rw [HLEN.out]; omega)
            have up := hch.up (Nat.zero_le nl) (by rw [HLEN.out]; omega)
            rw [HFI.out] at up
            have cE := (LC.out wr MW.out nl (by omega)).2.1
            obtain ⟨E, hE⟩ : ∃ E, (enAt es nl).hi = E := ⟨_, rfl⟩
            have hE1 : 65536 < E ∧ E ≤ 2097152 := by rw [← hE]; omega
            rw [hE] at cE
            have HE := Lib.hid hE
            clear hch o0 oN up hE
            have hX : IntKind.i64.wrap (E - 65536) = E - 65536 := by rw [IntKind.wrap_i64]; omega
            obtain ⟨X, hXe⟩ : ∃ X, E - 65536 = X := ⟨_, rfl⟩
            rw [hXe] at hX
            have hX1 : 0 < X ∧ X ≤ 2031616 := by omega
            have hY1 : 0 ≤ X * at_ ∧ X * at_ ≤ X * 65535 := ⟨Int.mul_nonneg (by omega) ha0, Int.mul_le_mul_of_nonneg_left ha1 (by omega)⟩
            have hY : IntKind.i64.wrap (X * at_) = X * at_ := by rw [IntKind.wrap_i64]; omega
            obtain ⟨Y, hYe⟩ : ∃ Y, X * at_ = Y := ⟨_, rfl⟩
            rw [hYe] at hY hY1
            have hZ1 : Y.tdiv 65536 = Y / 65536 := Int.tdiv_eq_ediv_of_nonneg hY1.1
            have hZ2 : 0 ≤ Y / 65536 ∧ Y / 65536 < X := by omega
            obtain ⟨Z, hZe⟩ : ∃ Z, Y / 65536 = Z := ⟨_, rfl⟩
            rw [hZe] at hZ1 hZ2
            have hA : IntKind.i64.wrap (65536 + Z) = 65536 + Z := by rw [IntKind.wrap_i64]; omega
            obtain ⟨addr, had⟩ : ∃ a, 65536 + Z = a := ⟨_, rfl⟩
            rw [had] at hA
            have HAD : Hid (65536 ≤ addr ∧ addr < E) := Lib.hid (by omega)
            have hwn : IntKind.i64.wrap ((n : Int) - 1) = (nl : Int) := by rw [IntKind.wrap_i64]; omega
            have jn : (nl : Int) < (n : Int) := by omega
            have hat : IntKind.i64.wrap at_ = at_ := by rw [IntKind.wrap_i64]; omega
            have EW : Hid (E - 65536 = X ∧ X * at_ = Y ∧ 65536 + Z = addr) := Lib.hid ⟨hXe, hYe, had⟩
            have hv : wrap64 (65536 + wrap64 ((wrap64 ((E - 65536) * at_)).tdiv 65536)) = addr := by
              have w1 : ∀ x : Int, -9223372036854775808 ≤ x → x ≤ 9223372036854775807 → wrap64 x = x := fun x h1 h2 => by
                unfold wrap64
                omega
              rw [hXe, hYe, w1 Y (by omega) (by omega), hZ1, w1 Z (by omega) (by omega), had, w1 addr (by omega) (by omega)]
            have HNL := Lib.hid hnl
            clear hXe hYe hZe had hnl hY1 hZ2 hX hY hZ1 hA EW
            go_upto_region 28 with (fail)
            rw [hv]
            clear hv
            have PH := Lib.hid (Whole.new wr 2 #[.int .i64 (-1)])
            have B12 := Lib.hid (below_new wr (.cells #[.int .i64 (-1)] 2))
            go_upto_region 29 with (fail)
            obtain ⟨w13, hw13⟩ : ∃ W, wr.alloc (.cells #[.int .i64 (-1)] 2) = W := ⟨_, rfl⟩
            obtain ⟨hb, hhb⟩ : ∃ q, wr.heap.size = q := ⟨_, rfl⟩
            rw [hw13] at PH B12 ⊢
            rw [hhb] at PH ⊢
            have PLB := Lib.hid (Whole.new w13 25 #[.slice none 0 0])
            have B13 := Lib.hid (below_new w13 (.cells #[.slice none 0 0] 25))
            go_upto_region 30 with (fail)
            obtain ⟨w14, hw14⟩ : ∃ W, w13.alloc (.cells #[.slice none 0 0] 25) = W := ⟨_, rfl⟩
            obtain ⟨lb, hlb⟩ : ∃ q, w13.heap.size = q := ⟨_, rfl⟩
            rw [hw14] at PLB B13 ⊢
            rw [hlb] at PLB ⊢
            have PH14 := Lib.hid (PH.out.below B13.out PH.out.lt)
            have BX := Lib.hid (below_then B12.out B13.out (Nat.le_refl _))
            have Z14 := Lib.hid (ZW.out.only (Only.of_below BX.out (fun _ => False)) id id)
            have A14 : Hid (ArAt w14 ab ag (wiZ cn false).fst (wiZ cn false).l (wiZ cn false).st (wiZ cn false).db) := Lib.hid (AW.out.still BX.out)
            have M14 : Hid (Mes w.heap.size w14 (.slice (some ⟨lb0, 0, none⟩) n lc) es) := Lib.hid (own_still MW.out BX.out)
            have H14 : Hid (Mw w6.heap.size w14 (.slice (some ⟨hh0, 0, none⟩) cn hcc) (handL 1 cn)) := Lib.hid (own_still HWW.out BX.out)
            have B14 := Lib.hid (below_then BW.out BX.out (Nat.le_refl _))
            have HBL : Hid (wr.heap.size = hb ∧ wr.heap.size ≤ lb ∧ hb < w14.heap.size ∧ lb < w14.heap.size ∧ w6.heap.size ≤ wr.heap.size ∧ lb0 < wr.heap.size ∧ hh0 < wr.heap.size ∧ w6.heap.size ≤ hh0) := Lib.hid (by
              have h1 := B12.out.size
              have h2 := (World.ownsRow.lt MW.out lb0 rfl).2
              have h3 := World.ownsRow.lt HWW.out hh0 rfl
              exact ⟨hhb, by omega, PH14.out.lt, PLB.out.lt, SZW.out, h2, h3.2, h3.1⟩)
            have BWS := Lib.hid BW.out.size
            have LAB2 : Hid (¬ (CTwo mb mg lb0 ∨ ArTwo ab ag lb0)) := Lib.hid (LAB.out lb0 rfl)
            clear hw13 hw14 hhb hlb PH B12 B13 BX ZW AW MW HWW BW SZW LAB
            -- what the finder comes to
            obtain ⟨gE, hgE, ge0, ge1⟩ : ∃ g, g < es.length ∧ (enAt es g).lo ≤ addr ∧ addr < (enAt es g).hi := chain_has (formed_chain HF.out) (by rw [HLEN.out]; exact n1) (by rw [HFI.out]; exact HAD.out.1) (by
              have e : es.length - 1 = nl := by have := HNL.out; rw [HLEN.out]; omega
              rw [e, HE.out]; exact HAD.out.2)
            obtain ⟨an1, an2, an3⟩ := z_ans HF.out hgE ge0 ge1 ((28 * cn : Nat) : Int)
            have tch := z_touch HF.out addr ((28 * cn : Nat) : Int)
            have HANS : Hid (∀ i, i < n → (enAt es i).lo ≤ addr → addr < (enAt es i).hi → (enAt es gE).h = (enAt es i).h) := Lib.hid (fun i hi a b => by
              have h1 := z_find HF.out hgE ge0 ge1
              have h2 := z_find HF.out (by rw [HLEN.out]; exact hi) a b
              rw [h1] at h2
              injection h2 with h2)
            have ROOT : Hid (rootZ es = 65536 + ((1 : Int) + ((cn - 1 : Nat) : Int)) ∧ rootZ es ≤ 9223372036854775807) := Lib.hid (by
              unfold rootZ hdZ
              rw [CN.out]
              omega)
            have LST := Lib.hid (by
              have := lsZ_fits HF.out HH.out
              exact z_fits L28.out this ((28 * cn : Nat) : Int))
            rw [LLN.out] at an1 an2 an3 tch
            have BR := Lib.hid (fun tb => brun_c (b := mb) (g := mg) (tb := tb) (ab := ab) (ag := ag) (hb := hb) (lb := lb) (base := tb + 1) (N := 0) (x := wiZ cn false) (rootZ es) addr ROOT.out.2 rfl)
            rw [z_cells] at BR
            obtain ⟨p, hp⟩ : ∃ p, bkRs (fun h => cellOf 0 cn h) (rootZ es) addr = p := ⟨_, rfl⟩
            rw [hp] at an1 an2 an3 tch BR
            have ANS := Lib.hid an1
            have TCH := Lib.hid tch
            clear hp an1 tch hgE ge0 ge1 HAD HE LFT L28 LLN
            have WOK := Lib.hid (wiZ_ok cn false)
            obtain ⟨mm, hmm⟩ : ∃ m, zM (lsZ es) ((28 * cn : Nat) : Int) = m := ⟨_, rfl⟩
            have MC : Hid (mm.cnt = ((28 * cn : Nat) : Int)) := Lib.hid (by rw [← hmm]; rfl)
            rw [hmm] at Z14 an2 an3 ANS TCH LST
            clear hmm
            obtain ⟨N, hN⟩ : ∃ N, (p.reads mm).length = N := ⟨_, rfl⟩
            rw [hN] at an2 an3
            have HN := Lib.hid hN
            clear hN
            have C := Lib.hid (new_trail_ex Z14.out)
            go_wp2_with fail
            refine C.out.mono ?_
            rintro e w15 ⟨tb, rfl, hs, htb, hb15⟩
            have NW : Hid (∀ k, HbLb hb lb k → ¬ WAll mb mg tb ab ag (.slice none 0 0) (.slice none 0 0) k) := Lib.hid (fun k hk ha => by
              have h1 := HBL.out
              have h2 := MLT.out
              have e : hb < tb ∧ lb < tb := by omega
              have k6 : w6.heap.size ≤ k := by rcases hk with rfl | rfl <;> omega
              have kt : k < tb := by rcases hk with rfl | rfl <;> omega
              rcases ha with (h | h | h | h | h) | h | h
              · omega
              · omega
              · omega
              · simp [Value.ownBlock] at h
              · simp [Value.ownBlock] at h
              · omega
              · omega)
            have SO : Hid (∃ (k : Nat) (T : Tr) (tv mv : Value), k ≤ N ∧ (Value.int .i64 0) = .int .i64 k ∧ SLay w14 mb mg tb ab ag (HbLb hb lb) (BLay (tb + 1) hb lb) (p.after some mm (wiZ cn false) none k) T tv mv w15) := Lib.hid ⟨0, _, _, _, by omega, rfl,
              SLay.fresh p (by rw [HN.out]; exact an2) ⟨hs, A14.out.still hb15⟩ (Only.of_below hb15 _) htb (fun k hk => by
                have h1 := HBL.out
                have := hb15.size
                rcases hk with rfl | rfl <;> omega) ⟨PH14.out.below hb15 PH14.out.lt, PLB.out.below hb15 PLB.out.lt⟩ NW.out⟩
            have HTB : Hid (hb < tb ∧ lb < tb) := Lib.hid (by have h1 := HBL.out; omega)
            have KP : Hid (Keeps tb (BLay (tb + 1) hb lb)) := Lib.hid (blay_keeps (by have := HTB.out; omega) (by have := HTB.out; omega) (by omega))
            have BRT := Lib.hid (BR.out tb)
            clear hs htb hb15 C BR NW
            obtain ⟨cl, hcl⟩ : ∃ cl, cn = cl + 1 := ⟨cn - 1, by omega⟩
            have hwc : IntKind.i64.wrap ((cn : Int) - 1) = (cl : Int) := by rw [IntKind.wrap_i64]; omega
            have jcl : (cl : Int) < (cn : Int) := by omega
            have HCL := Lib.hid hcl
            clear hcl
            have ST14 : Hid (∀ W, Only (fun k => CTwo mb mg k ∨ ArTwo ab ag k ∨ HbLb hb lb k) w14 W → Mes w.heap.size W (.slice (some ⟨lb0, 0, none⟩) n lc) es ∧ W.cell? ⟨hh0, cl, none⟩ = some (.int .i64 (rootZ es))) := Lib.hid (fun W hW => by
              have h1 := HBL.out
              have h2 := MLT.out
              refine ⟨own_only M14.out hW (fun k hk he => ?_), ?_⟩
              · have e : lb0 = k := by simpa [Value.ownBlock] using hk
                subst e
                rcases he with he | he | he
                · exact LAB2.out (.inl he)
                · exact LAB2.out (.inr he)
                · rcases he with rfl | rfl <;> omega
              · have hm := own_only H14.out hW (fun k hk he => by
                  have e : hh0 = k := by simpa [Value.ownBlock] using hk
                  subst e
                  rcases he with he | he | he
                  · rcases he with rfl | rfl <;> omega
                  · rcases he with rfl | rfl <;> omega
                  · rcases he with rfl | rfl <;> omega)
                have hcl := HCL.out
                have hi := own_int (l := handL 1 cn) (by rw [handL_len] at hm ⊢; exact hm) cl (by rw [handL_len]; omega)
                rw [hi, handL_at (by omega), ROOT.out.1]
                congr 2
                omega)
            clear M14 H14 LAB2 PH14 PLB
            go_wp2_with fail
            go_loopw [19] (fun iv wr => ∃ (k : Nat) (T : Tr) (tv mv : Value), k ≤ N ∧ iv = .int .i64 k ∧ SLay w14 mb mg tb ab ag (HbLb hb lb) (BLay (tb + 1) hb lb) (p.after some mm (wiZ cn false) none k) T tv mv wr) (fun iv _ => 600 - (intOf iv).toNat)
            case atStart => exact SO.out
            case round =>
              obtain ⟨k, T, tv, mv, hk, rfl, hL⟩ := hrel
              have S1 := Lib.hid hL
              have OV := Lib.hid (overs hL.st.st)
              rw [hL.over] at OV
              obtain ⟨ml, c0⟩ := ST14.out wr hL.only
              have ML := Lib.hid ml
              clear hL SO ml
              by_cases hlt : k < N
              · have SP := Lib.hid (alone_steps (F := 33) (first := #[finderV ab (rootZ es) addr hb lb]) k KP.out BRT.out (fun _ => rfl) (by rw [HN.out]; exact hlt) (by rw [HN.out]; omega) (by rw [MC.out]; omega) WOK.out LST.out S1.out)
                have ov : (p.after some mm (wiZ cn false) none k).over = false := by simp only [Sk.after]; exact decide_eq_false (by rw [HN.out]; omega)
                rw [ov] at OV
                rw [HN.out] at SP
                unfold finderV at SP
                have k600 : (k : Int) < 600 := by omega
                clear S1 ov ML
                go_wp2_with fail
                refine OV.out.mono ?_
                rintro e w16 ⟨rfl, rfl⟩
                clear OV
                go_wp2_with fail
                refine SP.out.mono ?_
                rintro e w17 ⟨T', tv', mv', rfl, hS'⟩
                have S2 := Lib.hid hS'
                clear hS' SP c0
                go_wp2_with fail
                go_roundw
                case rel => exact ⟨k + 1, _, _, _, by omega, by go_num, S2.out⟩
                case measure => simp [intOf]; omega
              · have e : N = k := by omega
                subst e
                have ov : (p.after some mm (wiZ cn false) none N).over = true := by simp only [Sk.after]; exact decide_eq_true HN.out.symm
                rw [ov] at OV
                have hcell := S1.out.cell
                have hv : (p.after some mm (wiZ cn false) none N).v = some (p.ans mm) := by
                  simp only [Sk.after]
                  rw [if_pos HN.out.symm]
                rw [hv, ANS.out] at hcell
                obtain ⟨ev, ch, cl', cm⟩ := hcell
                obtain ⟨EA, ec, rfl⟩ := own_slice cm
                have AZ := S1.out.st.ar
                have ex : (p.after some mm (wiZ cn false) none N).x = wiZ cn false := by
                  simp only [Sk.after]
                  exact evsW_right _ (fun q hq => by
                    obtain ⟨i, hi, e⟩ := TCH.out q (List.mem_of_mem_take hq)
                    rw [e]
                    exact wiZ_right false i hi)
                rw [ex] at AZ
                have y2 : wr.cell? ⟨ab, 2, none⟩ = some (.bool false) := AZ.top.cell 2
                have BE := Lib.hid (B14.out.trans (S1.out.only.below (fun k hk => by
                  have h1 := HBL.out
                  have h2 := MLT.out
                  have h3 := AB.out
                  have h4 := BWS.out
                  rcases hk with (rfl | rfl) | (rfl | rfl) | (rfl | rfl) <;> omega) B14.out.size))
                obtain ⟨e0, rfl, _, _⟩ := own_form (A := EA) (n := es.length) (c := ec) (by unfold Mes at cm; exact cm) (by rw [HLEN.out]; exact n1)
                rw [HLEN.out] at cl' cm
                have EVB : Hid (∀ W, Below wr.heap.size wr W → W.cell? ⟨hb, 0, none⟩ = some (.int .i64 (enAt es gE).h) ∧ W.cell? ⟨lb, 0, none⟩ = some (.slice (some ⟨e0, 0, none⟩) n ec) ∧ ∀ i, i < n → (W.cell? ⟨e0, i * 3, none⟩ = some (.int .i64 (enAt es i).lo) ∧ W.cell? ⟨e0, i * 3 + 1, none⟩ = some (.int .i64 (enAt es i).hi) ∧ W.cell? ⟨e0, i * 3 + 2, none⟩ = some (.int .i64 (enAt es i).h)) ∧ (W.cell? ⟨lb0, i * 3, none⟩ = some (.int .i64 (enAt es i).lo) ∧ W.cell? ⟨lb0, i * 3 + 1, none⟩ = some (.int .i64 (enAt es i).hi) ∧ W.cell? ⟨lb0, i * 3 + 2, none⟩ = some (.int .i64 (enAt es i).h))) := Lib.hid (fun W hW => by
                  refine ⟨(ch.below hW ch.lt).cell 0, (cl'.below hW cl'.lt).cell 0, fun i hi => ⟨?_, ?_⟩⟩
                  · have cw : Mes (tb + 1) W (.slice (some ⟨e0, 0, none⟩) n ec) es := own_still cm hW
                    obtain ⟨g, c, e, a, b, c⟩ := cw.at i (by rw [HLEN.out]; exact hi)
                    injection e with e
                    injection e with e
                    injection e with e1 e2
                    subst e1
                    exact ⟨a, b, c⟩
                  · have cw : Mes w.heap.size W (.slice (some ⟨lb0, 0, none⟩) n lc) es := own_still ML.out hW
                    exact LC.out W cw i hi)
                have l0 : wr.cell? ⟨lb, 0, none⟩ = some (.slice (some ⟨e0, 0, none⟩) n ec) := cl'.cell 0
                have CST := Lib.hid (stale_any ab false wr y2)
                have q2 : ((n : Int) != (n : Int)) = false := bne_self_eq_false _
                clear hv ov ex AZ ch cl' cm y2 S1 ML c0 ST14 B14 A14 Z14 KP BRT TCH LST MC HN ANS LC WOK HTB
                go_wp2_with fail
                refine OV.out.mono ?_
                rintro e w16 ⟨rfl, rfl⟩
                clear OV
                go_wp2_with fail
                refine CST.out.mono ?_
                rintro e w17 ⟨rfl, rfl⟩
                clear CST l0
                go_wp2_with fail
                obtain ⟨wz, hwz⟩ : ∃ W, wr = W := ⟨_, rfl⟩
                rw [hwz] at EVB BE ⊢
                clear hwz
                go_loopw [20] (fun iv wq => ∃ i : Nat, i ≤ n ∧ iv = .int .i64 i ∧ Below wz.heap.size wz wq) (fun iv _ => n - (intOf iv).toNat)
                case atStart => exact ⟨0, by omega, rfl, Below.refl _ _⟩
                case round =>
                  obtain ⟨i, hi, rfl, hbw⟩ := hrel
                  by_cases hlt : i < n
                  · have j6 : (i : Int) < (n : Int) := by omega
                    have i60 : (i : Int) ≤ 60 := by omega
                    obtain ⟨h0, hl0, hrow⟩ := EVB.out wr hbw
                    obtain ⟨⟨x0, x1, x2⟩, ⟨y0, y1, y2⟩⟩ := hrow i hlt
                    have AN := Lib.hid (HANS.out i hlt)
                    have HBQ := Lib.hid (fun q => below_drewN hbw q)
                    clear hrow hbw EVB HANS
                    generalize (enAt es gE).h = hE at *
                    generalize enAt es i = en at *
                    obtain ⟨lo, hi', h⟩ := en
                    simp only at x0 x1 x2 y0 y1 y2 AN
                    by_cases p1 : lo ≤ addr
                    · have d1 : decide (lo ≤ addr) = true := decide_eq_true p1
                      by_cases p2 : addr < hi'
                      · have d2 : decide (addr < hi') = true := decide_eq_true p2
                        have e := AN.out p1 p2
                        subst e
                        have d3 : (hE != hE) = false := bne_self_eq_false _
                        clear AN
                        go_upto_region 40 with (fail)
                        go_quiet (fail)
                        go_wp2_with fail
                        go_roundw
                        case rel => exact ⟨i + 1, by omega, by go_num, HBQ.out _⟩
                        case measure => simp [intOf]; omega
                      · have d2 : decide (addr < hi') = false := decide_eq_false p2
                        clear AN
                        go_upto_region 40 with (fail)
                        go_quiet (fail)
                        go_wp2_with fail
                        go_roundw
                        case rel => exact ⟨i + 1, by omega, by go_num, HBQ.out _⟩
                        case measure => simp [intOf]; omega
                    · have d1 : decide (lo ≤ addr) = false := decide_eq_false p1
                      clear AN
                      go_upto_region 40 with (fail)
                      go_quiet (fail)
                      go_wp2_with fail
                      go_roundw
                      case rel => exact ⟨i + 1, by omega, by go_num, HBQ.out _⟩
                      case measure => simp [intOf]; omega
                  · have e : n = i := by omega
                    subst e
                    have j6 : ¬ (n : Int) < (n : Int) := by omega
                    have FX := Lib.hid (FIN.out _ (below_then BE.out hbw (Nat.le_refl _)))
                    clear EVB HANS BE hbw FIN
                    go_wp2_with fail
                    exact FX.out
end Go.Proofs.Ytejkhnphplpkeaa
