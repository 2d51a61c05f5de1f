/-
  Of all entries and handles the tree's nodes are the reference's, or none: the law's walk.
-/
import Derived.Test.YtejkhnphplpkeaaPkZv
import Derived.Test.YtejkhnphplpkeaaPkZu
import Derived.Test.YtejkhnphplpkeaaPkZk
import Derived.Test.YtejkhnphplpkeaaPkZi
import Derived.Test.YtejkhnphplpkeaaPkWg
import Derived.Test.YtejkhnphplpkeaaPkWe
namespace Go.Proofs.Ytejkhnphplpkeaa
open Go.ChangeShapes Go.WideShapes Go.ChangeAt Go.RowKit
set_option linter.unusedVariables false

theorem tree_formed {es : List En} {hd : Nat → Int} (hf : Formed18 es) (hh : ∀ i, i < pcs es.length → 0 < hd i) : ∀ n ∈ treeN es hd, NdF n := by
  intro n hn
  have h1 := hf.2.1
  have h64 := hf.2.2
  unfold treeN at hn
  split at hn
  · next hk =>
    have e : n = leafN es := by simpa using hn
    subst e
    have := piece_formed (formed_chain hf) h1 h64 (i := 0) (by omega)
    rwa [piece_one hk] at this
  · rcases List.mem_append.1 hn with hn | hn
    · obtain ⟨i, hi, rfl⟩ := List.mem_map.1 hn
      exact piece_formed (formed_chain hf) h1 h64 (List.mem_range.1 hi)
    · have e : n = innerN (ups es hd) := by simpa using hn
      subst e
      exact root_formed (formed_chain hf) h1 h64 hh
theorem mkL_len (ss : List Int) (bad : Int) (more : En) : (mkL ss bad more).length = ss.length := mkTo_len _ _ _ _
theorem cntI_nat (N : Nat) : ∃ c : Nat, cntI (N : Int) = (c : Int) ∧ c ≤ 9 ∧ (1 ≤ N → N ≤ 64 → c = cntN N) ∧ ((¬ (1 ≤ N ∧ N ≤ 64)) → c = 0) := by
  unfold cntI
  by_cases h : 1 ≤ N ∧ N ≤ 64
  · refine ⟨cntN N, ?_, (cnt_few h.1 h.2).2, fun _ _ => rfl, fun h' => (h' h).elim⟩
    rw [if_pos (by omega)]
    rfl
  · exact ⟨0, by rw [if_neg (by omega)]; rfl, by omega, fun h1 h2 => (h ⟨h1, h2⟩).elim, fun _ => rfl⟩
theorem given_hand (a n m : Nat) : Given ((handL a n).take m) := by
  intro i hi
  rw [List.length_take, handL_len] at hi
  have e : nth ((handL a n).take m) i = nth (handL a n) i := by
    unfold nth
    rw [List.getD_eq_getElem?_getD, List.getD_eq_getElem?_getD, List.getElem?_take, if_pos (by omega)]
  rw [e, handL_at (by omega)]
  omega
/-- What a look at the i-th nodes finds. -/
def Seen2 (w8 : World) (g u b o : Nat) (h : Int) (i : Nat) : Prop := ∃ (inner : Bool) (lo : Int) (Bx By Bz Cx Cy Cz : Option Addr) (lx ly lz mx my mz cx cy cz dx dy dz : Nat), ∀ W, Below w8.heap.size w8 W →
  (W.cell? ⟨g, i * 6, none⟩ = some (.int .i64 h) ∧ W.cell? ⟨g, i * 6 + 1, none⟩ = some (.bool inner) ∧ W.cell? ⟨g, i * 6 + 2, none⟩ = some (.int .i64 lo) ∧ W.cell? ⟨g, i * 6 + 3, none⟩ = some (.slice Bx lx cx) ∧ W.cell? ⟨g, i * 6 + 4, none⟩ = some (.slice By ly cy) ∧ W.cell? ⟨g, i * 6 + 5, none⟩ = some (.slice Bz lz cz) ∧
   W.cell? ⟨b, o + i, none⟩ = some (.int .i64 h) ∧
   W.cell? ⟨u, i * 5, none⟩ = some (.bool inner) ∧ W.cell? ⟨u, i * 5 + 1, none⟩ = some (.int .i64 lo) ∧ W.cell? ⟨u, i * 5 + 2, none⟩ = some (.slice Cx mx dx) ∧ W.cell? ⟨u, i * 5 + 3, none⟩ = some (.slice Cy my dy) ∧ W.cell? ⟨u, i * 5 + 4, none⟩ = some (.slice Cz mz dz)) ∧
  Calls Try.prog 24 #[.agg #[.bool inner, .int .i64 lo, .slice Bx lx cx, .slice By ly cy, .slice Bz lz cz], .agg #[.bool inner, .int .i64 lo, .slice Cx mx dx, .slice Cy my dy, .slice Cz mz dz]] W (fun e w' => e = .returned (.bool true) ∧ Below W.heap.size W w') ∧
  Calls Try.prog 14 #[.agg #[.bool inner, .int .i64 lo, .slice Cx mx dx, .slice Cy my dy, .slice Cz mz dz]] W (fun e w' => e = .returned (.bool true) ∧ Below W.heap.size W w')
theorem seen2 {base base' : Nat} {w8 : World} {g u b o pcap tcap i : Nat} {hs : List Int} {hcc m : Nat} {ps ts : List Pd} (hp : Pls base w8 (.slice (some ⟨g, 0, none⟩) m pcap) ps) (ht : w8.ownsRow base' 34 5 (.slice (some ⟨u, 0, none⟩) m tcap) m (nsC ts)) (hn : ∀ p ∈ ts, NdMine base' w8 p.n p.x p.y p.z) (hw : Wds w8 (.slice (some ⟨b, o, none⟩) m hcc) hs) (hm : ps.length = m) (hm' : ts.length = m) (he : ps.map Pd.n = ts.map Pd.n) (hh : ∀ i, i < ps.length → (pdAt ps i).h = nth hs i) (hF : ∀ n ∈ ps.map Pd.n, NdF n) (hi : i < m) : Seen2 w8 g u b o (nth hs i) i := by
  have e1 : (pdAt ps i).n = (pdAt ts i).n := by
    have := congrArg (fun l => l[i]?) he
    simp only [List.getElem?_map, List.getElem?_eq_getElem (show i < ps.length by omega), List.getElem?_eq_getElem (show i < ts.length by omega), Option.map_some, Option.some.injEq] at this
    unfold pdAt
    rw [List.getD_eq_getElem?_getD, List.getD_eq_getElem?_getD, List.getElem?_eq_getElem (show i < ps.length by omega), List.getElem?_eq_getElem (show i < ts.length by omega)]
    exact this
  have mp := pdAt_mem (l := ps) (i := i) (by omega)
  have mt := pdAt_mem (l := ts) (i := i) (by omega)
  have nf : NdF (pdAt ps i).n := hF _ (List.mem_map_of_mem mp)
  have n1 := hp.2 _ mp
  have n2 := hn _ mt
  have hh1 := hh i (by omega)
  have cp := fun j hj => plC_at ps i j (by omega) hj
  have ct := fun j hj => nsC_at ts i j (by omega) hj
  rw [← e1] at n2 ct
  generalize pdAt ts i = t at *
  generalize pdAt ps i = p at *
  obtain ⟨ph, ⟨inner, lo, ends, slots, gaps⟩, px, py, pz⟩ := p
  obtain ⟨th, tn, tx, ty, tz⟩ := t
  simp only at n1 n2 nf hh1 e1 ct
  obtain ⟨Bx, cx, rfl⟩ := own_slice n1.me
  obtain ⟨By, cy, rfl⟩ := own_slice n1.ms
  obtain ⟨Bz, cz, rfl⟩ := own_slice n1.mg
  obtain ⟨Cx, dx, rfl⟩ := own_slice n2.me
  obtain ⟨Cy, dy, rfl⟩ := own_slice n2.ms
  obtain ⟨Cz, dz, rfl⟩ := own_slice n2.mg
  refine ⟨inner, lo, Bx, By, Bz, Cx, Cy, Cz, ends.length, slots.length, gaps.length, ends.length, slots.length, gaps.length, cx, cy, cz, dx, dy, dz, fun W hW => ⟨?_, ?_, ?_⟩⟩
  · have rp := own_still hp.1 hW
    rw [hm] at rp
    have rt := own_still ht hW
    have k := fun j (hj : j < 6) => (rp.cellAt (i * 6 + j) (by omega)).trans (cp j hj)
    have q := fun j (hj : j < 5) => (rt.cellAt (i * 5 + j) (by omega)).trans (ct j hj)
    obtain ⟨A2, c2, e, _, h2⟩ := hw.still hW
    injection e with ea eb
    obtain ⟨b', o', e, ch⟩ := h2 (by omega)
    rw [ea.symm] at e
    injection e with e
    injection e with f1 f2
    subst f1
    subst f2
    subst hh1
    exact ⟨k 0 (by omega), k 1 (by omega), k 2 (by omega), k 3 (by omega), k 4 (by omega), k 5 (by omega), ch i (by omega), q 0 (by omega), q 1 (by omega), q 2 (by omega), q 3 (by omega), q 4 (by omega)⟩
  · have a := (n1.still hW).here
    have b := (n2.still hW).here
    have c8 := nf.cnt
    exact sameN_c a b (by have := c8.few; simp only at this ⊢; omega) (by have := c8.sl; have := c8.few; simp only at *; omega) (by have := c8.gl; have := c8.few; simp only at *; omega) ⟨fun _ => rfl, fun _ => rfl⟩
  · exact refFormedN_c (n2.still hW).here ⟨fun _ => nf, fun _ => rfl⟩
set_option maxRecDepth 10000 in
set_option maxHeartbeats 8000000 in
theorem buildTrees_any {w : World} {sv : Value} {ss : List Int} {more : En} {c0 c1 : Int} (h : Bys w sv ss) : Calls Try.prog 6 #[sv, .agg #[.int .i64 more.lo, .int .i64 more.hi, .int .i64 more.h], .agg #[.int .i64 c0, .int .i64 c1]] w fun e w' => e = .returned (.bool true) ∧ Below w.heap.size w w' := by
  have hnot : ∀ (x : Bool) (w : World), (Op.unary .not (.bool x)).run Try.prog w = .ok (.bool (!x)) w := fun _ _ => rfl
  obtain ⟨R, hR⟩ : ∃ R : Ending → World → Prop, (fun e w' => e = .returned (.bool true) ∧ Below w.heap.size w w') = R := ⟨_, rfl⟩
  rw [hR]
  have FIN : Hid (∀ W, Below w.heap.size w W → R (.returned (.bool true)) W) := Lib.hid (fun W hb => by rw [← hR]; exact ⟨rfl, hb⟩)
  clear hR
  have G := Lib.hid (Bag.two w 44 47 #[.int .i64 more.lo, .int .i64 more.hi, .int .i64 more.h] #[.int .i64 c0, .int .i64 c1])
  have HS := Lib.hid h
  obtain ⟨A, c, rfl, hc, _⟩ := h
  obtain ⟨el, eh, ea⟩ := more
  simp only at G
  by_cases h70 : 70 < ss.length
  · have j1 : (70 : Int) < (ss.length : Int) := by omega
    generalize ss.length = n at *
    go_enter Try.func6, Try.ntmps6
    go_wp2_with fail
    refine (awake18_c _).mono ?_
    rintro e w1 ⟨rfl, hb1⟩
    have B1 := Lib.hid (below_then G.out.bel hb1 (Nat.le_refl _))
    clear hb1
    go_wp2_with fail
    refine (awake18_c _).mono ?_
    rintro e w2 ⟨rfl, hb2⟩
    have FX := Lib.hid (FIN.out _ (below_then B1.out hb2 (Nat.le_refl _)))
    clear hb2 B1 G FIN
    go_wp2_with fail
    exact FX.out
  have j70 : decide ((70 : Int) < (ss.length : Int)) = false := decide_eq_false (by omega)
  have hlen := mkL_len ss c0 ⟨el, eh, ea⟩
  have CM := Lib.hid (fun (W : World) (hW : Below w.heap.size w W) => made_ens (bad := c0) (more := ⟨el, eh, ea⟩) (HS.out.still hW) (by omega))
  obtain ⟨L, hL⟩ : ∃ L, mkL ss c0 ⟨el, eh, ea⟩ = L := ⟨_, rfl⟩
  rw [hL] at hlen CM
  clear hL
  obtain ⟨cn, hcn, cn9, cnN, cn0⟩ := cntI_nat L.length
  obtain ⟨N, hN⟩ : ∃ N, ss.length = N := ⟨_, rfl⟩
  rw [hN] at hlen h70 j70 hc HS CM ⊢
  clear hN
  have HLEN := Lib.hid hlen
  rw [hlen] at hcn cnN cn0
  have C1 := Lib.hid (fun W => count18_c (w := W) (N : Int))
  have C2 := Lib.hid (fun W => refCount_c (w := W) (N : Int))
  rw [hcn] at C1 C2
  have CH : Hid (∀ W, Calls Try.prog 11 #[.int .i64 100, .int .i64 (cn : Int)] W fun e w' => ∃ v, e = .returned v ∧ Mw W.heap.size w' v (handL 100 cn) ∧ Below W.heap.size W w') := Lib.hid (fun W => handles_c 100 cn (by omega) (by omega) W)
  have CNN := Lib.hid cnN
  clear hlen hcn HS cnN cn0
  go_enter Try.func6, Try.ntmps6
  go_wp2_with fail
  refine (awake18_c _).mono ?_
  rintro e w1 ⟨rfl, hb1⟩
  have B1 := Lib.hid (below_then G.out.bel hb1 (Nat.le_refl _))
  have K2 := Lib.hid (G.out.v0.below hb1 G.out.v0.lt)
  have K1 := Lib.hid (G.out.v1.below hb1 G.out.v1.lt)
  have a0 : w1.cell? ⟨w.heap.size, 0, none⟩ = some (.int .i64 el) := K1.out.cell 0
  have a1 : w1.cell? ⟨w.heap.size, 1, none⟩ = some (.int .i64 eh) := K1.out.cell 1
  have a2 : w1.cell? ⟨w.heap.size, 2, none⟩ = some (.int .i64 ea) := K1.out.cell 2
  have b0 : w1.cell? ⟨w.heap.size + 1, 0, none⟩ = some (.int .i64 c0) := K2.out.cell 0
  have b1 : w1.cell? ⟨w.heap.size + 1, 1, none⟩ = some (.int .i64 c1) := K2.out.cell 1
  clear hb1 G
  go_wp2_with fail
  refine (CM.out w1 B1.out).mono ?_
  rintro e w2 ⟨lv, rfl, hmes, hb2⟩
  obtain ⟨LA, lc, rfl⟩ := own_slice hmes
  have M2 := Lib.hid hmes
  rw [HLEN.out] at M2 ⊢
  have B2 := Lib.hid (below_then B1.out hb2 (Nat.le_refl _))
  have K4 := Lib.hid (K2.out.below hb2 K2.out.lt)
  clear hmes hb2 K1 a0 a1 a2 b0 b1 B1 K2 CM
  go_wp2_with fail
  refine (C1.out w2).mono ?_
  rintro e w3 ⟨rfl, hb3⟩
  have B3 := Lib.hid (below_then B2.out hb3 (Nat.le_refl _))
  have M3 := Lib.hid (own_still M2.out hb3)
  have K5 := Lib.hid (K4.out.below hb3 K4.out.lt)
  clear hb3 B2 M2 K4 C1
  go_wp2_with fail
  refine (CH.out w3).mono ?_
  rintro e w4 ⟨hv, rfl, hmw, hb4⟩
  obtain ⟨HA, hcc, rfl⟩ := own_slice hmw
  have B4 := Lib.hid (below_then B3.out hb4 (Nat.le_refl _))
  have M4 : Hid (Ens w4 (.slice LA N lc) L) := Lib.hid (Mes.ens (own_still M3.out hb4))
  have K6 := Lib.hid (K5.out.below hb4 K5.out.lt)
  have H4 := Lib.hid hmw.wds
  rw [handL_len] at H4 ⊢
  have b1 : w4.cell? ⟨w.heap.size + 1, 1, none⟩ = some (.int .i64 c1) := K6.out.cell 1
  clear hmw hb4 B3 M3 K5 CH
  go_upto_region 6 with (fail)
  have hway : ∃ m : Nat, m ≤ cn ∧ ((0 ≤ c1 ∧ c1 < (cn : Int) ∧ c1 = (m : Int)) ∨ (¬ (0 ≤ c1) ∧ m = cn) ∨ (0 ≤ c1 ∧ ¬ c1 < (cn : Int) ∧ m = cn)) := by
    by_cases h1 : 0 ≤ c1
    · by_cases h2 : c1 < (cn : Int)
      · exact ⟨c1.toNat, by omega, .inl ⟨h1, h2, by omega⟩⟩
      · exact ⟨cn, by omega, .inr (.inr ⟨h1, h2, rfl⟩)⟩
    · exact ⟨cn, by omega, .inr (.inl ⟨h1, rfl⟩)⟩
  obtain ⟨m, hm, hway⟩ := hway
  have HW : Hid (Wds w4 (.slice HA m hcc) ((handL 100 cn).take m) ∧ ((handL 100 cn).take m).length = m ∧ Given ((handL 100 cn).take m)) := Lib.hid (by
    have hl : ((handL 100 cn).take m).length = m := by rw [List.length_take, handL_len]; omega
    refine ⟨?_, hl, given_hand 100 cn m⟩
    obtain ⟨A1, cc1, e, hc1, h1⟩ := H4.out
    injection e with e1 e2 e3
    subst e1
    subst e3
    refine ⟨HA, hcc, by rw [hl], by rw [hl]; rw [handL_len] at hc1; omega, fun h0 => ?_⟩
    rw [hl] at h0
    obtain ⟨b, off, e, k⟩ := h1 (by rw [handL_len]; omega)
    refine ⟨b, off, e, fun i hi => ?_⟩
    rw [hl] at hi
    have := k i (by rw [handL_len]; omega)
    rw [this]
    unfold nth
    rw [List.getD_eq_getElem?_getD, List.getD_eq_getElem?_getD, List.getElem?_take, if_pos hi])
  have hccn : cn ≤ hcc := by
    obtain ⟨A1, cc1, e, hc1, h1⟩ := H4.out
    injection e with e1 e2 e3
    rw [handL_len] at hc1
    omega
  generalize (handL 100 cn).take m = hs at *
  obtain ⟨cz, hcz⟩ : ∃ cz : Int, (cn : Int) = cz := ⟨_, rfl⟩
  have CZN : Hid (1 ≤ N → N ≤ 64 → cz = (cntN N : Int)) := Lib.hid (fun h1 h2 => by rw [← hcz, CNN.out h1 h2])
  rw [hcz] at C2 hway ⊢
  have mz : (m : Int) ≤ cz := by omega
  clear H4 K6 hcz CNN
  have CT := Lib.hid (tree18_c M4.out HW.out.1 (by rw [HLEN.out]; omega) (by rw [HW.out.2.1]; omega))
  rcases hway with ⟨p1, p2, rfl⟩ | ⟨p1, hmc⟩ | ⟨p1, p2, hmc⟩
  case' inl => have q1 : (m : Int) ≤ (hcc : Int) := by omega
  case' inr.inl => subst hmc
  case' inr.inr => subst hmc
  all_goals go_upto_region 8 with (fail)
  all_goals (
    by_cases ok : TreeOk L hs
    · go_wp2_with fail
      refine CT.out.mono ?_
      intro e w5 ht
      obtain ⟨gv, ps, rfl, hps, hpn, hph, hb5⟩ := ht.2 ok
      obtain ⟨PA, pcap, rfl⟩ := own_slice hps.1
      have P5 := Lib.hid hps
      have B5 := Lib.hid (below_then B4.out hb5 (Nat.le_refl _))
      have M5 := Lib.hid (M4.out.still hb5)
      have W5 := Lib.hid (HW.out.1.still hb5)
      have hf := ok.1
      have h1 := hf.2.1
      have h64 := hf.2.2
      have hcnt := cnt_few h1 h64
      have hml : m = cntN L.length := by rw [← HW.out.2.1]; exact ok.2.1
      have hpm : ps.length = m := by
        have := congrArg List.length hpn
        rw [List.length_map, treeN_len] at this
        omega
      rw [hpm] at P5 ⊢
      have ne : ((m : Int) != cz) = false := by
        have := CZN.out (by rw [← HLEN.out]; exact h1) (by rw [← HLEN.out]; exact h64)
        rw [HLEN.out] at hml
        have e : (m : Int) = cz := by omega
        rw [e]
        exact bne_self_eq_false cz
      have CF := Lib.hid (refFormed18_c M5.out (by rw [HLEN.out]; omega) (r := true) ⟨fun _ => hf, fun _ => rfl⟩)
      have CR := Lib.hid (fun (W : World) (hW : Below w5.heap.size w5 W) => refTree_c (M5.out.still hW) (W5.out.still hW) hf ok.2.1)
      have SN := Lib.hid (fun (g u b o tcap : Nat) (W : World) (ts : List Pd) (B : Nat) (hp : Pls w4.heap.size W (.slice (some ⟨g, 0, none⟩) m pcap) ps) (ht : W.ownsRow B 34 5 (.slice (some ⟨u, 0, none⟩) m tcap) m (nsC ts)) (hn : ∀ p ∈ ts, NdMine B W p.n p.x p.y p.z) (hw : Wds W (.slice (some ⟨b, o, none⟩) m hcc) hs) (hm' : ts.length = m) (he : ts.map Pd.n = treeN L (nth hs)) (i : Nat) (hi : i < m) => seen2 hp ht hn hw hpm hm' (by rw [hpn, he]) hph (by
        rw [hpn]
        have := pcs_few h1 h64
        exact tree_formed hf (fun i hi => ok.2.2 i (by rw [ok.2.1]; unfold cntN; split <;> omega))) hi)
      have TL : Hid (∀ ts : List Pd, ts.map Pd.n = treeN L (nth hs) → ts.length = m) := Lib.hid (fun ts h => by
        have := congrArg List.length h
        rw [List.length_map, treeN_len] at this
        omega)
      have m9 : m ≤ 9 := by omega
      have m1 : 1 ≤ m := by omega
      clear ht hps hpn hph hb5 hf h1 h64 hcnt hml hpm ok CT HW M4 CZN M5
      go_wp2_with fail
      refine CF.out.mono ?_
      rintro e w6 ⟨rfl, hb6⟩
      have B6 := Lib.hid (below_then B5.out hb6 (Nat.le_refl _))
      have BB6 := Lib.hid hb6
      clear hb6 CF B5
      go_wp2_with fail
      refine (C2.out w6).mono ?_
      rintro e w7 ⟨rfl, hb7⟩
      have B7 := Lib.hid (below_then B6.out hb7 (Nat.le_refl _))
      have BB7 := Lib.hid (below_then BB6.out hb7 (Nat.le_refl _))
      clear hb7 C2 B6 BB6
      have CR7 := Lib.hid (CR.out w7 BB7.out)
      clear CR
      go_wp2_with fail
      refine CR7.out.mono ?_
      rintro e w8 ⟨tv, ts, rfl, htr, htn, htm, hb8⟩
      have B8 := Lib.hid (below_then B7.out hb8 (Nat.le_refl _))
      have BB8 := Lib.hid (below_then BB7.out hb8 (Nat.le_refl _))
      have htl := TL.out ts htm
      obtain ⟨TA, tcap, rfl⟩ := own_slice htr
      rw [htl] at htr ⊢
      obtain ⟨u, rfl, _, _⟩ := own_form htr (by omega)
      have P8 := P5.out.still BB8.out
      have o8 := P8.1
      obtain ⟨g, rfl⟩ : ∃ g, PA = some ⟨g, 0, none⟩ := by
        have l := o8.1
        rcases o8.2 with ⟨e, h0⟩ | ⟨g, cap, cur, e, _⟩
        · injection e with _ e2 _
          omega
        · injection e with e1 _ _
          exact ⟨g, e1⟩
      obtain ⟨b, o, rfl⟩ : ∃ b o, HA = some ⟨b, o, none⟩ := by
        obtain ⟨A1, cc1, e, hc1, h1⟩ := W5.out
        injection e with e1 e2 e3
        obtain ⟨b, o, e4, _⟩ := h1 (by omega)
        exact ⟨b, o, by rw [e1, e4]⟩
      have SE := Lib.hid (fun i hi => SN.out g u b o tcap w8 ts _ P8 htr htn (W5.out.still BB8.out) htl htm i hi)
      clear htr htn htm hb8 htl o8 P8 SN TL CR7 P5 W5 B7 BB7 BB8
      have q0 : ((m : Int) != (m : Int)) = false := bne_self_eq_false _
      go_wp2_with fail
      go_loopw [12] (fun iv wr => ∃ i : Nat, i ≤ m ∧ iv = .int .i64 i ∧ Below w8.heap.size w8 wr) (fun iv _ => m - (intOf iv).toNat)
      case atStart => exact ⟨0, by omega, rfl, Below.refl _ _⟩
      case round =>
        obtain ⟨i, hi, rfl, hb⟩ := hrel
        by_cases hlt : i < m
        · have j1 : (i : Int) < (m : Int) := by omega
          have i9 : (i : Int) ≤ 9 := by omega
          obtain ⟨inner, lo, Bx, By, Bz, Cx, Cy, Cz, lx, ly, lz, mx, my, mz, cx, cy, cz', dx, dy, dz, LK⟩ := SE.out i hlt
          have LKH := Lib.hid LK
          have HB := Lib.hid hb
          generalize nth hs i = h at *
          clear LK hb SE
          have hh : (h != h) = false := bne_self_eq_false h
          have kk := (LKH.out wr HB.out).1
          have kd := (LKH.out wr.drew (below_drew HB.out)).1
          go_upto_region 17 with (fail)
          go_region_held3 (fun W => W.cell? ⟨g, i * 6, none⟩ = some (.int .i64 h) ∧ W.cell? ⟨g, i * 6 + 1, none⟩ = some (.bool inner) ∧ W.cell? ⟨g, i * 6 + 2, none⟩ = some (.int .i64 lo) ∧ W.cell? ⟨g, i * 6 + 3, none⟩ = some (.slice Bx lx cx) ∧ W.cell? ⟨g, i * 6 + 4, none⟩ = some (.slice By ly cy) ∧ W.cell? ⟨g, i * 6 + 5, none⟩ = some (.slice Bz lz cz') ∧ W.cell? ⟨b, o + i, none⟩ = some (.int .i64 h) ∧ W.cell? ⟨u, i * 5, none⟩ = some (.bool inner) ∧ W.cell? ⟨u, i * 5 + 1, none⟩ = some (.int .i64 lo) ∧ W.cell? ⟨u, i * 5 + 2, none⟩ = some (.slice Cx mx dx) ∧ W.cell? ⟨u, i * 5 + 3, none⟩ = some (.slice Cy my dy) ∧ W.cell? ⟨u, i * 5 + 4, none⟩ = some (.slice Cz mz dz))
            (first | exact kk | exact kd | exact K7 | exact K8)
            (first
              | (go_at_call 24; refine ((LKH.out _ (below_drew HB.out)).2.1).mono ?_; rintro e wa ⟨rfl, hba⟩; have Ba := Lib.hid (below_then (below_drew HB.out) hba (Nat.le_refl _)); have K7 := (LKH.out wa Ba.out).1; clear hba)
              | (go_at_call 14; refine ((LKH.out wa Ba.out).2.2).mono ?_; rintro e wb ⟨rfl, hbb⟩; have Bb := Lib.hid (below_then Ba.out hbb (Nat.le_refl _)); have K8 := (LKH.out wb Bb.out).1; clear hbb)
              | fail)
          rename_i hHeld
          clear hHeld kk kd K7 K8 LKH HB Ba
          go_wp2_with fail
          go_roundw
          case rel => exact ⟨i + 1, by omega, by go_num, Bb.out⟩
          case measure => simp [intOf]; omega
        · have e : i = m := by omega
          subst e
          have j1 : ¬ (i : Int) < (i : Int) := by omega
          have FX := Lib.hid (FIN.out _ (below_then B8.out hb (Nat.le_refl _)))
          clear SE B8 hb FIN
          go_wp2_with fail
          exact FX.out
    · go_wp2_with fail
      refine CT.out.mono ?_
      intro e w5 ht
      obtain ⟨rfl, hb5⟩ := ht.1 ok
      have B5 := Lib.hid (below_then B4.out hb5 (Nat.le_refl _))
      obtain ⟨r, hr⟩ : ∃ r, Tells r (Formed18 L) := ⟨@decide (Formed18 L) (Classical.propDecidable _), @decide_eq_true_iff (Formed18 L) (Classical.propDecidable _)⟩
      have CF := Lib.hid (refFormed18_c (M4.out.still hb5) (by rw [HLEN.out]; omega) hr)
      have NE : Hid (r = true → ((m : Int) != cz) = true) := Lib.hid (fun h => by
        have hf := hr.1 h
        refine bne_iff_ne.2 (fun e => ok ⟨hf, ?_, HW.out.2.2⟩)
        have h1 := hf.2.1
        have h2 := hf.2.2
        rw [HLEN.out] at h1 h2 ⊢
        have := CZN.out h1 h2
        rw [HW.out.2.1]
        omega)
      clear ht hb5 hr ok CT HW M4 CZN
      go_wp2_with fail
      refine CF.out.mono ?_
      rintro e w6 ⟨rfl, hb6⟩
      have B6 := Lib.hid (below_then B5.out hb6 (Nat.le_refl _))
      clear hb6 B5 CF
      cases r with
      | false =>
        have FX := Lib.hid (FIN.out _ B6.out)
        clear NE B6 FIN C2
        go_wp2_with fail
        exact FX.out
      | true =>
        have ne := NE.out rfl
        clear NE
        go_wp2_with fail
        refine (C2.out w6).mono ?_
        rintro e w7 ⟨rfl, hb7⟩
        have FX := Lib.hid (FIN.out _ (below_then B6.out hb7 (Nat.le_refl _)))
        clear hb7 B6 FIN C2
        go_wp2_with fail
        exact FX.out)
end Go.Proofs.Ytejkhnphplpkeaa
