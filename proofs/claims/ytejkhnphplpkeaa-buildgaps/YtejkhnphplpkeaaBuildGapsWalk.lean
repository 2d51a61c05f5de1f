/-
  The root's greatest gap is the list's: the law's walk.
-/
import Derived.Test.YtejkhnphplpkeaaPkZv
import Derived.Test.YtejkhnphplpkeaaPkVa
import Derived.Test.YtejkhnphplpkeaaPkZy
import Derived.Test.YtejkhnphplpkeaaPkB
import Derived.Test.YtejkhnphplpkeaaPkG
import Derived.Test.YtejkhnphplpkeaaPkWe
namespace Go.Proofs.Ytejkhnphplpkeaa
open Go.ChangeShapes Go.WideShapes Go.ChangeAt Go.RowKit Go.Shelf
set_option linter.unusedVariables false

theorem hand_above (a n : Nat) : ∀ h ∈ handL a n, 0 < h := by
  intro h hh
  obtain ⟨i, _, rfl⟩ := List.mem_map.1 hh
  omega
/-- What holds of a list's entries. -/
structure GapsOk (X : List Ar) (es : List En) : Prop where
  formed : Formed18 es
  first : (enAt es 0).lo = 65536
  last : (enAt es (es.length - 1)).hi = 2097152
  most : most0 (es.map gapE) = mostL (gapsL X)
theorem gaps_ok {X : List Ar} (hX : RightL X) (hl : X.length ≤ 24) : GapsOk X (entsFrom 65536 (X.zip (handL 1 X.length))) := by
  have hh := handL_len 1 X.length
  have ch := ents_chain hX (handL 1 X.length) 65536 (hand_above _ _) (by omega) (by omega) (by decide) (fun a ha => (formed_num (right_formed hX a ha)).1)
  have el := (ents_len 65536 (X.zip (handL 1 X.length))).1
  rw [List.length_zip, hh] at el
  rcases ents_last hX (handL 1 X.length) 65536 hh (by omega) with ⟨_, h⟩ | ⟨hne, hlast⟩
  · omega
  · have h1 : 1 ≤ (entsFrom 65536 (X.zip (handL 1 X.length))).length := by
      cases hc : entsFrom 65536 (X.zip (handL 1 X.length)) with
      | nil => exact (hne hc).elim
      | cons _ _ => simp
    refine ⟨chain_formed ch h1 (by omega), ents_first _ _ (fun q hq => (formed_num (right_formed hX q.1 (List.of_mem_zip hq).1)).1) (by omega), hlast, ?_⟩
    rw [ents_most X _ 65536 hh (hand_above _ _)]
    unfold gapsL
    rw [if_pos hX]
theorem root_form {es : List En} {hd : Nat → Int} (hf : Formed18 es) (hh : ∀ i, i < pcs es.length → 0 < hd i) : NdF (rootN es hd) := by
  unfold rootN
  split
  · next hk =>
    have := piece_formed (formed_chain hf) hf.2.1 hf.2.2 (i := 0) (by omega)
    rwa [piece_one hk] at this
  · exact root_formed (formed_chain hf) hf.2.1 hf.2.2 hh
theorem given_handL (a n : Nat) : Given (handL a n) := by
  intro i hi
  rw [handL_len] at hi
  rw [handL_at hi]
  omega
set_option maxRecDepth 10000 in
set_option maxHeartbeats 8000000 in
theorem buildGaps_any {w : World} {v : Value} {l : List Ar} (h : Holds w v l) : Calls Try.prog 3 #[v] w fun e w' => e = .returned (.bool true) ∧ Below w.heap.size w w' := by
  have hnot : ∀ (x : Bool) (w : World), (Op.unary .not (.bool x)).run Try.prog w = .ok (.bool (!x)) w := fun _ _ => rfl
  obtain ⟨R, hR⟩ : ∃ R : Ending → World → Prop, (fun e w' => e = .returned (.bool true) ∧ Below w.heap.size w w') = R := ⟨_, rfl⟩
  rw [hR]
  have FIN : Hid (∀ W, Below w.heap.size w W → R (.returned (.bool true)) W) := Lib.hid (fun W hb => by rw [← hR]; exact ⟨rfl, hb⟩)
  clear hR
  have HS := Lib.hid h
  obtain ⟨A, c, rfl, hc, _⟩ := h
  by_cases h30 : 30 < l.length
  · have j1 : (30 : Int) < (l.length : Int) := by omega
    clear HS
    generalize l.length = n at *
    go_enter Try.func3, Try.ntmps3
    go_wp2_with fail
    refine (awake18_c _).mono ?_
    rintro e w1 ⟨rfl, hb1⟩
    have B1 := Lib.hid hb1
    clear hb1
    go_wp2_with fail
    refine (awake18_c _).mono ?_
    rintro e w2 ⟨rfl, hb2⟩
    have FX := Lib.hid (FIN.out _ (below_then B1.out hb2 (Nat.le_refl _)))
    clear hb2 B1 FIN
    go_wp2_with fail
    exact FX.out
  have j30 : decide ((30 : Int) < (l.length : Int)) = false := decide_eq_false (by omega)
  have CS := Lib.hid (fun (W : World) (hW : Below w.heap.size w W) => some_c (HS.out.still hW) (by omega))
  obtain ⟨hXr, hXl⟩ := someL_may l
  obtain ⟨n, hn⟩ : ∃ n, l.length = n := ⟨_, rfl⟩
  rw [hn] at h30 j30 hc HS CS ⊢
  clear hn
  generalize someL l = X at *
  have ok := gaps_ok hXr hXl
  have EO : Hid (EntOk X (handL 1 X.length)) := Lib.hid ⟨hXr, handL_len _ _, given_handL _ _⟩
  obtain ⟨xn, hxn⟩ : ∃ n, X.length = n := ⟨_, rfl⟩
  have XL := Lib.hid hxn
  rw [hxn] at hXl ok EO
  clear hxn hXr
  generalize hes : entsFrom 65536 (X.zip (handL 1 xn)) = es at *
  have HES := Lib.hid hes
  have OK := Lib.hid ok
  have e1 := ok.formed.2.1
  have e64 := ok.formed.2.2
  have hcn := cnt_few e1 e64
  have hci : cntI (es.length : Int) = (cntN es.length : Int) := by
    unfold cntI
    rw [if_pos (by omega)]
    rfl
  have CC := Lib.hid (fun W => count18_c (w := W) (es.length : Int))
  rw [hci] at CC
  have TO : Hid (TreeOk es (handL 100 (cntN es.length))) := Lib.hid ⟨ok.formed, handL_len _ _, given_handL _ _⟩
  obtain ⟨cn, hcne⟩ : ∃ n, cntN es.length = n := ⟨_, rfl⟩
  rw [hcne] at hcn CC TO
  clear hci hcne hes ok
  have CH1 : Hid (∀ W, Calls Try.prog 11 #[.int .i64 1, .int .i64 (xn : Int)] W fun e w' => ∃ v, e = .returned v ∧ Mw W.heap.size w' v (handL 1 xn) ∧ Below W.heap.size W w') := Lib.hid (fun W => handles_c 1 xn (by omega) (by omega) W)
  have CH2 : Hid (∀ W, Calls Try.prog 11 #[.int .i64 100, .int .i64 (cn : Int)] W fun e w' => ∃ v, e = .returned v ∧ Mw W.heap.size w' v (handL 100 cn) ∧ Below W.heap.size W w') := Lib.hid (fun W => handles_c 100 cn (by omega) (by omega) W)
  have L1 := Lib.hid (handL_len 1 xn)
  have L2 := Lib.hid (handL_len 100 cn)
  go_enter Try.func3, Try.ntmps3
  go_wp2_with fail
  refine (awake18_c _).mono ?_
  rintro e w1 ⟨rfl, hb1⟩
  have B1 := Lib.hid hb1
  clear hb1
  go_wp2_with fail
  refine (CS.out w1 B1.out).mono ?_
  rintro e w2 ⟨vs, rfl, hmine, hb2⟩
  obtain ⟨SA, sc, rfl⟩ := hmine.is
  have B2 := Lib.hid (below_then B1.out hb2 (Nat.le_refl _))
  have S2 := Lib.hid hmine.holds
  rw [XL.out] at S2 ⊢
  clear hmine hb2 B1 CS HS
  go_wp2_with fail
  refine (CH1.out w2).mono ?_
  rintro e w3 ⟨hv3, rfl, hmw, hb3⟩
  obtain ⟨HA, hcc, rfl⟩ := own_slice hmw
  have B3 := Lib.hid (below_then B2.out hb3 (Nat.le_refl _))
  have S3 := Lib.hid (S2.out.still hb3)
  have H3 := Lib.hid hmw.wds
  rw [L1.out] at H3 ⊢
  have CE := Lib.hid (entries18_c S3.out H3.out (by rw [XL.out]; omega) (by rw [L1.out]; omega))
  clear hmw hb3 B2 S2 CH1
  go_wp2_with fail
  refine CE.out.mono ?_
  intro e w4 ht
  obtain ⟨ev, rfl, hm4, hb4⟩ := ht.2 EO.out
  rw [HES.out] at hm4
  obtain ⟨EA, ec, rfl⟩ := own_slice hm4
  have B4 := Lib.hid (below_then B3.out hb4 (Nat.le_refl _))
  have S4 := Lib.hid (S3.out.still hb4)
  have M4 := Lib.hid hm4
  clear ht hm4 hb4 B3 S3 H3 CE EO HES
  generalize handL 1 xn = hs1 at *
  go_wp2_with fail
  refine (CC.out w4).mono ?_
  rintro e w5 ⟨rfl, hb5⟩
  have B5 := Lib.hid (below_then B4.out hb5 (Nat.le_refl _))
  have S5 := Lib.hid (S4.out.still hb5)
  have M5 := Lib.hid (own_still M4.out hb5)
  clear hb5 B4 S4 M4 CC
  go_wp2_with fail
  refine (CH2.out w5).mono ?_
  rintro e w6 ⟨hv6, rfl, hmw, hb6⟩
  obtain ⟨HB, hcb, rfl⟩ := own_slice hmw
  have B6 := Lib.hid (below_then B5.out hb6 (Nat.le_refl _))
  have S6 := Lib.hid (S5.out.still hb6)
  have M6 : Hid (Ens w6 (.slice EA es.length ec) es) := Lib.hid (Mes.ens (own_still M5.out hb6))
  have H6 := Lib.hid hmw.wds
  rw [L2.out] at H6 ⊢
  have CT := Lib.hid (tree18_c M6.out H6.out (by omega) (by rw [L2.out]; omega))
  clear hmw hb6 B5 S5 M5 CH2
  go_wp2_with fail
  refine CT.out.mono ?_
  intro e w7 ht
  obtain ⟨tv, ps, rfl, hp, hpn, _, hb7⟩ := ht.2 TO.out
  obtain ⟨PA, pcap, rfl⟩ := own_slice hp.1
  have B7 := Lib.hid (below_then B6.out hb7 (Nat.le_refl _))
  have S7 := Lib.hid (S6.out.still hb7)
  obtain ⟨hp1, hroot⟩ := root_is hpn
  obtain ⟨rm, rl⟩ : most0 (rootN es (nth (handL 100 cn))).gaps = most0 (es.map gapE) ∧ ((rootN es (nth (handL 100 cn))).lo = (enAt es 0).lo ∧ nth (rootN es (nth (handL 100 cn))).ends ((rootN es (nth (handL 100 cn))).ends.length - 1) = (enAt es (es.length - 1)).hi) := ⟨root_most e1, root_ends e1 e64⟩
  rw [OK.out.most] at rm
  rw [OK.out.first, OK.out.last] at rl
  have nf : NdF (rootN es (nth (handL 100 cn))) := root_form OK.out.formed (fun i hi => TO.out.2.2 i (by
    rw [TO.out.2.1]
    unfold cntN
    split <;> omega))
  rw [← hroot] at rm rl nf
  obtain ⟨m, hm⟩ : ∃ m, ps.length = m := ⟨_, rfl⟩
  have hm9 : m ≤ 9 := by
    have := congrArg List.length hpn
    rw [List.length_map, treeN_len] at this
    have := (cnt_few e1 e64).2
    omega
  have o7 := hp.1
  rw [hm] at hp1 o7 rm rl nf ⊢
  obtain ⟨t, ht'⟩ : ∃ t, m = t + 1 := ⟨m - 1, by omega⟩
  rw [show m - 1 = t by omega] at rm rl nf
  obtain ⟨g, rfl, _, _⟩ := own_form o7 (by omega)
  have mp := pdAt_mem (l := ps) (i := t) (by omega)
  have nd := hp.2 _ mp
  have cp := fun j (hj : j < 6) => (o7.cellAt (t * 6 + j) (by omega)).trans (plC_at ps t j (by omega) hj)
  have CL := Lib.hid (fun (W : World) (hW : Below w7.heap.size w7 W) => largest_c (S7.out.still hW) (by rw [XL.out]; omega))
  clear ht hp hpn hb7 hroot OK TO CT S6 M6 H6 B6 S7 mp o7
  generalize pdAt ps t = p at *
  obtain ⟨ph, pn, px, py, pz⟩ := p
  simp only at rm rl nf nd
  obtain ⟨Bx, cx, rfl⟩ := own_slice nd.me
  obtain ⟨By, cy, rfl⟩ := own_slice nd.ms
  obtain ⟨Bz, cz, rfl⟩ := own_slice nd.mg
  have n1 := nf.cnt.one
  have n8 := nf.cnt.few
  have ngl := nf.cnt.gl
  have CF := Lib.hid (refFormedN_c nd.here (r := true) ⟨fun _ => nf, fun _ => rfl⟩)
  obtain ⟨inner, lo, ends, slots, gaps⟩ := pn
  simp only [Nd.val] at *
  obtain ⟨rl1, rl2⟩ := rl
  subst rl1
  have d1 : w7.cell? ⟨g, t * 6 + 1, none⟩ = some (.bool inner) := cp 1 (by omega)
  have d2 : w7.cell? ⟨g, t * 6 + 2, none⟩ = some (.int .i64 65536) := cp 2 (by omega)
  have d3 : w7.cell? ⟨g, t * 6 + 3, none⟩ = some (.slice Bx ends.length cx) := cp 3 (by omega)
  have d4 : w7.cell? ⟨g, t * 6 + 4, none⟩ = some (.slice By slots.length cy) := cp 4 (by omega)
  have d5 : w7.cell? ⟨g, t * 6 + 5, none⟩ = some (.slice Bz gaps.length cz) := cp 5 (by omega)
  have WE := Lib.hid nd.here
  have DH : Hid (∀ W, Below w7.heap.size w7 W → W.cell? ⟨g, t * 6 + 1, none⟩ = some (.bool inner) ∧ W.cell? ⟨g, t * 6 + 2, none⟩ = some (.int .i64 65536) ∧ W.cell? ⟨g, t * 6 + 3, none⟩ = some (.slice Bx ends.length cx) ∧ W.cell? ⟨g, t * 6 + 4, none⟩ = some (.slice By slots.length cy) ∧ W.cell? ⟨g, t * 6 + 5, none⟩ = some (.slice Bz gaps.length cz)) := Lib.hid (fun W hW => by
    have h1 := World.block_lt_of_cell? w7 _ d1
    exact ⟨by rw [hW.cell (p := ⟨g, t * 6 + 1, none⟩) h1]; exact d1, by rw [hW.cell (p := ⟨g, t * 6 + 2, none⟩) h1]; exact d2, by rw [hW.cell (p := ⟨g, t * 6 + 3, none⟩) h1]; exact d3, by rw [hW.cell (p := ⟨g, t * 6 + 4, none⟩) h1]; exact d4, by rw [hW.cell (p := ⟨g, t * 6 + 5, none⟩) h1]; exact d5⟩)
  clear cp nd nf
  have RM := Lib.hid rm
  have RL2 := Lib.hid rl2
  have NGL := Lib.hid ngl
  clear rm rl2 ngl
  have hwm : IntKind.i64.wrap ((m : Int) - 1) = (t : Int) := by rw [IntKind.wrap_i64]; omega
  have jt : (t : Int) < (m : Int) := by omega
  have jm0 : ((m : Int) == 0) = false := beq_eq_false_iff_ne.2 (by omega)
  have jm : ¬ ((m : Int) = 0) := by omega
  clear ht'
  go_wp2_with fail
  refine CF.out.mono ?_
  rintro e w8 ⟨rfl, hb8⟩
  obtain ⟨f1, f2, f3, f4, f5⟩ := DH.out w8 hb8
  have B8 := Lib.hid (below_then B7.out hb8 (Nat.le_refl _))
  have PX := Lib.hid (Whole.new w8 34 #[.bool inner, .int .i64 65536, .slice Bx ends.length cx, .slice By slots.length cy, .slice Bz gaps.length cz])
  have BX := Lib.hid (below_new w8 (.cells #[.bool inner, .int .i64 65536, .slice Bx ends.length cx, .slice By slots.length cy, .slice Bz gaps.length cz] 34))
  have BB8 := Lib.hid hb8
  clear CF hb8 d1 d2 d3 d4 d5 DH
  go_upto_region 9 with (fail)
  obtain ⟨w9, hw9⟩ : ∃ W, w8.alloc (.cells #[.bool inner, .int .i64 65536, .slice Bx ends.length cx, .slice By slots.length cy, .slice Bz gaps.length cz] 34) = W := ⟨_, rfl⟩
  obtain ⟨q, hq⟩ : ∃ q, w8.heap.size = q := ⟨_, rfl⟩
  rw [hw9] at PX BX ⊢
  rw [hq] at PX ⊢
  have B9 := Lib.hid (below_then B8.out BX.out (Nat.le_refl _))
  have BB9 := Lib.hid (below_then BB8.out BX.out (Nat.le_refl _))
  have W9 := Lib.hid (WE.out.still BB9.out)
  clear hw9 hq BX BB8 B8 f1 f2 f3 f4 f5 WE B7
  obtain ⟨A2, c2, e2, _, h2⟩ := W9.out.wg
  injection e2 with ea _ ec
  subst ea
  obtain ⟨zb, zo, rfl, gk⟩ := h2 (by have := NGL.out; simp only at this ⊢; omega)
  obtain ⟨A3, c3, e3, _, h3⟩ := W9.out.we
  injection e3 with ea3 _ ec3
  subst ea3
  obtain ⟨xb, xo, rfl, xk⟩ := h3 (by simp only; omega)
  simp only at gk xk
  have GC := Lib.hid gk
  have xl := xk (ends.length - 1) (by omega)
  rw [RL2.out] at xl
  have XC : Hid (∀ W, Below w9.heap.size w9 W → W.cell? ⟨xb, xo + (ends.length - 1), none⟩ = some (.int .i64 2097152)) := Lib.hid (fun W hW => by
    rw [hW.cell (p := ⟨xb, xo + (ends.length - 1), none⟩) (World.block_lt_of_cell? w9 _ xl)]; exact xl)
  have GS : Hid (∀ k, k < gaps.length → most0 (gaps.take (k + 1)) = max (most0 (gaps.take k)) (nth gaps k)) := Lib.hid (fun k hk => by
    rw [take_one hk]
    unfold most0
    rw [List.foldl_append]
    rfl)
  have GE : Hid (most0 (gaps.take gaps.length) = mostL (gapsL X)) := Lib.hid (by rw [List.take_length]; exact RM.out)
  clear gk xk xl h2 h3 RL2 RM W9 ec ec3
  obtain ⟨tl, htl⟩ : ∃ tl, ends.length = tl + 1 := ⟨ends.length - 1, by omega⟩
  have hwe : IntKind.i64.wrap ((ends.length : Int) - 1) = (tl : Int) := by rw [IntKind.wrap_i64]; omega
  have jtl : (tl : Int) < (ends.length : Int) := by omega
  rw [show ends.length - 1 = tl by omega] at XC
  have gl8 : gaps.length ≤ 8 := by rw [NGL.out]; exact n8
  clear htl NGL n8
  generalize ends.length = el at *
  generalize gaps.length = gl at *
  generalize slots.length = sl at *
  have z4 : w9.cell? ⟨q, 4, none⟩ = some (.slice (some ⟨zb, zo, none⟩) gl cz) := PX.out.cell 4
  go_wp2_with fail
  go_loopw [7, 8] (fun bv kv wq => ∃ k : Nat, k ≤ gl ∧ kv = .int .i64 k ∧ bv = .int .i64 (most0 (gaps.take k)) ∧ wq = w9) (fun _ kv _ => gl - (intOf kv).toNat)
  case atStart => exact ⟨0, by omega, rfl, rfl, rfl⟩
  case round =>
    obtain ⟨k, hk, rfl, rfl, hwq⟩ := hrel
    replace hwq := hwq.symm
    subst hwq
    by_cases hkl : k < gl
    · have jk : (k : Int) < (gl : Int) := by omega
      have k8 : (k : Int) ≤ 8 := by omega
      have ck := GC.out k hkl
      have gs1 := Lib.hid (GS.out k hkl)
      clear GC GS GE PX XC CL
      generalize most0 (gaps.take k) = mk at *
      generalize nth gaps k = gk at *
      go_wp2_with fail
      go_roundw
      case rel =>
        refine ⟨k + 1, by omega, by go_num, ?_, trivial⟩
        rw [gs1.out]
      case measure => simp [intOf]; omega
    · have e : k = gl := by omega
      subst e
      have jk : ¬ (k : Int) < (k : Int) := by omega
      rw [GE.out]
      have C9 := Lib.hid (CL.out w9 BB9.out)
      clear GC GS GE CL
      generalize mostL (gapsL X) = ml at *
      go_wp2_with fail
      refine C9.out.mono ?_
      rintro e wz ⟨rfl, hbz⟩
      have PZ := PX.out.below hbz PX.out.lt
      have z1 : wz.cell? ⟨q, 1, none⟩ = some (.int .i64 65536) := PZ.cell 1
      have z2 : wz.cell? ⟨q, 2, none⟩ = some (.slice (some ⟨xb, xo, none⟩) el cx) := PZ.cell 2
      have x1 := XC.out wz hbz
      have FX := Lib.hid (FIN.out wz (below_then B9.out hbz (Nat.le_refl _)))
      have q0 : (ml == ml) = true := beq_self_eq_true _
      clear PZ PX XC B9 BB9 hbz C9 FIN
      go_wp2_with fail
      exact FX.out
end Go.Proofs.Ytejkhnphplpkeaa
