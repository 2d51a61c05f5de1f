/-
  Layer 3: the walk of the statement on turns.
-/
import Derived.Test.YtodclnfhhaiblaaTrailTurnsMake
namespace Go.Proofs.Ytodclnfhhaiblaa
open Go.ChangeShapes Go.WideShapes Go.ChangeAt Go.RowKit
set_option linter.unusedVariables false

set_option maxHeartbeats 8000000 in
set_option maxRecDepth 100000 in
theorem turns_some (cells : Int) (hc0 : 0 ≤ cells) (hc1 : cells ≤ 255) (LA : Option Addr) (LB LO lc P : Nat) (Bf : Nat → Option Addr) (cf lbf lof : Nat → Nat) (ls : Nat → List Pop) (TA : Option Addr) (TB TO tn tc : Nat) (w : World)
    (hA : Arg3 w LA LB LO P Bf cf lbf lof ls TA TB TO tn) (hP0 : 0 < P) (hP6 : P ≤ 6) (htn : tn ≤ 300) (hls : ∀ i, i < P → (ls i).length ≤ 25) :
    Calls Try.prog 3 #[.int .u8 cells, .slice LA P lc, .slice TA tn tc] w fun e w' => e = .returned (.bool true) ∧ Below w.heap.size w w' := by
  have hnot : ∀ (x : Bool) (w : World), (Op.unary .not (.bool x)).run Try.prog w = .ok (.bool (!x)) w := fun _ _ => rfl
  have HA := Lib.hid hA
  have HLS := Lib.hid hls
  obtain rfl := hA.la hP0
  clear hA hls
  obtain ⟨mc, hmc⟩ : ∃ mc : Nat, cells % 21 = mc := ⟨(cells % 21).toNat, by omega⟩
  have hmc1 : mc ≤ 20 := by omega
  have HMC := Lib.hid hmc
  clear hmc
  have hmany : Hid (many (mc : Int) = mc) := by unfold Hid many; omega
  have RT := rowThreads P (by omega)
  have RS := rowOf P (by omega)
  obtain ⟨i0, hi0, hz0, hz1, hz2⟩ := ptr_info'
  obtain ⟨ns, hnsl, hns⟩ : ∃ ns : List Nat, ns.length = P ∧ ∀ k n, ns[k]? = some n → (∃ B c, w.cell? ⟨LB, LO + k, none⟩ = some (.slice B n c)) ∧ n ≤ 25 := by
    refine ⟨(List.range P).map (fun i => (ls i).length), by simp, fun k n hk => ?_⟩
    rw [List.getElem?_map] at hk
    by_cases hkP : k < P
    · rw [List.getElem?_range hkP] at hk
      simp at hk
      subst hk
      exact ⟨⟨Bf k, cf k, HA.out.row k hkP⟩, HLS.out k hkP⟩
    · rw [List.getElem?_eq_none (by simp; omega)] at hk
      simp at hk
  have HF : Hid (few3 ns 6 = true) := by
    rw [Hid, few3, Bool.and_eq_true]
    refine ⟨List.all_eq_true.2 (fun x hx => ?_), by simp; omega⟩
    obtain ⟨k, hk⟩ := List.mem_iff_getElem?.1 (List.mem_of_mem_take hx)
    simpa using (hns k x hk).2
  have HNS := Lib.hid hns
  have HNL := Lib.hid hnsl
  clear hns hnsl
  have hne0 : ((P : Int) == 0) = false := beq_eq_false_iff_ne.2 (by omega)
  have hgt0 : decide (300 < (tn : Int)) = false := by simp; omega
  go_enter Try.func3, Try.ntmps3
  go_wp2_with fail
  refine (tr_awake _).mono ?_
  rintro e w1 ⟨rfl, hb1⟩
  go_wp2_with fail
  have FEW := few_any (some ⟨LB, LO, none⟩) LB LO lc ns 6 w1 (by decide) ⟨fun _ => rfl, fun k x hk => by
    obtain ⟨⟨B, c, hc⟩, _⟩ := HNS.out k x hk
    exact ⟨B, c, (hb1.cell (p := ⟨LB, LO + k, none⟩) (World.block_lt_of_cell? w _ hc)).trans hc⟩⟩
  rw [HNL.out, HF.out] at FEW
  refine FEW.mono ?_
  rintro e w2 ⟨rfl, rfl⟩
  have HB1 := Lib.hid hb1
  clear FEW hb1
  go_wp2_with fail
  rw [HMC.out]
  refine (new_mem_ex _ _).mono ?_
  rw [hmany.out]
  rintro e w2 ⟨b, g, rfl, hm, hb, hg, hb2⟩
  have HM := Lib.hid hm
  have HB2 := Lib.hid hb2
  have HBG := Lib.hid (And.intro hb hg)
  clear hm hb2 hb hg
  go_wp2_with fail
  rw [HMC.out]
  refine (new_ref_ex _ _ (by omega)).mono ?_
  rintro e w3 ⟨rb, A, c, rfl, hr, hrb, hb3⟩
  rw [Int.toNat_natCast] at hr
  have HH0 : Hid (Half w ((w3.alloc (.cells (newThreads P) 43)).alloc (.cells (nums (List.replicate P 0)) 2)) (ow0 b g rb A w3.heap.size (w3.heap.size + 1)) b g rb rb A c w3.heap.size (w3.heap.size + 1) P (fun _ => 0) (.slice none 0 0) 0 ⟨List.replicate mc 0, 0⟩ (newThreads P) (List.replicate P 0)) :=
    half_first HB1.out HM.out HBG.out.1 HBG.out.2 HB2.out hr hrb hb3 _ _
  rw [← nums_made] at HH0
  clear hr hrb hb3 HM HBG HB2
  go_upto_region 7 with (fail)
  generalize ((w3.alloc (.cells (newThreads P) 43)).alloc (.cells (madeCells #[.int .i64 0] P) 2)) = w4 at *
  generalize w3.heap.size = hb at *
  have hsbb : Hid (hb + 1 = hb + 1) := rfl
  generalize hb + 1 = sb at *
  clear hsbb RT RS
  go_wp2_with fail
  go_loopw [9, 12] (fun av iv wr => MakeRel w b g rb rb A c hb sb P ⟨List.replicate mc 0, 0⟩ (newThreads P) (List.replicate P 0) av iv wr) (fun _ iv _ => P - (intOf iv).toNat)
  case atStart => exact ⟨0, by omega, by go_num, _, _, HH0.out⟩
  case round =>
    obtain ⟨i, hi, rfl, ow, tbf, hh⟩ := hrel
    obtain ⟨aA, ac, rfl⟩ := own_slice hh.row
    have H := Lib.hid hh
    clear hh
    by_cases hlt : i < P
    · go_wp2_with fail
      refine (new_trail_ex (m := ⟨List.replicate mc 0, 0⟩) H.out.mem).mono ?_
      rintro e w5 ⟨tb, rfl, hs, htb, hbel⟩
      have RO := Lib.hid (own_still H.out.row hbel)
      have MORE : Hid (∀ av' w6, w6.ownsRow 0 33 1 av' (i + 1) (((List.range i).map (fun j => Value.pointer (some ⟨tbf j, 0, none⟩))) ++ [.pointer (some ⟨tb, 0, none⟩)]) → (w5.alloc (.cells #[.pointer (some ⟨tb, 0, none⟩)] 33)).grownBy w6 (Value.slice aA i ac).ownBlock →
          (av'.ownBlock = (Value.slice aA i ac).ownBlock ∨ av'.ownBlock = some (w5.alloc (.cells #[.pointer (some ⟨tb, 0, none⟩)] 33)).heap.size) → ∃ ow' tbf', Half w w6 ow' b g rb rb A c hb sb P tbf' av' (i + 1) ⟨List.replicate mc 0, 0⟩ (newThreads P) (List.replicate P 0)) :=
        fun av' w6 h1 h2 h3 => ⟨_, _, H.out.more hs htb hbel h2 h1 h3⟩
      clear hs htb hbel
      go_wp2_with (at_builtin; refine wpList_append_own_at _ rfl (.tmp 56) (.tmp 59) _ rfl 0 33 i0 _ 1 8 Try.underlying30 hi0 hz0 hz1 hz2 rfl (by omega) _ i _ rfl (RO.out.alloc _) ⟨w5.heap.size, 0, none⟩ 1 1 [.pointer (some ⟨tb, 0, none⟩)] rfl rfl (cell_one_new _ _ _) (by simp [Value.oneCell']) (by simp only [maxLen]; omega) (by omega) (by omega) ?_; intro v' w6 hown' hg' _hnil hat; have MM := Lib.hid (MORE.out v' w6 hown' hg' hat); clear hown' hg' hat _hnil)
      go_roundw
      case rel => exact ⟨i + 1, by omega, by go_num, MM.out⟩
      case measure => simp [intOf]; omega
    · have hiP : i = P := by omega
      subst hiP
      obtain ⟨ab, rfl, _, _⟩ := own_form H.out.row hP0
      have B0 := Lib.hid (H.out.bare (newThreads_size i) (by simp) (fun j hj => newThreads_at i j hj))
      clear H
      go_wp2_with fail
      go_loopw [13] (fun iv wr => TurnsRel w b g rb rb A c ab hb sb i tbf ls mc tn iv wr) (fun iv _ => tn - (intOf iv).toNat)
      case atStart =>
        refine ⟨0, by omega, by go_num, _, _, _, _, _, _, _, _, _, B0.out, fun j hj => ?_, by simp, by simp⟩
        exact pair_new (ls j) _
      case round =>
        obtain ⟨n, hn, rfl, ow2, tvf, mvf, rvf, Tf, hf, ss, m, cs, hB, hPr, hcnt, hml⟩ := hrel
        have B := Lib.hid hB
        have PR := Lib.hid hPr
        clear hB hPr
        by_cases hnt : n < tn
        · obtain ⟨x, hx, hx0, hx1⟩ := (HA.out.still B.out.bel).turn n hnt
          obtain rfl := HA.out.ta (by omega)
          obtain ⟨j, hj⟩ : ∃ j : Nat, x % (i : Int) = j := ⟨(x % (i : Int)).toNat, by have := Int.emod_nonneg x (show (i : Int) ≠ 0 by omega); omega⟩
          have hji : j < i := by have := Int.emod_lt_of_pos x (show (0 : Int) < i by omega); omega
          have HJ := Lib.hid hj
          clear hj
          have a0 := B.out.all j hji
          have OV := Lib.hid (overs (B.out.st hji))
          go_upto_region 15 with (fail)
          rw [HJ.out]
          have ROW := Lib.hid ((HA.out.still B.out.bel).row j hji)
          have OPS := Lib.hid ((HA.out.still B.out.bel).ops j hji)
          have i1 : (0 : Int) ≤ (j : Int) := by omega
          have i2 : (j : Int) < (i : Int) := by omega
          have hmf : ∀ (fn : Fn) (first cap : Array Value) (w : World), (Instr.makeFunc fn first cap).run Try.prog w = .ok (.func fn first cap) w := fun _ _ _ _ => rfl
          clear hx
          cases hov : (Tf j).over with
          | true =>
            rw [hov] at OV
            have SO := fun t v => Lib.hid (step_over (T := Tf j) t v (B.out.st hji).drew hov)
            have row0 := ROW.out
            go_upto_region 17 with (go_at_call 12; refine OV.out.mono ?_; rintro e w7 ⟨rfl, rfl⟩)
            go_region_held3 (fun w' => w'.cell? ⟨LB, LO + j, none⟩ = some (.slice (Bf j) (ls j).length (cf j)))
              (first | exact row0)
              ((go_at_call 13; refine (SO _ _).out.mono ?_; rintro e w7 ⟨rfl, rfl⟩))
            have BB := Lib.hid (B.out.still (below_drew (Below.refl _ _)))
            have PJ := Lib.hid (PR.out j hji)
            have PRX := PR
            have OVX := Lib.hid hov
            have SKX : Hid (decide (skip ((ls j).drop (hf j).a) = []) = true) := by simpa [Hid] using ((PR.out j hji).over hov).1
            have OPX := Lib.hid (OPS.out.still (below_drew (Below.refl _ _)))
            have CXX : Hid (m.cnt ≤ (n : Int) + 1 ∧ m.cs.length = mc) := ⟨by omega, hml⟩
            have row1 : wr.drew.cell? ⟨LB, LO + j, none⟩ = some (.slice (Bf j) (ls j).length (cf j)) := row0
            clear row0 a0 hcnt
            generalize wr.drew = W7 at *
            have X12 : Hid (∀ n, Calls Try.prog 12 #[.pointer (some ⟨tbf j, 0, none⟩)] (W7.drewN n) fun e w' => e = .returned (.bool true) ∧ W7.drewN n = w') := fun n => by
              have h := overs ((BB.out.st hji).drewN n)
              rwa [OVX.out] at h
            have X16 : Hid (∀ n, Calls Try.prog 16 #[.pointer (some ⟨hb, j * 4, none⟩), .slice (Bf j) (ls j).length (cf j)] (W7.drewN n) fun e w' => e = .returned (.bool true) ∧ W7.drewN n = w') := fun n => by
              have h := th_over (w := W7.drewN n) (h := hf j) (Bf j) (cf j) (lbf j) (lof j) (ls j) (BB.out.sys hji).th.c0 (OPX.out.still (below_drewN (Below.refl _ _) n)) PJ.out.a (by have := HLS.out j hji; omega)
              rwa [SKX.out] at h
            have X17 : Hid (∀ n, Calls Try.prog 17 #[.pointer (some ⟨tbf j, 0, none⟩)] (W7.drewN n) fun e w' => e = .returned (.int .i64 ((Tf j).told.length : Nat)) ∧ W7.drewN n = w') := fun n => steps ((BB.out.st hji).drewN n)
            have X18 : Hid (∀ n, Calls Try.prog 18 #[.pointer (some ⟨b, 0, none⟩)] (W7.drewN n) fun e w' => e = .returned (.int .i64 m.cnt) ∧ W7.drewN n = w') := fun n => count_any _ _ _ BB.out.mem.c1
            have X19 : Hid (∀ n, Calls Try.prog 19 #[.pointer (some ⟨tbf j, 0, none⟩)] (W7.drewN n) fun e w' => e = .returned (.bool false) ∧ W7.drewN n = w') := fun n => by
              have h := drys ((BB.out.st hji).drewN n) ⟨.inl PJ.out.ph, fun h' => absurd (PJ.out.ph.symm.trans h') (by decide), fun h' => absurd PJ.out.ph h'⟩
              have h2 : dry (Tf j) = false := by simp [dry, PJ.out.ph, OVX.out]
              rwa [h2] at h
            have t1 : W7.cell? ⟨hb, j * 4 + 1, none⟩ = some (.int .i64 ((Tf j).told.length : Nat)) := by rw [(BB.out.sys hji).th.c1, PJ.out.t]
            have s2 : W7.cell? ⟨hb, j * 4 + 2, none⟩ = some (.int .i64 (hf j).s) := (BB.out.sys hji).th.c2
            have z0 : W7.cell? ⟨sb, j, none⟩ = some (.int .i64 (hf j).s) := by rw [BB.out.sum.cell, nums_at _ _ (by rw [BB.out.slen]; exact hji), (PJ.out.over OVX.out).2]
            have rc1 : W7.cell? ⟨rb, 1, none⟩ = some (.int .i64 m.cnt) := BB.out.ref.c1
            have CX := Lib.hid (And.intro CXX.out.1 CXX.out.2)
            generalize hTL : (Tf j).told.length = tl at *
            have HTL := Lib.hid hTL
            clear hTL
            generalize hSX : (hf j).s = sx at *
            have HSX := Lib.hid hSX
            clear hSX
            generalize hCX : m.cnt = cx at *
            have HCX := Lib.hid hCX
            clear hCX
            have e1 : ((tl : Int) != (tl : Int)) = false := by simp
            have e2 : (sx != sx) = false := by simp
            have e3 : (cx != cx) = false := by simp
            go_upto_region 20 with (fail)
            go_quiet ((first | (go_at_call 12; exact quietly (X12.out _)) | (go_at_call 16; exact quietly (X16.out _)) | (go_at_call 17; exact quietly (X17.out _)) | (go_at_call 18; exact quietly (X18.out _)) | (go_at_call 19; exact quietly (X19.out _))))
            go_wp2_with fail
            go_roundw
            case rel => exact ⟨n + 1, by omega, by go_num, _, _, _, _, _, _, _, _, _, BB.out.still (below_drewN (Below.refl _ _) _), PRX.out, by push_cast; rw [HCX.out]; exact CX.out.1, CX.out.2⟩
            case measure => simp [intOf]; omega
          | false =>
            have ph0 := (PR.out j hji).ph
            have NLB : Hid (∀ S : Nat → Prop, (∀ k, S k → ow2 k ≠ 0) → 0 < (ls j).length → ¬ S (lbf j)) := by
              intro S hS h0 hs
              exact hS _ hs (B.out.old _ ((HA.out.ops j hji).lt h0))
            have BD := Lib.hid (B.out.still (below_drew (Below.refl _ _)))
            have OPD := Lib.hid (OPS.out.still (below_drew (Below.refl _ _)))
            have row1 : wr.drew.cell? ⟨LB, LO + j, none⟩ = some (.slice (Bf j) (ls j).length (cf j)) := ROW.out
            have LBL : Hid (LB < w.heap.size) := World.block_lt_of_cell? w _ (HA.out.row j hji)
            have hlj := HLS.out j hji
            have htl : (Tf j).told.length ≤ 25 := by
              have h1 := (PR.out j hji).le
              have h2 := many3_len (ls j)
              omega
            have hmkl : (Tf j).marks.length ≤ 625 := by
              have h1 := (PR.out j hji).few
              have h2 : (Tf j).told.length * (ls j).length ≤ 25 * 25 := Nat.mul_le_mul htl hlj
              omega
            have PS := Lib.hid (prog_step (w := wr.drew) (n : Int) (Bf j) (ls j).length (cf j) (lbf j) (lof j) (some ⟨sb, j, none⟩) (ls j) (BD.out.st hji) hov ph0 rfl OPD.out
              (NLB.out _ (fun k hk => by have := BD.out.mine hji hk; omega))
              (fun p hp => by
                injection hp with hp
                subst hp
                refine ⟨⟨_, by rw [BD.out.sum.cell]; exact nums_at ss j (by rw [BD.out.slen]; exact hji)⟩, BD.out.sum.frozen j, fun h => ?_⟩
                have h1 := BD.out.mine hji h
                have h2 := BD.out.lsb
                simp only at h1
                omega)
              (by omega) (by omega) (by omega))
            rw [hov] at OV
            clear a0
            have a0 := B.out.all j hji
            go_upto_region 17 with (go_at_call 12; refine OV.out.mono ?_; rintro e w7 ⟨rfl, rfl⟩)
            have FAR : Hid (∀ w7 tv' mv', Stepped wr.drew b g (tbf j) (tvf j) (mvf j) (some ⟨sb, j, none⟩) (stepR (ls j) (n : Int) (Tf j) m) tv' mv' w7 → w7.cell? ⟨LB, LO + j, none⟩ = some (.slice (Bf j) (ls j).length (cf j))) := by
              intro w7 tv' mv' hst
              refine (hst.only.cell (p := ⟨LB, LO + j, none⟩) (World.block_lt_of_cell? _ _ row1) ?_).trans row1
              have h0 := BD.out.old LB LBL.out
              rintro (h | ⟨p, hp, hk⟩)
              · have := BD.out.mine hji h
                simp only at this
                omega
              · injection hp with hp
                subst hp
                simp only at hk
                have := BD.out.lsb
                rw [← hk] at this
                omega
            go_region_held3 (fun w' => w'.cell? ⟨LB, LO + j, none⟩ = some (.slice (Bf j) (ls j).length (cf j)))
              (first | exact row1 | exact row7)
              ((go_at_call 13; refine PS.out.mono ?_; rintro e w7 ⟨rfl, tv7, mv7, hst⟩; have row7 := FAR.out _ _ _ hst))
            have B7 := Lib.hid ((BD.out.stepped hji hst).still (below_drew (Below.refl _ _)))
            have OP7 := Lib.hid ((HA.out.still B7.out.bel).ops j hji)
            have NLB7 : Hid (0 < (ls j).length → ¬ Tset hb (rvf j) rb A (lbf j)) := by
              intro h0 ht
              have h1 := B7.out.old _ ((HA.out.ops j hji).lt h0)
              rcases ht with ht | ht | ht | ⟨y, hy, ht⟩
              · have := B7.out.lhb; rw [← ht] at this; omega
              · have := B7.out.lrv j hji _ ht; omega
              · have := B7.out.lrb; rw [← ht] at this; omega
              · have := B7.out.lA y hy; rw [← ht] at this; omega
            have row8 : w7.drew.cell? ⟨LB, LO + j, none⟩ = some (.slice (Bf j) (ls j).length (cf j)) := row7
            clear row7 hst FAR PS row1
            have TS := Lib.hid (th_step (n : Int) (Bf j) (cf j) (lbf j) (lof j) (ls j) (B7.out.sys hji) OP7.out NLB7.out (PR.out j hji).a (by omega) (by rw [(PR.out j hji).mks]; omega) (by rw [(PR.out j hji).t]; omega) (by omega))
            have FAR : Hid (∀ w8 rv', ThMoved w7.drew hb (rvf j) rb A w8 rv' → w8.cell? ⟨LB, LO + j, none⟩ = some (.slice (Bf j) (ls j).length (cf j))) := by
              intro w8 rv' hmo
              refine (hmo.only.cell (p := ⟨LB, LO + j, none⟩) (World.block_lt_of_cell? _ _ row8) ?_).trans row8
              have h0 := B7.out.old LB LBL.out
              rintro (ht | ht | ht | ⟨y, hy, ht⟩)
              · have := B7.out.lhb; simp only at ht; rw [← ht] at this; omega
              · have := B7.out.lrv j hji _ ht; simp only at this; omega
              · have := B7.out.lrb; simp only at ht; rw [← ht] at this; omega
              · have := B7.out.lA y hy; simp only at ht; rw [← ht] at this; omega
            go_upto_region 19 with (fail)
            go_region_held3 (fun w' => w'.cell? ⟨LB, LO + j, none⟩ = some (.slice (Bf j) (ls j).length (cf j)))
              (first | exact row8 | exact row9)
              ((go_at_call 15; refine TS.out.mono ?_; rintro e w8 ⟨rfl, a', rv', ha', hsk', hsys, hmov⟩; have row9 := FAR.out _ _ hmov))
            obtain ⟨g1, g2, g3, g4, g5⟩ := pair_step (time := (n : Int)) (m := m) (PR.out j hji) hov a' ha' hsk'
            have BB0 := B7.out.threaded hji hsys hmov
            rw [g1] at BB0
            have NL := nxt_len (skip ((ls j).drop (hf j).a)) (n : Int) (hf j) m
            rw [g1] at NL
            have PRX0 : ∀ k, k < i → Pair (ls k) (upd Tf j (ended (stepR (ls j) (n : Int) (Tf j) m).1.T) k) (upd hf j ⟨a', (nxt (skip ((ls j).drop (hf j).a)) (n : Int) (hf j) m).t, (nxt (skip ((ls j).drop (hf j).a)) (n : Int) (hf j) m).s, (nxt (skip ((ls j).drop (hf j).a)) (n : Int) (hf j) m).mks⟩ k) (nth (if (stepR (ls j) (n : Int) (Tf j) m).2 then ss.set j (stepR (ls j) (n : Int) (Tf j) m).1.s else ss) k) := by
              intro k hk
              by_cases hkj : k = j
              · subst hkj
                rw [upd_same, upd_same]
                have e : nth (if (stepR (ls k) (n : Int) (Tf k) m).2 then ss.set k (stepR (ls k) (n : Int) (Tf k) m).1.s else ss) k = if (stepR (ls k) (n : Int) (Tf k) m).2 then (stepR (ls k) (n : Int) (Tf k) m).1.s else nth ss k := by
                  split
                  · exact nth_set_same (by rw [B.out.slen]; exact hk) _
                  · rfl
                rw [e]
                exact g2
              · rw [upd_other _ _ hkj, upd_other _ _ hkj]
                have e : nth (if (stepR (ls j) (n : Int) (Tf j) m).2 then ss.set j (stepR (ls j) (n : Int) (Tf j) m).1.s else ss) k = nth ss k := by
                  split
                  · exact nth_set_other hkj _
                  · rfl
                rw [e]
                exact PR.out k hk
            have OVU : (upd Tf j (ended (stepR (ls j) (n : Int) (Tf j) m).1.T) j).over = decide (skip ((ls j).drop a') = []) := by rw [upd_same]; exact g4
            have SKU : decide (skip ((ls j).drop (upd hf j ⟨a', (nxt (skip ((ls j).drop (hf j).a)) (n : Int) (hf j) m).t, (nxt (skip ((ls j).drop (hf j).a)) (n : Int) (hf j) m).s, (nxt (skip ((ls j).drop (hf j).a)) (n : Int) (hf j) m).mks⟩ j).a) = []) = decide (skip ((ls j).drop a') = []) := by rw [upd_same]
            rw [g3]
            have CXX : Hid ((stepR (ls j) (n : Int) (Tf j) m).1.m.cnt ≤ (n : Int) + 1 ∧ (stepR (ls j) (n : Int) (Tf j) m).1.m.cs.length = mc) := ⟨by omega, by rw [NL]; exact hml⟩
            have OPX := Lib.hid ((HA.out.still BB0.bel).ops j hji)
            have BB := Lib.hid BB0
            have PRX := Lib.hid PRX0
            have PJ := Lib.hid (PRX0 j hji)
            have OVX := Lib.hid OVU
            have SKX := Lib.hid SKU
            clear BB0 PRX0 OVU SKU g1 g2 g3 g4 g5 NL hsys hmov hsk' ha' FAR TS row8 B7 OP7 NLB7 BD OPD
            generalize upd Tf j (ended (stepR (ls j) (n : Int) (Tf j) m).1.T) = TX at *
            generalize upd hf j ⟨a', (nxt (skip ((ls j).drop (hf j).a)) (n : Int) (hf j) m).t, (nxt (skip ((ls j).drop (hf j).a)) (n : Int) (hf j) m).s, (nxt (skip ((ls j).drop (hf j).a)) (n : Int) (hf j) m).mks⟩ = hX at *
            generalize (if (stepR (ls j) (n : Int) (Tf j) m).2 then ss.set j (stepR (ls j) (n : Int) (Tf j) m).1.s else ss) = ssX at *
            generalize (stepR (ls j) (n : Int) (Tf j) m).1.m = mX at *
            generalize decide (skip ((ls j).drop a') = []) = oo at *
            clear a0 hcnt
            cases oo with
            | true =>
              have X12 : Hid (∀ n, Calls Try.prog 12 #[.pointer (some ⟨tbf j, 0, none⟩)] (w8.drewN n) fun e w' => e = .returned (.bool true) ∧ w8.drewN n = w') := fun n => by
                have h := overs ((BB.out.st hji).drewN n)
                rwa [OVX.out] at h
              have X16 : Hid (∀ n, Calls Try.prog 16 #[.pointer (some ⟨hb, j * 4, none⟩), .slice (Bf j) (ls j).length (cf j)] (w8.drewN n) fun e w' => e = .returned (.bool true) ∧ w8.drewN n = w') := fun n => by
                have h := th_over (w := w8.drewN n) (h := hX j) (Bf j) (cf j) (lbf j) (lof j) (ls j) (BB.out.sys hji).th.c0 (OPX.out.still (below_drewN (Below.refl _ _) n)) PJ.out.a (by have := HLS.out j hji; omega)
                rwa [SKX.out] at h
              have X17 : Hid (∀ n, Calls Try.prog 17 #[.pointer (some ⟨tbf j, 0, none⟩)] (w8.drewN n) fun e w' => e = .returned (.int .i64 ((TX j).told.length : Nat)) ∧ w8.drewN n = w') := fun n => steps ((BB.out.st hji).drewN n)
              have X18 : Hid (∀ n, Calls Try.prog 18 #[.pointer (some ⟨b, 0, none⟩)] (w8.drewN n) fun e w' => e = .returned (.int .i64 mX.cnt) ∧ w8.drewN n = w') := fun n => count_any _ _ _ BB.out.mem.c1
              have X19 : Hid (∀ n, Calls Try.prog 19 #[.pointer (some ⟨tbf j, 0, none⟩)] (w8.drewN n) fun e w' => e = .returned (.bool false) ∧ w8.drewN n = w') := fun n => by
                have h := drys ((BB.out.st hji).drewN n) ⟨.inl PJ.out.ph, fun h' => absurd (PJ.out.ph.symm.trans h') (by decide), fun h' => absurd PJ.out.ph h'⟩
                have h2 : dry (TX j) = false := by simp [dry, PJ.out.ph, OVX.out]
                rwa [h2] at h
              have t1 : w8.cell? ⟨hb, j * 4 + 1, none⟩ = some (.int .i64 ((TX j).told.length : Nat)) := by rw [(BB.out.sys hji).th.c1, PJ.out.t]
              have s2 : w8.cell? ⟨hb, j * 4 + 2, none⟩ = some (.int .i64 (hX j).s) := (BB.out.sys hji).th.c2
              have z0 : w8.cell? ⟨sb, j, none⟩ = some (.int .i64 (hX j).s) := by rw [BB.out.sum.cell, nums_at _ _ (by rw [BB.out.slen]; exact hji), (PJ.out.over OVX.out).2]
              have rc1 : w8.cell? ⟨rb, 1, none⟩ = some (.int .i64 mX.cnt) := BB.out.ref.c1
              have CX := Lib.hid (And.intro CXX.out.1 CXX.out.2)
              generalize hTL : (TX j).told.length = tl at *
              have HTL := Lib.hid hTL
              clear hTL
              generalize hSX : (hX j).s = sx at *
              have HSX := Lib.hid hSX
              clear hSX
              generalize hCX : mX.cnt = cx at *
              have HCX := Lib.hid hCX
              clear hCX
              have e1 : ((tl : Int) != (tl : Int)) = false := by simp
              have e2 : (sx != sx) = false := by simp
              have e3 : (cx != cx) = false := by simp
              go_upto_region 20 with (fail)
              go_quiet ((first | (go_at_call 12; exact quietly (X12.out _)) | (go_at_call 16; exact quietly (X16.out _)) | (go_at_call 17; exact quietly (X17.out _)) | (go_at_call 18; exact quietly (X18.out _)) | (go_at_call 19; exact quietly (X19.out _))))
              go_wp2_with fail
              go_roundw
              case rel => exact ⟨n + 1, by omega, by go_num, _, _, _, _, _, _, _, _, _, BB.out.still (below_drewN (Below.refl _ _) _), PRX.out, by push_cast; rw [HCX.out]; exact CX.out.1, CX.out.2⟩
              case measure => simp [intOf]; omega
            | false =>
              have X12 : Hid (∀ n, Calls Try.prog 12 #[.pointer (some ⟨tbf j, 0, none⟩)] (w8.drewN n) fun e w' => e = .returned (.bool false) ∧ w8.drewN n = w') := fun n => by
                have h := overs ((BB.out.st hji).drewN n)
                rwa [OVX.out] at h
              have X16 : Hid (∀ n, Calls Try.prog 16 #[.pointer (some ⟨hb, j * 4, none⟩), .slice (Bf j) (ls j).length (cf j)] (w8.drewN n) fun e w' => e = .returned (.bool false) ∧ w8.drewN n = w') := fun n => by
                have h := th_over (w := w8.drewN n) (h := hX j) (Bf j) (cf j) (lbf j) (lof j) (ls j) (BB.out.sys hji).th.c0 (OPX.out.still (below_drewN (Below.refl _ _) n)) PJ.out.a (by have := HLS.out j hji; omega)
                rwa [SKX.out] at h
              have X17 : Hid (∀ n, Calls Try.prog 17 #[.pointer (some ⟨tbf j, 0, none⟩)] (w8.drewN n) fun e w' => e = .returned (.int .i64 ((TX j).told.length : Nat)) ∧ w8.drewN n = w') := fun n => steps ((BB.out.st hji).drewN n)
              have X18 : Hid (∀ n, Calls Try.prog 18 #[.pointer (some ⟨b, 0, none⟩)] (w8.drewN n) fun e w' => e = .returned (.int .i64 mX.cnt) ∧ w8.drewN n = w') := fun n => count_any _ _ _ BB.out.mem.c1
              have X19 : Hid (∀ n, Calls Try.prog 19 #[.pointer (some ⟨tbf j, 0, none⟩)] (w8.drewN n) fun e w' => e = .returned (.bool true) ∧ w8.drewN n = w') := fun n => by
                have h := drys ((BB.out.st hji).drewN n) ⟨.inl PJ.out.ph, fun h' => absurd (PJ.out.ph.symm.trans h') (by decide), fun h' => absurd PJ.out.ph h'⟩
                have h2 : dry (TX j) = true := by simp [dry, PJ.out.ph, OVX.out]
                rwa [h2] at h
              have t1 : w8.cell? ⟨hb, j * 4 + 1, none⟩ = some (.int .i64 ((TX j).told.length : Nat)) := by rw [(BB.out.sys hji).th.c1, PJ.out.t]
              have s2 : w8.cell? ⟨hb, j * 4 + 2, none⟩ = some (.int .i64 (hX j).s) := (BB.out.sys hji).th.c2
              have rc1 : w8.cell? ⟨rb, 1, none⟩ = some (.int .i64 mX.cnt) := BB.out.ref.c1
              have CX := Lib.hid (And.intro CXX.out.1 CXX.out.2)
              generalize hTL : (TX j).told.length = tl at *
              have HTL := Lib.hid hTL
              clear hTL
              generalize hSX : (hX j).s = sx at *
              have HSX := Lib.hid hSX
              clear hSX
              generalize hCX : mX.cnt = cx at *
              have HCX := Lib.hid hCX
              clear hCX
              have e1 : ((tl : Int) != (tl : Int)) = false := by simp
              have e2 : (sx != sx) = false := by simp
              have e3 : (cx != cx) = false := by simp
              go_upto_region 20 with (fail)
              go_quiet ((first | (go_at_call 12; exact quietly (X12.out _)) | (go_at_call 16; exact quietly (X16.out _)) | (go_at_call 17; exact quietly (X17.out _)) | (go_at_call 18; exact quietly (X18.out _)) | (go_at_call 19; exact quietly (X19.out _))))
              go_wp2_with fail
              go_roundw
              case rel => exact ⟨n + 1, by omega, by go_num, _, _, _, _, _, _, _, _, _, BB.out.still (below_drewN (Below.refl _ _) _), PRX.out, by push_cast; rw [HCX.out]; exact CX.out.1, CX.out.2⟩
              case measure => simp [intOf]; omega
        · have hL : Likes wr b ab hb i tbf tvf mvf rvf Tf := by
            refine ⟨B.out.all, B.out.tr, fun j hj => ?_, fun j hj => ?_, fun j hj => (B.out.tr j hj).fm⟩
            · rw [B.out.whole.cell]; exact (B.out.th j hj).2.2.2
            · have h1 := B.out.own j hj
              rw [(PR.out j hj).mks] at h1
              exact h1
          have AL := Lib.hid (alike_any ac i (by omega) hL)
          clear hL
          go_wp2_with fail
          refine AL.out.mono ?_
          rintro e w7 ⟨rfl, hb7⟩
          have B7 := Lib.hid (B.out.still hb7)
          have CE := Lib.hid (cells_any B7.out.mem B7.out.ref (by omega))
          clear hb7
          go_wp2_with fail
          refine CE.out.mono ?_
          rintro e w8 ⟨rfl, hb8⟩
          have B8 := Lib.hid (B7.out.still hb8)
          clear hb8
          go_wp2_with fail
          go_ret
          exact ⟨rfl, B8.out.bel⟩
end Go.Proofs.Ytodclnfhhaiblaa
