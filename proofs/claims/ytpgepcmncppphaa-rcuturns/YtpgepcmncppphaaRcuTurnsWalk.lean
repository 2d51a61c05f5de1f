/-
  Layer 4: the walk of the statement on turns.
-/
import Derived.Test.YtpgepcmncppphaaRcuEq
namespace Go.Proofs.Ytpgepcmncppphaa
open Go.ChangeShapes Go.WideShapes Go.ChangeAt Go.RowKit
set_option linter.unusedVariables false

set_option maxHeartbeats 8000000 in
set_option maxRecDepth 100000 in
theorem turns_some (LA : Option Addr) (LB LO lc P : Nat) (kf pf : Nat → Int) (TA : Option Addr) (TB TO tn tc : Nat) (w : World)
    (hA : Arg4 w LA LB LO P kf pf TA TB TO tn) (hP0 : 0 < P) (hP8 : P ≤ 8) (htn : tn ≤ 300) :
    Calls Try.prog 3 #[.slice LA P lc, .slice TA tn tc] w fun e w' => e = .returned (.bool true) ∧ Below w.heap.size w w' := by
  have hnot : ∀ (x : Bool) (w : World), (Op.unary .not (.bool x)).run Try.prog w = .ok (.bool (!x)) w := fun _ _ => rfl
  have HA := Lib.hid hA
  obtain rfl := hA.la hP0
  clear hA
  obtain ⟨rf, hrf⟩ : ∃ rf : Nat → Nat, ∀ i, i < P → pf i % 16 = rf i ∧ rf i < 16 := ⟨fun i => (pf i % 16).toNat, fun i hi => ⟨by simp only; omega, by simp only; omega⟩⟩
  have HRF := Lib.hid hrf
  clear hrf
  have RT := rowTasks P (by omega)
  have RB := rowBools P (by omega)
  obtain ⟨i0, hi0, hz0, hz1, hz2⟩ := ptr_info'
  have hne0 : ((P : Int) == 0) = false := beq_eq_false_iff_ne.2 (by omega)
  have hgt1 : decide (8 < (P : Int)) = false := by simp; omega
  have hgt0 : decide (300 < (tn : Int)) = false := by simp; omega
  go_enter Try.func3, Try.ntmps3
  go_wp2_with fail
  refine (rcu_awake _).mono ?_
  rintro e w1 ⟨rfl, hb1⟩
  have HB1 := Lib.hid hb1
  clear hb1
  go_wp2_with fail
  refine (new_mem_ex 30 _).mono ?_
  rintro e w2 ⟨b, g, rfl, hm, hb, hg, hb2⟩
  have HH0 := Lib.hid (half_first (P := P) kf rf HB1.out hm hb hg hb2)
  clear hm hb hg hb2 HB1
  go_upto_region 8 with (fail)
  have HH1 : Hid (Half w (((w2.alloc (.cells #[Value.int .i64 0, Value.int .i64 0, Value.int .i64 0, Value.int .i64 0, Value.int .i64 0, Value.int .i64 0, Value.int .i64 0, Value.int .i64 0, Value.int .i64 0, Value.int .i64 0, Value.int .i64 0, Value.int .i64 0, Value.int .i64 0, Value.int .i64 0, Value.int .i64 0, Value.int .i64 0, Value.int .i64 0] 29)).alloc (.cells (newTasks P) 37)).alloc (.cells (madeCells #[.bool false] P) 4)) (ow0 b g w2.heap.size (w2.heap.size + 1) (w2.heap.size + 1 + 1)) b g w2.heap.size (w2.heap.size + 1) (w2.heap.size + 1 + 1) P kf rf (fun _ => 0) (.slice none 0 0) 0 0 (newTasks P)) := HH0
  clear HH0
  generalize (((w2.alloc (.cells #[Value.int .i64 0, Value.int .i64 0, Value.int .i64 0, Value.int .i64 0, Value.int .i64 0, Value.int .i64 0, Value.int .i64 0, Value.int .i64 0, Value.int .i64 0, Value.int .i64 0, Value.int .i64 0, Value.int .i64 0, Value.int .i64 0, Value.int .i64 0, Value.int .i64 0, Value.int .i64 0, Value.int .i64 0] 29)).alloc (.cells (newTasks P) 37)).alloc (.cells (madeCells #[.bool false] P) 4)) = w4 at *
  generalize w2.heap.size + 1 + 1 = qb at *
  generalize w2.heap.size + 1 = hb at *
  generalize w2.heap.size = bb at *
  clear RT RB
  go_wp2_with fail
  go_loopw [7, 10] (fun av iv wr => MakeRel w b g bb hb qb P kf rf av iv wr) (fun _ iv _ => P - (intOf iv).toNat)
  case atStart => exact ⟨0, by omega, by go_num, _, _, _, HH1.out⟩
  case round =>
    obtain ⟨i, hi, rfl, ow, tbf, cs, hh⟩ := hrel
    obtain ⟨aA, ac, rfl⟩ := own_slice hh.row
    have H := Lib.hid hh
    clear hh
    by_cases hlt : i < P
    · go_wp2_with fail
      refine (new_trail_ex (m := ⟨List.replicate 30 0, 0⟩) H.out.mem).mono ?_
      rintro e w5 ⟨tb, rfl, hs, htb, hbel⟩
      have RO := Lib.hid (own_still H.out.row hbel)
      have MORE : Hid (∀ av' w6, w6.ownsRow 0 33 1 av' (i + 1) (((List.range i).map (fun j => Value.pointer (some ⟨tbf j, 0, none⟩))) ++ [.pointer (some ⟨tb, 0, none⟩)]) → (w5.alloc (.cells #[.pointer (some ⟨tb, 0, none⟩)] 33)).grownBy w6 (Value.slice aA i ac).ownBlock →
          (av'.ownBlock = (Value.slice aA i ac).ownBlock ∨ av'.ownBlock = some (w5.alloc (.cells #[.pointer (some ⟨tb, 0, none⟩)] 33)).heap.size) → ∃ ow' tbf', Half w w6 ow' b g bb hb qb P kf rf tbf' av' (i + 1) i cs) :=
        fun av' w6 h1 h2 h3 => ⟨_, _, H.out.more hs htb hbel h2 h1 h3⟩
      clear hs htb hbel
      go_upto_region 12 with (at_builtin; refine wpList_append_own_at _ rfl (.tmp 45) (.tmp 48) _ rfl 0 33 i0 _ 1 8 Try.underlying30 hi0 hz0 hz1 hz2 rfl (by omega) _ i _ rfl (RO.out.alloc _) ⟨w5.heap.size, 0, none⟩ 1 1 [.pointer (some ⟨tb, 0, none⟩)] rfl rfl (cell_one_new _ _ _) (by simp [Value.oneCell']) (by simp only [maxLen]; omega) (by omega) (by omega) ?_; intro v' w6 hown' hg' _hnil hat; have MM := Lib.hid (MORE.out v' w6 hown' hg' hat); clear hown' hg' hat _hnil)
      obtain ⟨ow6, tbf6, h6⟩ := MM.out
      have H6 := Lib.hid h6
      clear h6 MM MORE RO H
      have AK := (HA.out.still H6.out.bel).k i hlt
      have AP := (HA.out.still H6.out.bel).p i hlt
      have hr := HRF.out i hlt
      obtain ⟨ak, ak0, ak1⟩ := AK
      obtain ⟨ap, ap0, ap1⟩ := AP
      have i1 : (0 : Int) ≤ (i : Int) := by omega
      have i2 : (i : Int) < (P : Int) := by omega
      have hce : ∀ k, k < 6 → ∃ v, w6.cell? ⟨hb, i * 6 + k, none⟩ = some v := fun k hk => by
        have : i * 6 + k < cs.size := by rw [H6.out.size]; omega
        exact ⟨cs[i * 6 + k], (H6.out.whole.cell _).trans (Array.getElem?_eq_getElem this)⟩
      obtain ⟨v0, e0⟩ := hce 0 (by omega)
      obtain ⟨v1, e1⟩ := hce 1 (by omega)
      obtain ⟨v2, e2⟩ := hce 2 (by omega)
      obtain ⟨v3, e3⟩ := hce 3 (by omega)
      obtain ⟨v4, e4⟩ := hce 4 (by omega)
      obtain ⟨v5, e5⟩ := hce 5 (by omega)
      have f0 := H6.out.whole.frozen (i * 6)
      have f1 := H6.out.whole.frozen (i * 6 + 1)
      have f2 := H6.out.whole.frozen (i * 6 + 2)
      have f3 := H6.out.whole.frozen (i * 6 + 3)
      have f4 := H6.out.whole.frozen (i * 6 + 4)
      have f5 := H6.out.whole.frozen (i * 6 + 5)
      simp only [Nat.add_zero] at e0
      clear hce
      go_region
      have HT := Lib.hid ((H6.out.task hlt).still (below_drew (Below.refl _ _)))
      clear e0 e1 e2 e3 e4 e5 f0 f1 f2 f3 f4 f5 ak ap H6
      go_wp2_with fail
      go_roundw
      case rel => exact ⟨i + 1, by omega, by go_num, _, _, _, HT.out⟩
      case measure => simp [intOf]; omega
    · have hiP : i = P := by omega
      subst hiP
      obtain ⟨ab, rfl, _, _⟩ := own_form H.out.row hP0
      have S0 := Lib.hid H.out.sys
      clear H
      go_wp2_with fail
      go_loopw [11] (fun iv wr => TurnsRel w b g bb ab hb qb i kf rf tbf tn iv wr) (fun iv _ => tn - (intOf iv).toNat)
      case atStart =>
        refine ⟨0, by omega, by go_num, _, _, _, _, _, _, _, _, _, S0.out, fun j hj => sim_new _, bl0_seen, by simp⟩
      case round =>
        obtain ⟨n, hn, rfl, ow2, tvf, mvf, Tf, xf, m, bl, cs2, fl, hS, hSim, hbl, hcnt⟩ := hrel
        have S := Lib.hid hS
        have SIM := Lib.hid hSim
        have HBL := Lib.hid hbl
        clear hS hSim hbl S0
        by_cases hnt : n < tn
        · obtain ⟨x, hx, hx0, hx1⟩ := (HA.out.still S.out.bel).turn n hnt
          obtain rfl := HA.out.ta (by omega)
          obtain ⟨j, hj⟩ : ∃ j : Nat, x % (i : Int) = j := ⟨(x % (i : Int)).toNat, by have := Int.emod_nonneg x (show (i : Int) ≠ 0 by omega); omega⟩
          have hji : j < i := by have := Int.emod_lt_of_pos x (show (0 : Int) < i by omega); omega
          have HJ := Lib.hid hj
          clear hj
          have a0 := S.out.all j hji
          have AK := (HA.out.still S.out.bel).k j hji
          obtain ⟨ak, ak0, ak1⟩ := AK
          obtain ⟨hrj, hrj1⟩ := HRF.out j hji
          have i1 : (0 : Int) ≤ (j : Int) := by omega
          have i2 : (j : Int) < (i : Int) := by omega
          have hmf : ∀ (fn : Fn) (first cap : Array Value) (w : World), (Instr.makeFunc fn first cap).run Try.prog w = .ok (.func fn first cap) w := fun _ _ _ _ => rfl
          have t1 : wr.cell? ⟨hb, j * 6 + 1, none⟩ = some (.int .i64 (rf j)) := (S.out.rs hji).c.2.1
          go_upto_region 17 with (fail)
          rw [HJ.out]
          have PS : Hid (∀ n', Calls Try.prog 10 #[.pointer (some ⟨tbf j, 0, none⟩), .int .i64 (n : Int), .func (.func 11) #[.agg #[.int .u8 (kf j), .int .i64 (rf j), .pointer (some ⟨qb, j, none⟩)]] #[]] (wr.drewN n') fun e w' =>
              e = .returned (.bool (rstep (kf j) (rf j) (xf j) bl).1.over) ∧ ∃ a T' m' tv' mv', ((xf j).went || a) = (rstep (kf j) (rf j) (xf j) bl).1.went ∧ SStep (kf j) (rstep (kf j) (rf j) (xf j) bl).1 (rstep (kf j) (rf j) (xf j) bl).2 (wr.drewN n') b g (tbf j) (tvf j) (mvf j) (some ⟨qb, j, none⟩) m a T' m' tv' mv' w') := by
            refine Lib.hid (fun n' => ?_)
            have SD := S.out.still (below_drewN (Below.refl _ _) n')
            have := sim_step (n : Int) (rf j) hrj1 ak0 ak1 (SD.st hji) (SIM.out j hji) SD.len (SD.flagIn hji) (fun _ => by simp) (by omega)
            rw [HBL.out] at this
            exact this
          clear hx
          have LBL : Hid (LB < w.heap.size) := World.block_lt_of_cell? w _ (HA.out.k j hji).1
          have FAR : Hid (∀ n' y bl' a T' m' tv' mv' w7, SStep (kf j) y bl' (wr.drewN n') b g (tbf j) (tvf j) (mvf j) (some ⟨qb, j, none⟩) m a T' m' tv' mv' w7 → w7.cell? ⟨ab, j, none⟩ = some (.pointer (some ⟨tbf j, 0, none⟩)) ∧ w7.cell? ⟨LB, LO + j * 2, none⟩ = some (.int .u8 (kf j)) ∧ w7.cell? ⟨hb, j * 6 + 1, none⟩ = some (.int .i64 (rf j))) := by
            refine Lib.hid (fun n' y bl' a T' m' tv' mv' w7 hst => ?_)
            have SD := S.out.still (below_drewN (Below.refl _ _) n')
            have key : ∀ (p : Addr) (u : Value), wr.cell? p = some u → (ow2 p.block = 0 ∨ ow2 p.block = 4 ∨ ow2 p.block = 5) → w7.cell? p = some u := by
              intro p u hp hl
              refine (hst.only.cell (p := p) (World.block_lt_of_cell? (wr.drewN n') _ hp) ?_).trans hp
              rintro (h | ⟨q, hq, hk⟩)
              · have := SD.mine hji h
                omega
              · injection hq with hq
                subst hq
                simp only at hk
                have := SD.lqb
                rw [← hk] at this
                omega
            exact ⟨key _ _ a0 (.inr (.inl S.out.lab)), key _ _ ak (.inl (S.out.old LB LBL.out)), key _ _ t1 (.inr (.inr S.out.lhb))⟩
          go_region_held3 (fun w' => w'.cell? ⟨ab, j, none⟩ = some (.pointer (some ⟨tbf j, 0, none⟩)) ∧ w'.cell? ⟨LB, LO + j * 2, none⟩ = some (.int .u8 (kf j)) ∧ w'.cell? ⟨hb, j * 6 + 1, none⟩ = some (.int .i64 (rf j)))
            (first | exact ⟨a0, ak, t1⟩ | exact K7)
            ((go_at_call 10; refine (PS.out 1).mono ?_; rintro e w7 ⟨rfl, a7, T7, m7, tv7, mv7, ha7, hst⟩; have K7 := FAR.out _ _ _ _ _ _ _ _ _ hst))
          have S7 := Lib.hid ((S.out.still (below_drewN (Below.refl _ _) 1)).stepped hji hst)
          have RS := Lib.hid (ref_step (S7.out.rs hji) ak0 hrj1 (SIM.out j hji).at_)
          have BD7 : Hid (seen m7.cs 3 17 = (rstep (kf j) (rf j) (xf j) bl).2 ∧ Sim (kf j) (rstep (kf j) (rf j) (xf j) bl).1 T7 ∧ m7.cnt ≤ (n : Int) + 1) := ⟨hst.board, hst.sim, by have := hst.cnt; omega⟩
          have HA7 := Lib.hid ha7
          clear hst FAR PS K7 ha7 a0 ak t1 LBL
          go_upto_region 18 with (fail)
          go_wp2_with fail
          refine RS.out.mono ?_
          rintro e w8 ⟨rfl, cs8, hR⟩
          have S8 := Lib.hid (S7.out.ref hji hR)
          clear hR RS S7
          generalize hY : rstep (kf j) (rf j) (xf j) bl = Y at *
          clear hY
          have hwf : upd (fun i => (xf i).went) j ((xf j).went || a7) = fun i => (upd xf j Y.1 i).went := by
            funext k
            by_cases hk : k = j
            · subst hk; rw [upd_same, upd_same]; exact HA7.out
            · rw [upd_other _ _ hk, upd_other _ _ hk]
          have S9 := S8.out
          rw [hwf] at S9
          have NX : Hid (∀ w9, Below w8.heap.size w8 w9 → TurnsRel w b g bb ab hb qb i kf rf tbf tn (.int .i64 ((n : Int) + 1)) w9) := by
            refine Lib.hid (fun w9 hb9 => ⟨n + 1, by omega, by simp, _, _, _, _, _, _, _, _, _, S9.still hb9, fun k hk => ?_, BD7.out.1, by have := BD7.out.2.2; push_cast; omega⟩)
            by_cases hkj : k = j
            · subst hkj; rw [upd_same, upd_same]; exact BD7.out.2.1
            · rw [upd_other _ _ hkj, upd_other _ _ hkj]; exact SIM.out k hk
          have KB : Hid (∀ p : Kin w8, Calls Try.prog 13 #[.pointer (some ⟨b, 0, none⟩)] p.v fun e w' => e = .returned (.agg (nums Y.2)) ∧ ∃ q : Kin w8, w' = q.v) := by
            refine Lib.hid (fun p => ?_)
            have h := board_walk (S9.still p.h).mem S9.len
            rw [BD7.out.1] at h
            refine h.mono ?_
            rintro e w' ⟨rfl, hb'⟩
            exact ⟨rfl, ⟨w', p.h.trans (hb'.mono p.h.size)⟩, rfl⟩
          have o4 : ∀ p : Kin w8, p.v.cell? ⟨hb, j * 6 + 4, none⟩ = some (.bool Y.1.over) := fun p => by
            have := ((S9.still p.h).rs hji).c.2.2.2.2.1
            rwa [upd_same] at this
          have o5 : ∀ p : Kin w8, p.v.cell? ⟨hb, j * 6 + 5, none⟩ = some (.bool Y.1.went) := fun p => by
            have := ((S9.still p.h).rs hji).c.2.2.2.2.2
            rwa [upd_same] at this
          have q5 : ∀ p : Kin w8, p.v.cell? ⟨qb, j, none⟩ = some (.bool Y.1.went) := fun p => by
            have := ((S9.still p.h).flag.cell j).trans (S9.fls j hji)
            rwa [upd_same] at this
          have KL : Hid (∀ w' : World, (∃ p : Kin w8, w' = p.v) → (loadVar 29 ⟨bb, 0, none⟩).run Try.prog w' = .ok (.agg (nums Y.2)) w') := by
            refine Lib.hid (fun w' hw' => ?_)
            obtain ⟨p, rfl⟩ := hw'
            exact board_load p.v bb Y.2 S9.blen (S9.still p.h).board
          have KN : ∀ w, (binOp .neq 29 (.agg (nums Y.2)) (.agg (nums Y.2))).run Try.prog w = .ok (.bool false) w := board_neq Y.2 S9.blen
          have KE : ∀ w, (Op.equalIn 10000 29 (.agg (nums Y.2)) (.agg (nums Y.2))).run Try.prog w = .ok true w := board_eq Y.2 S9.blen
          have KG := board_guard
          clear S8 S9 S SIM HBL BD7 HA7 hwf
          generalize nums Y.2 = zs at *
          generalize Y.1.over = yo at *
          generalize Y.1.went = yw at *
          have ne1 : (yw != yw) = false := by simp
          cases yo with
          | false =>
            go_upto_region 19 with (fail)
            refine region_kin (by kernel_rfl) (by kernel_rfl) ?_
            iterate 25 go_big_quiet_step ((go_at_call 13; exact KB.out _))
            go_big_quiet_want
            refine quiet_load_row 29 _ rfl bb (.agg zs) rfl KL.out ?_
            go_big_quiet_on
            quiet_step (fail)
            quiet_step (fail)
            refine wpQuiet_nil ?_
            intro _ hw'
            obtain ⟨p9, rfl⟩ := hw'
            have NX9 := Lib.hid (NX.out p9.v p9.h)
            go_wp2_with fail
            go_roundw
            case rel => exact NX9.out
            case measure => simp [intOf]; omega
          | true =>
            go_upto_region 19 with (fail)
            refine region_kin (by kernel_rfl) (by kernel_rfl) ?_
            iterate 25 go_big_quiet_step ((go_at_call 13; exact KB.out _))
            go_big_quiet_want
            refine quiet_load_row 29 _ rfl bb (.agg zs) rfl KL.out ?_
            go_big_quiet_on
            quiet_step (fail)
            quiet_step (fail)
            refine wpQuiet_nil ?_
            intro _ hw'
            obtain ⟨p9, rfl⟩ := hw'
            have NX9 := Lib.hid (NX.out p9.v p9.h)
            go_wp2_with fail
            go_roundw
            case rel => exact NX9.out
            case measure => simp [intOf]; omega
        · go_wp2_with fail
          go_ret
          exact ⟨rfl, S.out.bel⟩
end Go.Proofs.Ytpgepcmncppphaa
