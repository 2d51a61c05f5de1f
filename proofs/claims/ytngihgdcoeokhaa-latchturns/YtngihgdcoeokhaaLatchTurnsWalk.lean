/-
  Layer 5: the walk of the statement on turns.
-/
import Derived.Test.YtngihgdcoeokhaaLatchMake
import Derived.Test.YtngihgdcoeokhaaLatchInv
import Derived.Test.YtngihgdcoeokhaaLatchWaitsWalk
namespace Go.Proofs.Ytngihgdcoeokhaa
open Go.ChangeShapes Go.WideShapes Go.ChangeAt Go.RowKit
set_option linter.unusedVariables false

/-- The turns in memory. -/
structure Arg5 (w : World) (TA : Option Addr) (TB TO tn : Nat) : Prop where
  ta : 0 < tn → TA = some ⟨TB, TO, none⟩
  turn : ∀ k, k < tn → ∃ x : Int, w.cell? ⟨TB, TO + k, none⟩ = some (.int .u8 x) ∧ 0 ≤ x ∧ x ≤ 255
theorem Arg5.still {w0 w : World} {TA : Option Addr} {TB TO tn : Nat} (H : Arg5 w0 TA TB TO tn) (hb : Below w0.heap.size w0 w) : Arg5 w TA TB TO tn := by
  refine ⟨H.ta, fun k hk => ?_⟩
  obtain ⟨x, h1, h2⟩ := H.turn k hk
  exact ⟨x, (hb.cell (World.block_lt_of_cell? w0 _ h1)).trans h1, h2⟩

/-- The first loop's relation. -/
def TurnsMake (w0 : World) (b g lb nb hb qb P : Nat) (av iv : Value) (wr : World) : Prop :=
  ∃ i : Nat, i ≤ P ∧ iv = .int .i64 i ∧ ∃ ow tbf, Half w0 wr ow b g qb P tbf av i ∧ RSys wr ow lb nb hb P (fun _ => th0) ⟨0, 0, 0⟩ (newThreads P)
/-- The second one's. -/
def TurnsRel (w0 : World) (b g ab lb nb hb qb P : Nat) (tbf : Nat → Nat) (tn : Nat) (ov iv : Value) (wr : World) : Prop :=
  ∃ n : Nat, n ≤ tn ∧ iv = .int .i64 n ∧ ∃ ow xf B tvf mvf Tf c gl cs, ov = .int .i64 B.s ∧ Runs w0 wr ow b g ab qb P tbf xf B n tvf mvf Tf c gl ∧ RSys wr ow lb nb hb P xf B cs ∧ Inv P xf B n

set_option maxHeartbeats 4000000 in
theorem latchTurns_none (th : Int) (TA : Option Addr) (tn tc : Nat) (w : World) (h : 400 < tn) :
    Calls Try.prog 3 #[.int .u8 th, .slice TA tn tc] w fun e w' => e = .returned (.bool true) ∧ Below w.heap.size w w' := by
  have hnot : ∀ (x : Bool) (w : World), (Op.unary .not (.bool x)).run Try.prog w = .ok (.bool (!x)) w := fun _ _ => rfl
  have hgt : decide (400 < (tn : Int)) = true := by simp; omega
  go_enter Try.func3, Try.ntmps3
  go_wp2_with fail
  refine (latch_awake _).mono ?_
  rintro e w1 ⟨rfl, hb1⟩
  go_wp2_with fail
  refine (latch_awake _).mono ?_
  rintro e w3 ⟨rfl, hb3⟩
  go_wp2_with fail
  go_ret
  exact ⟨rfl, hb1.trans (hb3.mono hb1.size)⟩

set_option maxHeartbeats 8000000 in
set_option maxRecDepth 100000 in
theorem latchTurns_some (th : Int) (TA : Option Addr) (TB TO tn tc : Nat) (w : World) (h0 : 0 ≤ th) (h1 : th ≤ 255) (hA : Arg5 w TA TB TO tn) (htn : tn ≤ 400) :
    Calls Try.prog 3 #[.int .u8 th, .slice TA tn tc] w fun e w' => e = .returned (.bool true) ∧ Below w.heap.size w w' := by
  have hnot : ∀ (x : Bool) (w : World), (Op.unary .not (.bool x)).run Try.prog w = .ok (.bool (!x)) w := fun _ _ => rfl
  have hmf : ∀ (fn : Fn) (first cap : Array Value) (w : World), (Instr.makeFunc fn first cap).run Try.prog w = .ok (.func fn first cap) w := fun _ _ _ _ => rfl
  have HA := Lib.hid hA
  clear hA
  have hm16 : th.tmod 16 = th % 16 := Int.tmod_eq_emod_of_nonneg h0
  obtain ⟨P, hP⟩ : ∃ P : Nat, 1 + th % 16 = P := ⟨(1 + th % 16).toNat, by omega⟩
  have hP0 : 0 < P := by omega
  have hP16 : P ≤ 16 := by omega
  have hgt : decide (400 < (tn : Int)) = false := by simp; omega
  have RI := rowInts P (by omega)
  have RT := rowThreads P (by omega)
  obtain ⟨i0, hi0, hz0, hz1, hz2⟩ := ptr_info'
  go_enter Try.func3, Try.ntmps3
  go_wp2_with fail
  refine (latch_awake _).mono ?_
  rintro e w1 ⟨rfl, hb1⟩
  have HB1 := Lib.hid hb1
  clear hb1
  go_upto_region 4 with (fail)
  clear hm16 hP h0 h1
  go_wp2_with fail
  refine (new_mem_ex 3 _).mono ?_
  rintro e w2 ⟨b, g, rfl, hm, hb, hg, hb2⟩
  have HH0 := Lib.hid (first_turns (P := P) HB1.out hm hb hg hb2)
  clear hm hb hg hb2 HB1
  go_upto_region 10 with (fail)
  have HH1 : Hid (Half w ((((w2.alloc (.cells #[.int .i64 0, .int .i64 0] 27)).alloc (.cells #[.int .i64 0] 2)).alloc (.cells (newThreads P) 39)).alloc (.cells (nums (List.replicate P 0)) 2)) (ow0 b g w2.heap.size (w2.heap.size + 1) (w2.heap.size + 1 + 1) (w2.heap.size + 1 + 1 + 1)) b g (w2.heap.size + 1 + 1 + 1) P (fun _ => 0) (.slice none 0 0) 0 ∧
    RSys ((((w2.alloc (.cells #[.int .i64 0, .int .i64 0] 27)).alloc (.cells #[.int .i64 0] 2)).alloc (.cells (newThreads P) 39)).alloc (.cells (nums (List.replicate P 0)) 2)) (ow0 b g w2.heap.size (w2.heap.size + 1) (w2.heap.size + 1 + 1) (w2.heap.size + 1 + 1 + 1)) w2.heap.size (w2.heap.size + 1) (w2.heap.size + 1 + 1) P (fun _ => th0) ⟨0, 0, 0⟩ (newThreads P)) := HH0
  clear HH0
  generalize ((((w2.alloc (.cells #[.int .i64 0, .int .i64 0] 27)).alloc (.cells #[.int .i64 0] 2)).alloc (.cells (newThreads P) 39)).alloc (.cells (nums (List.replicate P 0)) 2)) = w4 at *
  generalize w2.heap.size + 1 + 1 + 1 = qb at *
  generalize w2.heap.size + 1 + 1 = hb at *
  generalize w2.heap.size + 1 = nb at *
  generalize w2.heap.size = lb at *
  clear RI RT
  go_wp2_with fail
  go_loopw [9, 12] (fun av iv wr => TurnsMake w b g lb nb hb qb P av iv wr) (fun _ iv _ => P - (intOf iv).toNat)
  case atStart => exact ⟨0, by omega, by go_num, _, _, HH1.out⟩
  case round =>
    obtain ⟨i, hi, rfl, ow, tbf, hh, hr⟩ := hrel
    obtain ⟨aA, ac, rfl⟩ := own_slice hh.row
    have H := Lib.hid hh
    have RR := Lib.hid hr
    clear hh hr
    by_cases hlt : i < P
    · go_wp2_with fail
      refine (new_trail_ex (m := ⟨[0, 0, 0], 0⟩) H.out.mem).mono ?_
      rintro e w5 ⟨tb, rfl, hs, htb, hbel⟩
      have RO := Lib.hid (own_still H.out.row hbel)
      have MORE : Hid (∀ av' w6, w6.ownsRow 0 31 1 av' (i + 1) (((List.range i).map (fun j => Value.pointer (some ⟨tbf j, 0, none⟩))) ++ [.pointer (some ⟨tb, 0, none⟩)]) → (w5.alloc (.cells #[.pointer (some ⟨tb, 0, none⟩)] 31)).grownBy w6 (Value.slice aA i ac).ownBlock →
          (av'.ownBlock = (Value.slice aA i ac).ownBlock ∨ av'.ownBlock = some (w5.alloc (.cells #[.pointer (some ⟨tb, 0, none⟩)] 31)).heap.size) → ∃ ow' tbf', Half w w6 ow' b g qb P tbf' av' (i + 1) ∧ RSys w6 ow' lb nb hb P (fun _ => th0) ⟨0, 0, 0⟩ (newThreads P)) := by
        refine Lib.hid (fun av' w6 h1 h2 h3 => ?_)
        obtain ⟨m1, m2, m3⟩ := H.out.more hs htb hbel h2 h1 h3
        exact ⟨_, _, m1, RR.out.moved (L := fun x => x = 4) m2 (by decide) (by decide) (by decide) m3⟩
      clear hs htb hbel
      go_wp2_with (at_builtin; refine wpList_append_own_at _ rfl (.tmp 41) (.tmp 44) _ rfl 0 31 i0 _ 1 8 Try.underlying28 hi0 hz0 hz1 hz2 rfl (by omega) _ i _ rfl (RO.out.alloc _) ⟨w5.heap.size, 0, none⟩ 1 1 [.pointer (some ⟨tb, 0, none⟩)] rfl rfl (cell_one_new _ _ _) (by simp [Value.oneCell']) (by simp only [maxLen]; omega) (by omega) (by omega) ?_; intro v' w6 hown' hg' _hnil hat; have MM := Lib.hid (MORE.out v' w6 hown' hg' hat); clear hown' hg' hat _hnil)
      go_roundw
      case rel =>
        obtain ⟨ow6, tbf6, h6, r6⟩ := MM.out
        exact ⟨i + 1, by omega, by go_num, _, _, h6, r6⟩
      case measure => simp [intOf]; omega
    · have hiP : i = P := by omega
      subst hiP
      obtain ⟨ab, rfl, _, _⟩ := own_form H.out.row hP0
      have S0 := Lib.hid H.out.sys
      clear H HH1
      go_wp2_with fail
      go_loopw [13, 14] (fun ov iv wr => TurnsRel w b g ab lb nb hb qb i tbf tn ov iv wr) (fun _ iv _ => tn - (intOf iv).toNat)
      case atStart =>
        refine ⟨0, by omega, by go_num, _, _, ⟨0, 0, 0⟩, _, _, _, _, _, _, by go_num, ⟨S0.out, fun j hj => sim_new, fun j hj h5 => absurd h5 (by decide), by simp⟩, RR.out, inv_new i⟩
      case round =>
        obtain ⟨n, hn, rfl, ow2, xf, B, tvf, mvf, Tf, c, gl, cs, rfl, hR, hRS, hI⟩ := hrel
        have R := Lib.hid hR
        have RS := Lib.hid hRS
        have I := Lib.hid hI
        clear hR hRS hI S0 RR
        by_cases hnt : n < tn
        · obtain ⟨x, hx, hx0, hx1⟩ := (HA.out.still R.out.sys.bel).turn n hnt
          obtain rfl := HA.out.ta (by omega)
          obtain ⟨j, hj⟩ : ∃ j : Nat, x.tmod (i : Int) = j := ⟨(x % (i : Int)).toNat, by
            rw [Int.tmod_eq_emod_of_nonneg hx0]
            have := Int.emod_nonneg x (show (i : Int) ≠ 0 by omega)
            omega⟩
          have hji : j < i := by
            rw [Int.tmod_eq_emod_of_nonneg hx0] at hj
            have := Int.emod_lt_of_pos x (show (0 : Int) < i by omega)
            omega
          have a0 := R.out.sys.all j hji
          have i1 : (0 : Int) ≤ (j : Int) := by omega
          have i2 : (j : Int) < (i : Int) := by omega
          have OV := Lib.hid (overs (R.out.sys.st hji))
          rw [(R.out.sim j hji).over] at OV
          go_wp2_with fail
          refine OV.out.mono ?_
          rintro e w5 ⟨rfl, rfl⟩
          clear OV
          go_upto_region 20 with (fail)
          clear hj hx
          have PS : Hid (∀ n', Calls Try.prog 11 #[.pointer (some ⟨tbf j, 0, none⟩), .int .i64 (n : Int), .func (.func 12) #[.agg #[.pointer (some ⟨qb, j, none⟩)]] #[]] (wr.drewN n') fun e w' =>
              e = .returned (.bool ((ustep (xf j) B).1.at_ == 5)) ∧ w'.cell? ⟨ab, j, none⟩ = some (.pointer (some ⟨tbf j, 0, none⟩)) ∧ ∃ ow' tvf' mvf' Tf' c' gl', Runs w w' ow' b g ab qb i tbf (upd xf j (ustep (xf j) B).1) (ustep (xf j) B).2 (n + 1) tvf' mvf' Tf' c' gl' ∧ RSys w' ow' lb nb hb i xf B cs) := by
            refine Lib.hid (fun n' => ?_)
            have RD := R.out.still (below_drewN (Below.refl _ _) n')
            have RSD := RS.out.still (below_drewN (Below.refl _ _) n')
            refine (runs_step (n : Int) RD hji (by omega)).mono ?_
            rintro e w' ⟨rfl, tvf', mvf', Tf', c', gl', R', ho⟩
            exact ⟨rfl, R'.sys.all j hji, _, _, _, _, _, _, R', RSD.moved (L := fun x => x = 1 ∨ x = 10 + j ∨ x = 3) ho (by omega) (by omega) (by omega) (fun k hk => relab_lt hk)⟩
          go_region_held3 (fun w' => w'.cell? ⟨ab, j, none⟩ = some (.pointer (some ⟨tbf j, 0, none⟩)))
            (first | exact a0 | exact K7)
            ((go_at_call 11; refine (PS.out 1).mono ?_; rintro e w7 ⟨rfl, K7, ow7, tvf7, mvf7, Tf7, c7, gl7, hR7, hRS7⟩))
          have R7 := Lib.hid hR7
          have RS7 := Lib.hid hRS7
          have X := Lib.hid (ref_step (RS7.out.rt hji) (R.out.sim j hji).told.len.2)
          obtain ⟨hinv, hs9⟩ := inv_step I.out hji (by omega)
          have I9 := Lib.hid hinv
          have le5 := Lib.hid (R.out.sim j hji).told.len.2
          clear hR7 hRS7 K7 PS a0 R RS hinv
          go_wp2_with fail
          refine X.out.mono ?_
          rintro e w8 ⟨rfl, cs8, hrt⟩
          obtain ⟨rs8, on8⟩ := RS7.out.ref hji hrt
          have RS8 := Lib.hid rs8
          have R8 : Hid (Runs w w8 ow7 b g ab qb i tbf (upd xf j (ustep (xf j) B).1) (ustep (xf j) B).2 (n + 1) tvf7 mvf7 Tf7 c7 gl7) := by
            exact ⟨R7.out.sys.only (L := fun x => x = 2 ∨ x = 5 ∨ x = 6) on8 (by omega) (by omega) (by omega) (by omega) (fun k hk => by omega), R7.out.sim, R7.out.got, R7.out.cnt⟩
          clear hrt rs8 on8 X R7 RS7
          have hcase : (((xf j).at_ == 5) = true ∧ ((ustep (xf j) B).1.at_ == 5) = true ∧ (ustep (xf j) B).1.at_ = 5 ∧ (ustep (xf j) B).2.s = B.s) ∨ (((xf j).at_ == 5) = false ∧ ((ustep (xf j) B).1.at_ == 5) = true ∧ (ustep (xf j) B).1.at_ = 5 ∧ (ustep (xf j) B).2.s = B.s + 1) ∨ (((xf j).at_ == 5) = false ∧ ((ustep (xf j) B).1.at_ == 5) = false ∧ (ustep (xf j) B).1.at_ ≠ 5 ∧ (ustep (xf j) B).2.s = B.s) := by
            have := le5.out
            by_cases c5 : (xf j).at_ = 5
            · rw [ustep_over _ _ c5]
              exact .inl ⟨by simp [c5], by simp [c5], c5, rfl⟩
            · by_cases c4 : (xf j).at_ = 4
              · rw [if_pos c4] at hs9
                have e5 : (ustep (xf j) B).1.at_ = 5 := by simp [ustep, c4]
                exact .inr (.inl ⟨by simp [c4], by simp [e5], e5, hs9⟩)
              · have e5 : (ustep (xf j) B).1.at_ ≠ 5 := by
                  unfold ustep
                  repeat' split
                  all_goals (simp <;> omega)
                rw [if_neg c4] at hs9
                exact .inr (.inr ⟨by simpa using c5, by simpa using e5, e5, by omega⟩)
          have NX : Hid (∀ w9, Below w8.heap.size w8 w9 → TurnsRel w b g ab lb nb hb qb i tbf tn (.int .i64 (ustep (xf j) B).2.s) (.int .i64 ((n : Int) + 1)) w9) := by
            refine Lib.hid (fun w9 hb9 => ⟨n + 1, by omega, by simp, _, _, _, _, _, _, _, _, _, rfl, R8.out.still hb9, RS8.out.still hb9, I9.out⟩)
          have LK := Lib.hid (look3 R8.out.sys.mem)
          have S9 : Hid (∀ w9, Below w8.heap.size w8 w9 → w9.cell? ⟨hb, j * 3, none⟩ = some (.int .i64 (ustep (xf j) B).1.at_) ∧ w9.cell? ⟨hb, j * 3 + 1, none⟩ = some (.int .i64 (ustep (xf j) B).1.tk) ∧ w9.cell? ⟨lb, 0, none⟩ = some (.int .i64 (ustep (xf j) B).2.d) ∧ w9.cell? ⟨lb, 1, none⟩ = some (.int .i64 (ustep (xf j) B).2.s) ∧ w9.cell? ⟨nb, 0, none⟩ = some (.int .i64 (ustep (xf j) B).2.n) ∧ w9.cell? ⟨qb, j, none⟩ = some (.int .i64 (nth gl7 j))) := by
            refine Lib.hid (fun w9 hb9 => ?_)
            have h1 := ((RS8.out.still hb9).rt hji).c
            rw [upd_same] at h1
            have h2 := (R8.out.still hb9).sys
            exact ⟨h1.1, h1.2.1, h1.2.2.2.1, h1.2.2.2.2.1, h1.2.2.2.2.2, (h2.got.cell j).trans (nums_at gl7 j (by rw [h2.gsize]; exact hji))⟩
          have G9 : Hid ((ustep (xf j) B).1.at_ = 5 → nth gl7 j = (ustep (xf j) B).1.tk) := by
            have := R8.out.got j hji
            rw [upd_same] at this
            exact Lib.hid this
          have hmore := I9.out.more
          have hs0 := I.out.s0
          have hsk : B.s ≤ 400 := by
            have h1 := I.out.sd
            have h2 := I.out.dk
            omega
          clear R8 RS8 I9 I
          generalize hwas : ((xf j).at_ == 5) = was at *
          generalize hyo : ((ustep (xf j) B).1.at_ == 5) = yo at *
          clear hwas hyo hs9 le5
          generalize hY : ustep (xf j) B = Y at *
          clear hY
          obtain ⟨⟨ya, yt, yw⟩, ⟨yn, yd, ys⟩⟩ := Y
          simp only at *
          generalize B.s = bs at *
          rcases hcase with ⟨rfl, rfl, rfl, rfl⟩ | ⟨rfl, rfl, rfl, rfl⟩ | ⟨rfl, rfl, hya, rfl⟩
          · have g9 := G9.out rfl
            rw [g9] at S9
            go_wp2_with fail
            refine LK.out.mono ?_
            rintro e w9 ⟨kb, kc, rfl, k0, k1, k2, hb9⟩
            obtain ⟨t0, t1, l0, l1, n0, q0⟩ := S9.out w9 hb9
            have NX9 : Hid (∀ m, TurnsRel w b g ab lb nb hb qb i tbf tn _ (.int .i64 ((n : Int) + 1)) (w9.drewN m)) := Lib.hid (fun m => NX.out _ (below_drewN hb9 m))
            clear NX S9 LK hb9 G9
            go_upto_region 25 with (fail)
            go_quiet (fail)
            go_wp2_with fail
            go_roundw
            case rel => exact NX9.out nq
            case measure => simp [intOf]; omega
          · have g9 := G9.out rfl
            rw [g9] at S9
            go_wp2_with fail
            refine LK.out.mono ?_
            rintro e w9 ⟨kb, kc, rfl, k0, k1, k2, hb9⟩
            obtain ⟨t0, t1, l0, l1, n0, q0⟩ := S9.out w9 hb9
            have NX9 : Hid (∀ m, TurnsRel w b g ab lb nb hb qb i tbf tn _ (.int .i64 ((n : Int) + 1)) (w9.drewN m)) := Lib.hid (fun m => NX.out _ (below_drewN hb9 m))
            clear NX S9 LK hb9 G9
            go_upto_region 25 with (fail)
            go_quiet (fail)
            go_wp2_with fail
            go_roundw
            case rel => exact NX9.out nq
            case measure => simp [intOf]; omega
          · have hya' : ((ya : Int) == 5) = false := beq_eq_false_iff_ne.2 (by omega)
            go_wp2_with fail
            refine LK.out.mono ?_
            rintro e w9 ⟨kb, kc, rfl, k0, k1, k2, hb9⟩
            obtain ⟨t0, t1, l0, l1, n0, q0⟩ := S9.out w9 hb9
            have NX9 : Hid (∀ m, TurnsRel w b g ab lb nb hb qb i tbf tn _ (.int .i64 ((n : Int) + 1)) (w9.drewN m)) := Lib.hid (fun m => NX.out _ (below_drewN hb9 m))
            clear NX S9 LK hb9 G9
            go_upto_region 25 with (fail)
            go_quiet (fail)
            go_wp2_with fail
            go_roundw
            case rel => exact NX9.out nq
            case measure => simp [intOf]; omega
        · have HB9 := Lib.hid R.out.sys.bel
          clear R RS I
          go_wp2_with fail
          go_ret
          exact ⟨rfl, HB9.out⟩
end Go.Proofs.Ytngihgdcoeokhaa
