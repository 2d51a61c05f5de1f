/-
  Layer 5: the walk of the statement on fairness.
-/
import Derived.Test.YtngihgdcoeokhaaLatchMake
import Derived.Test.YtngihgdcoeokhaaLatchInv
namespace Go.Proofs.Ytngihgdcoeokhaa
open Go.ChangeShapes Go.WideShapes Go.ChangeAt Go.RowKit
set_option linter.unusedVariables false

/-- The first loop's relation. -/
def FairMake (w0 : World) (b g qb P : Nat) (av iv : Value) (wr : World) : Prop :=
  ∃ i : Nat, i ≤ P ∧ iv = .int .i64 i ∧ ∃ ow tbf, Half w0 wr ow b g qb P tbf av i
/-- The second one's. -/
def FairRel (w0 : World) (b g ab qb P f : Nat) (tbf : Nat → Nat) (tn : Nat) (iv : Value) (wr : World) : Prop :=
  ∃ n : Nat, n ≤ tn ∧ iv = .int .i64 n ∧ ∃ ow xf B tvf mvf Tf c gl, Runs w0 wr ow b g ab qb P tbf xf B n tvf mvf Tf c gl ∧ Fair P f n xf B

set_option maxHeartbeats 8000000 in
set_option maxRecDepth 100000 in
theorem latchFair_walk (th first : Int) (w : World) (h0 : 0 ≤ th) (h1 : th ≤ 255) (g0 : 0 ≤ first) (g1 : first ≤ 255) :
    Calls Try.prog 4 #[.int .u8 th, .int .u8 first] w fun e w' => e = .returned (.bool true) ∧ Below w.heap.size w w' := by
  have hnot : ∀ (x : Bool) (w : World), (Op.unary .not (.bool x)).run Try.prog w = .ok (.bool (!x)) w := fun _ _ => rfl
  have hmf : ∀ (fn : Fn) (first cap : Array Value) (w : World), (Instr.makeFunc fn first cap).run Try.prog w = .ok (.func fn first cap) w := fun _ _ _ _ => rfl
  have hm16 : th.tmod 16 = th % 16 := Int.tmod_eq_emod_of_nonneg h0
  obtain ⟨P, hP⟩ : ∃ P : Nat, 1 + th % 16 = P := ⟨(1 + th % 16).toNat, by omega⟩
  have hP0 : 0 < P := by omega
  have hP16 : P ≤ 16 := by omega
  obtain ⟨ft, rfl⟩ : ∃ ft : Nat, first = ft := ⟨first.toNat, by omega⟩
  have RI := rowInts P (by omega)
  obtain ⟨i0, hi0, hz0, hz1, hz2⟩ := ptr_info'
  go_enter Try.func4, Try.ntmps4
  go_wp2_with fail
  refine (latch_awake _).mono ?_
  rintro e w1 ⟨rfl, hb1⟩
  have HB1 := Lib.hid hb1
  clear hb1
  go_upto_region 4 with (fail)
  clear hm16 hP h0 h1
  go_wp2_with fail
  refine (new_mem_ex 3 _).mono ?_
  rintro e w2 ⟨b, g, rfl, hm, hb, hg, hb2⟩
  have HH0 := Lib.hid (first_fair (P := P) HB1.out hm hb hg hb2)
  clear hm hb hg hb2 HB1
  go_upto_region 7 with (fail)
  generalize w2.alloc (.cells (nums (List.replicate P 0)) 2) = w4 at *
  generalize w2.heap.size = qb at *
  clear RI
  go_wp2_with fail
  go_loopw [7, 9] (fun av iv wr => FairMake w b g qb P av iv wr) (fun _ iv _ => P - (intOf iv).toNat)
  case atStart => exact ⟨0, by omega, by go_num, _, _, HH0.out⟩
  case round =>
    obtain ⟨i, hi, rfl, ow, tbf, hh⟩ := hrel
    obtain ⟨aA, ac, rfl⟩ := own_slice hh.row
    have H := Lib.hid hh
    clear hh
    by_cases hlt : i < P
    · go_wp2_with fail
      refine (new_trail_ex (m := ⟨[0, 0, 0], 0⟩) H.out.mem).mono ?_
      rintro e w5 ⟨tb, rfl, hs, htb, hbel⟩
      have RO := Lib.hid (own_still H.out.row hbel)
      have MORE : Hid (∀ av' w6, w6.ownsRow 0 31 1 av' (i + 1) (((List.range i).map (fun j => Value.pointer (some ⟨tbf j, 0, none⟩))) ++ [.pointer (some ⟨tb, 0, none⟩)]) → (w5.alloc (.cells #[.pointer (some ⟨tb, 0, none⟩)] 31)).grownBy w6 (Value.slice aA i ac).ownBlock →
          (av'.ownBlock = (Value.slice aA i ac).ownBlock ∨ av'.ownBlock = some (w5.alloc (.cells #[.pointer (some ⟨tb, 0, none⟩)] 31)).heap.size) → ∃ ow' tbf', Half w w6 ow' b g qb P tbf' av' (i + 1)) :=
        fun av' w6 h1 h2 h3 => ⟨_, _, (H.out.more hs htb hbel h2 h1 h3).1⟩
      clear hs htb hbel
      go_wp2_with (at_builtin; refine wpList_append_own_at _ rfl (.tmp 29) (.tmp 32) _ rfl 0 31 i0 _ 1 8 Try.underlying28 hi0 hz0 hz1 hz2 rfl (by omega) _ i _ rfl (RO.out.alloc _) ⟨w5.heap.size, 0, none⟩ 1 1 [.pointer (some ⟨tb, 0, none⟩)] rfl rfl (cell_one_new _ _ _) (by simp [Value.oneCell']) (by simp only [maxLen]; omega) (by omega) (by omega) ?_; intro v' w6 hown' hg' _hnil hat; have MM := Lib.hid (MORE.out v' w6 hown' hg' hat); clear hown' hg' hat _hnil)
      go_roundw
      case rel =>
        obtain ⟨ow6, tbf6, h6⟩ := MM.out
        exact ⟨i + 1, by omega, by go_num, _, _, h6⟩
      case measure => simp [intOf]; omega
    · have hiP : i = P := by omega
      subst hiP
      obtain ⟨ab, rfl, _, _⟩ := own_form H.out.row hP0
      have S0 := Lib.hid H.out.sys
      clear H HH0
      have hfN := Nat.mod_lt ft hP0
      obtain ⟨M, hM⟩ : ∃ M : Nat, M = 8 * i * i := ⟨_, rfl⟩
      have hMI : 8 * (i : Int) * (i : Int) = (M : Int) := by rw [hM]; push_cast; rfl
      have hM2 : M ≤ 2048 := by
        rw [hM]
        exact Nat.le_trans (Nat.mul_le_mul (Nat.mul_le_mul_left 8 hP16) hP16) (by decide)
      have HMM := Lib.hid hM
      clear hM
      go_wp2_with fail
      go_loopw [10] (fun iv wr => FairRel w b g ab qb i (ft % i) tbf M iv wr) (fun iv _ => M - (intOf iv).toNat)
      case atStart =>
        refine ⟨0, by omega, by go_num, _, _, ⟨0, 0, 0⟩, _, _, _, _, _, ⟨S0.out, fun j hj => sim_new, fun j hj h5 => absurd h5 (by decide), by simp⟩, fair_new i (ft % i) hP0⟩
      case round =>
        obtain ⟨n, hn, rfl, ow2, xf, B, tvf, mvf, Tf, c, gl, hR, hF⟩ := hrel
        have R := Lib.hid hR
        have F := Lib.hid hF
        clear hR hF S0
        by_cases hnM : n < M
        · obtain ⟨j, hj⟩ : ∃ j : Nat, ((n : Int) + (ft : Int)).tmod i = j := ⟨(n + ft) % i, by rw [Int.tmod_eq_emod_of_nonneg (by omega)]; push_cast; rfl⟩
          have hji : j < i ∧ ∀ q l, n = q * i + l → l < i → tkOf i (ft % i) j = l := by
            have e : j = (n + ft) % i := by
              rw [Int.tmod_eq_emod_of_nonneg (by omega)] at hj
              exact_mod_cast hj.symm
            subst e
            exact ⟨Nat.mod_lt _ hP0, fun q l h1 h2 => (tkOf_pick i ft n q l hP0 h1 h2).2⟩
          have TK := Lib.hid hji.2
          replace hji := hji.1
          go_upto_region 15 with (fail)
          clear hj
          have a0 := R.out.sys.all j hji
          have i1 : (0 : Int) ≤ (j : Int) := by omega
          have i2 : (j : Int) < (i : Int) := by omega
          have PS : Hid (∀ n', Calls Try.prog 11 #[.pointer (some ⟨tbf j, 0, none⟩), .int .i64 (n : Int), .func (.func 12) #[.agg #[.pointer (some ⟨qb, j, none⟩)]] #[]] (wr.drewN n') fun e w' =>
              e = .returned (.bool ((ustep (xf j) B).1.at_ == 5)) ∧ w'.cell? ⟨ab, j, none⟩ = some (.pointer (some ⟨tbf j, 0, none⟩)) ∧ FairRel w b g ab qb i (ft % i) tbf M (.int .i64 ((n : Int) + 1)) w') := by
            refine Lib.hid (fun n' => ?_)
            have RD := R.out.still (below_drewN (Below.refl _ _) n')
            refine (runs_step (n : Int) RD hji (by omega)).mono ?_
            rintro e w' ⟨rfl, tvf', mvf', Tf', c', gl', R', _⟩
            exact ⟨rfl, R'.sys.all j hji, n + 1, by omega, by simp, _, _, _, _, _, _, _, _, R', fair_step F.out hfN (by omega) hji TK.out⟩
          go_region_held3 (fun w' => w'.cell? ⟨ab, j, none⟩ = some (.pointer (some ⟨tbf j, 0, none⟩)))
            (first | exact a0 | exact K7)
            ((go_at_call 11; refine (PS.out 1).mono ?_; rintro e w7 ⟨rfl, K7, hst⟩))
          have NX := Lib.hid hst
          clear hst PS K7 a0 R F TK
          go_wp2_with fail
          go_roundw
          case rel => exact NX.out
          case measure => simp [intOf]; omega
        · have hnM2 : n = M := by omega
          subst hnM2
          have hend := fair_end (HMM.out ▸ F.out) hP0 hfN
          have L := Lib.hid (load_cell 0 R.out.sys.mem (by simp [Bd.cells]) (by have := R.out.cnt; omega))
          rw [show nth B.cells 0 = B.n from rfl, hend.1] at L
          have ALL := Lib.hid hend.2
          clear hend F
          go_wp2_with fail
          refine L.out.mono ?_
          rintro e w7 ⟨rfl, hm7, ho7⟩
          have S7 := Lib.hid (R.out.sys.memory hm7 ho7)
          have REST : Hid (∀ j, j < i → (Tf j).over = true ∧ nth gl j = tkOf i (ft % i) j) := by
            refine Lib.hid (fun j hj => ⟨?_, ?_⟩)
            · rw [(R.out.sim j hj).over, (ALL.out j hj).1]; rfl
            · rw [R.out.got j hj (ALL.out j hj).1, (ALL.out j hj).2]
          clear hm7 ho7 R L ALL
          go_wp2_with fail
          go_loopw [14] (fun iv wr => ∃ k : Nat, k ≤ i ∧ iv = .int .i64 k ∧ Sys w wr ow2 b g ab qb i tbf tvf mvf Tf B.cells (c + 1) gl) (fun iv _ => i - (intOf iv).toNat)
          case atStart => exact ⟨0, by omega, by go_num, S7.out⟩
          case round =>
            obtain ⟨k, hk, rfl, hS⟩ := hrel
            have S := Lib.hid hS
            clear hS S7
            by_cases hki : k < i
            · have a0 := S.out.all k hki
              have q0 : wr.cell? ⟨qb, k, none⟩ = some (.int .i64 (tkOf i (ft % i) k)) := by
                rw [S.out.got.cell, nums_at gl k (by rw [S.out.gsize]; exact hki), (REST.out k hki).2]
              have i1 : (0 : Int) ≤ (k : Int) := by omega
              have i2 : (k : Int) < (i : Int) := by omega
              have OV : Hid (∀ n', Calls Try.prog 10 #[.pointer (some ⟨tbf k, 0, none⟩)] (wr.drewN n') fun e w' => e = .returned (.bool true) ∧ wr.drewN n' = w') := by
                refine Lib.hid (fun n' => ?_)
                have := overs ((S.out.still (below_drewN (Below.refl _ _) n')).st hki)
                rwa [(REST.out k hki).1] at this
              have t1 : (ft : Int).tmod i = ((ft % i : Nat) : Int) := by rw [Int.tmod_eq_emod_of_nonneg (by omega)]; push_cast; rfl
              have t2 := tkOf_int i (ft % i) k hfN hki
              have t3 := tkOf_lt hfN hki
              generalize tkOf i (ft % i) k = tk at *
              generalize ft % i = f at *
              have i3 : (i : Int) ≠ 0 := by omega
              go_upto_region 20 with (fail)
              go_quiet ((go_at_call 10; exact quietly (OV.out _)))
              have SN := Lib.hid (S.out.still (below_drewN (Below.refl _ _) nq))
              clear S OV a0 q0
              go_wp2_with fail
              go_roundw
              case rel => exact ⟨k + 1, by omega, by go_num, SN.out⟩
              case measure => simp [intOf]; omega
            · have HB9 := Lib.hid S.out.bel
              clear S REST
              go_wp2_with fail
              go_ret
              exact ⟨rfl, HB9.out⟩
end Go.Proofs.Ytngihgdcoeokhaa
