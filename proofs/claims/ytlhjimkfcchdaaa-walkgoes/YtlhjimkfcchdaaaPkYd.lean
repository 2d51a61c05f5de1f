/-
  Texts of our own, one behind the other (SeekRefL, SeekRefA): what the laws' proofs rest on; each says at its head what it holds. No conditions.
-/
import Derived.Test.YtlhjimkfcchdaaaPkYc
import Derived.BigQuiet
import Derived.BigRegion
import Derived.Deep.RegionHeld3
/-
  Layer 16: the reference's looking for an address.
-/
namespace Go.Proofs.Ytlhjimkfcchdaaa
open Go.ChangeShapes Go.WideShapes Go.ChangeAt Go.RowKit
set_option linter.unusedVariables false

def lookWV (r : (Int × Bool × Bool) × Nat) : Value := .tuple #[.int .i64 r.1.1, .bool r.1.2.1, .bool r.1.2.2, .int .i64 (r.2 : Int)]
theorem results_tmp4' {fn : Func} {a b c d : Tmp} (h : fn.results = #[.tmp a, .tmp b, .tmp c, .tmp d]) (P : Program) (tmps : Array Value) (w : World) :
    (results fn tmps).run P w = .ok (.tuple #[tmps.getD a undef, tmps.getD b undef, tmps.getD c undef, tmps.getD d undef]) w := by
  simp [results, h, go_sem]
set_option maxHeartbeats 8000000 in
theorem refLook_c {w : World} {v : Value} {x : List Int} (h : Wds w v x) (hx : x.length = 28) (hf : Fits x) (addr : Int) : Calls Try.prog 29 #[v, .int .i64 addr] w fun e w' => e = .returned (lookWV (lookW x addr)) ∧ Below w.heap.size w w' := by
  obtain ⟨A, c, rfl, hc, hA⟩ := h
  rw [hx] at hc hA ⊢
  obtain ⟨b, off, rfl, ca⟩ := hA (by omega)
  have CA : Hid (∀ W, Below w.heap.size w W → ∀ k, k < 28 → W.cell? ⟨b, off + k, none⟩ = some (.int .i64 (nth x k))) := Lib.hid (fun W hb k hk => by
    have e := ca k hk
    rw [hb.cell (p := ⟨b, off + k, none⟩) (World.block_lt_of_cell? w _ e)]; exact e)
  have c0 := ca 0 (by omega)
  rw [Nat.add_zero] at c0
  obtain ⟨x0, hx0⟩ : ∃ x0, nth x 0 = x0 := ⟨_, rfl⟩
  have h0 := hf 0 (by omega)
  have EF : Hid (entOk (nth x 0) = entOk x0 ∧ entI (nth x 0) = entI x0 ∧ entK (nth x 0) = entK x0) := Lib.hid (by rw [hx0]; exact ⟨rfl, rfl, rfl⟩)
  rw [hx0] at c0 h0
  have HX := Lib.hid hx0
  have HF := Lib.hid hf
  clear ca hA hx0 hf
  have hd := div16 h0.1 h0.2
  have hm : -16 < x0.tmod 16 ∧ x0.tmod 16 < 16 := ⟨Int.lt_tmod_of_pos x0 (by omega), Int.tmod_lt_of_pos x0 (by omega)⟩
  have hw : IntKind.i64.wrap (x0.tdiv 16) = x0.tdiv 16 := by rw [IntKind.wrap_i64]; omega
  have hw2 : IntKind.i64.wrap (x0.tmod 16) = x0.tmod 16 := by rw [IntKind.wrap_i64]; omega
  have hw3 : wrap64 (x0.tdiv 16) = x0.tdiv 16 := by unfold wrap64; omega
  have hw4 : wrap64 (x0.tmod 16) = x0.tmod 16 := by unfold wrap64; omega
  have hda := Int.mul_tdiv_add_tmod x0 16
  obtain ⟨P, hP⟩ : ∃ P : Ending → World → Prop, (fun e w' => e = .returned (lookWV (lookW x addr)) ∧ Below w.heap.size w w') = P := ⟨_, rfl⟩
  rw [hP]
  have FIN : Hid (∀ W r, lookW x addr = r → Below w.heap.size w W → P (.returned (.tuple #[.int .i64 r.1.1, .bool r.1.2.1, .bool r.1.2.2, .int .i64 (r.2 : Int)])) W) := Lib.hid (by
    intro W r e hb
    rw [← hP, e]
    exact ⟨rfl, hb⟩)
  clear hP
  have HLW : Hid (lookW x addr = if entOk x0 then lookFromW x addr (entI x0) (entK x0) 0 else ((0, false, false), 1)) := Lib.hid (by unfold lookW; rw [EF.out.1, EF.out.2.1, EF.out.2.2])
  have NO : Hid (entOk x0 = false → P (.returned (.tuple #[.int .i64 0, .bool false, .bool false, .int .i64 1])) w) := Lib.hid (fun hk => FIN.out w ((0, false, false), 1) (by rw [HLW.out, hk]; rfl) (Below.refl _ _))
  have HT := Lib.hid (show entOk x0 = decide (1 ≤ x0.tdiv 16 ∧ x0.tdiv 16 ≤ 8 ∧ (x0.tmod 16 = 1 ∨ x0.tmod 16 = 2)) from rfl)
  by_cases n1 : x0 < 0
  · have FX := Lib.hid (NO.out (by rw [HT.out]; exact decide_eq_false (by omega)))
    have d1 : decide (x0 < 0) = true := decide_eq_true n1
    clear NO FIN HLW HT CA hd hm hda
    go_enter Try.func29, Try.ntmps29
    go_wp2_with fail
    refine bodyPost_ret (results_tmp4' rfl _ _ _) rfl ?_
    exact FX.out
  · have d1 : decide (x0 < 0) = false := decide_eq_false n1
    have hem : x0.tmod 16 = x0 % 16 := Int.tmod_eq_emod_of_nonneg (by omega)
    rw [hem] at HT hw2 hw4 hda
    by_cases n2 : x0 % 16 < 1
    · have FX := Lib.hid (NO.out (by rw [HT.out]; exact decide_eq_false (by omega)))
      have d2 : decide (x0 % 16 < 1) = true := decide_eq_true n2
      clear NO FIN HLW HT CA hd hm hda hem
      go_enter Try.func29, Try.ntmps29
      go_wp2_with fail
      refine bodyPost_ret (results_tmp4' rfl _ _ _) rfl ?_
      exact FX.out
    · have d2 : decide (x0 % 16 < 1) = false := decide_eq_false n2
      by_cases n3 : 2 < x0 % 16
      · have FX := Lib.hid (NO.out (by rw [HT.out]; exact decide_eq_false (by omega)))
        have d3 : decide (2 < x0 % 16) = true := decide_eq_true n3
        clear NO FIN HLW HT CA hd hm hda hem
        go_enter Try.func29, Try.ntmps29
        go_wp2_with fail
        refine bodyPost_ret (results_tmp4' rfl _ _ _) rfl ?_
        exact FX.out
      · have d3 : decide (2 < x0 % 16) = false := decide_eq_false n3
        by_cases n4 : x0.tdiv 16 < 1
        · have FX := Lib.hid (NO.out (by rw [HT.out]; exact decide_eq_false (by omega)))
          have d4 : decide (x0.tdiv 16 < 1) = true := decide_eq_true n4
          clear NO FIN HLW HT CA hd hm hda hem
          go_enter Try.func29, Try.ntmps29
          go_wp2_with fail
          refine bodyPost_ret (results_tmp4' rfl _ _ _) rfl ?_
          exact FX.out
        · have d4 : decide (x0.tdiv 16 < 1) = false := decide_eq_false n4
          by_cases n5 : 8 < x0.tdiv 16
          · have FX := Lib.hid (NO.out (by rw [HT.out]; exact decide_eq_false (by omega)))
            have d5 : decide (8 < x0.tdiv 16) = true := decide_eq_true n5
            clear NO FIN HLW HT CA hd hm hda hem
            go_enter Try.func29, Try.ntmps29
            go_wp2_with fail
            refine bodyPost_ret (results_tmp4' rfl _ _ _) rfl ?_
            exact FX.out
          · have d5 : decide (8 < x0.tdiv 16) = false := decide_eq_false n5
            have hk : entOk x0 = true := by rw [HT.out]; exact decide_eq_true (by omega)
            have HLW : Hid (lookW x addr = lookFromW x addr (entI x0) (entK x0) 0) := Lib.hid (by rw [HLW.out, hk]; rfl)
            obtain ⟨hq, hk1⟩ := entK_is hk
            have hk8 := entK_hi x0
            have HI : Hid (entI x0 = (x0 % 16 == 2)) := Lib.hid (by unfold entI; rw [hk, hem]; rfl)
            generalize entK x0 = K at *
            generalize entI x0 = inn at *
            rw [hq] at hw hw3 d4 d5
            clear NO HT hd hda hk n2 n3 n4 n5 hm EF hem
            go_enter Try.func29, Try.ntmps29
            go_wp2_with fail
            go_loopw [9] (fun iv wr => ∃ i : Nat, i ≤ K ∧ iv = .int .i64 i ∧ lookW x addr = lookFromW x addr inn (K - i) i ∧ Below w.heap.size w wr) (fun iv _ => K - (intOf iv).toNat)
            case atStart => exact ⟨0, by omega, rfl, HLW.out, Below.refl _ _⟩
            case round =>
              obtain ⟨i, hi, rfl, hl, hb⟩ := hrel
              have HL := Lib.hid hl
              have HB := Lib.hid hb
              clear hl
              by_cases hlt : i < K
              · have c2 := CA.out wr hb (2 + i) (by omega)
                have c10 := CA.out wr hb (10 + i) (by omega)
                have c00 := CA.out wr hb 0 (by omega)
                rw [Nat.add_zero, HX.out] at c00
                clear hb
                have hw5 : IntKind.i64.wrap (2 + (i : Int)) = 2 + (i : Int) := by rw [IntKind.wrap_i64]; omega
                have hw6 : IntKind.i64.wrap (10 + (i : Int)) = 10 + (i : Int) := by rw [IntKind.wrap_i64]; omega
                have hw7 : IntKind.i64.wrap (3 + (i : Int)) = 3 + (i : Int) := by rw [IntKind.wrap_i64]; omega
                have hsub : K - i = (K - (i + 1)) + 1 := by omega
                rw [hsub] at HL
                unfold lookFromW at HL
                clear hsub
                by_cases hle : nth x (2 + i) ≤ addr
                · have dl : decide (addr < nth x (2 + i)) = false := decide_eq_false (by omega)
                  rw [if_pos hle] at HL
                  go_wp2_with fail
                  go_roundw
                  case rel => exact ⟨i + 1, by omega, by go_num, HL.out, HB.out⟩
                  case measure => simp [intOf]; omega
                · have dl : decide (addr < nth x (2 + i)) = true := decide_eq_true (by omega)
                  have dl2 : addr < nth x (2 + i) := by omega
                  rw [if_neg hle] at HL
                  have FX : Hid (∀ W, Below w.heap.size w W → P (.returned (.tuple #[.int .i64 (nth x (10 + i)), .bool inn, .bool true, .int .i64 (3 + (i : Int))])) W) := Lib.hid (fun W hb => by
                    rw [show (3 + (i : Int)) = ((3 + i : Nat) : Int) by omega]
                    exact FIN.out _ _ HL.out hb)
                  rw [HI.out] at FX
                  go_upto_region 8 with (fail)
                  generalize K - (i + 1) = kk at *
                  go_quiet (fail)
                  go_wp2_with fail
                  refine bodyPost_ret (results_tmp4' rfl _ _ _) rfl ?_
                  exact FX.out _ (below_drewN HB.out _)
              · have e0 : K - i = 0 := by omega
                rw [e0] at HL
                have hKi : i = K := by omega
                subst hKi
                have hw8 : IntKind.i64.wrap (1 + (i : Int)) = 1 + (i : Int) := by rw [IntKind.wrap_i64]; omega
                have hw9 : IntKind.i64.wrap ((i : Int) + 1) = (i : Int) + 1 := by rw [IntKind.wrap_i64]; omega
                have FX : Hid (P (.returned (.tuple #[.int .i64 0, .bool false, .bool false, .int .i64 (1 + (i : Int))])) wr) := Lib.hid (by
                  have := FIN.out _ _ HL.out HB.out
                  simpa [lookFromW] using this)
                go_wp2_with fail
                refine bodyPost_ret (results_tmp4' rfl _ _ _) rfl ?_
                exact FX.out
end Go.Proofs.Ytlhjimkfcchdaaa

/-
  Layer 16: the reference's area of words.
-/
namespace Go.Proofs.Ytlhjimkfcchdaaa
open Go.ChangeShapes Go.WideShapes Go.ChangeAt Go.RowKit
set_option linter.unusedVariables false

/-- Of words: the area they would be. -/
theorem eight_len (x : List Int) : (eight x).length = 28 := fill_len (by simp; omega)
theorem nth_eight (x : List Int) (k : Nat) : nth (eight x) k = if k < 8 then nth x k else 0 := by unfold eight; rw [nth_fill, nth_take]
theorem unA_eight (x : List Int) : unA (eight x) = unA x ∧ (nth (eight x) 1 == 1) = (nth x 1 == 1) := by
  unfold unA
  simp only [nth_eight]
  exact ⟨rfl, rfl⟩
theorem packA_hi (a : Ar) (d : Bool) (k : Nat) (hk : 8 ≤ k) : nth (packA a d) k = 0 := by
  unfold packA
  rw [nth_fill, nth_out (by simp [listA]; omega)]
theorem eight_yes {x : List Int} (hf : Formed (unA x)) (h : ∀ k, k < 8 → nth (packA (unA x) (nth x 1 == 1)) k = nth x k) : areaOf (eight x) = some (unA x, nth x 1 == 1) := by
  refine areaOf_some hf ?_
  apply ext_nth
  · rw [packA_len, eight_len]
  · intro k _
    rw [nth_eight]
    by_cases hk : k < 8
    · rw [if_pos hk]; exact h k hk
    · rw [if_neg hk]; exact packA_hi _ _ k (by omega)
theorem eight_no {x : List Int} (h : ¬ (Formed (unA x) ∧ ∀ k, k < 8 → nth (packA (unA x) (nth x 1 == 1)) k = nth x k)) : areaOf (eight x) = none := by
  refine areaOf_none (fun a d hf e => h ?_)
  obtain ⟨e1, e2⟩ := un_packA a d
  obtain ⟨u1, u2⟩ := unA_eight x
  rw [e, u1] at e1
  rw [e, u2] at e2
  rw [e1, e2]
  refine ⟨hf, fun k hk => ?_⟩
  rw [e, nth_eight, if_pos hk]
end Go.Proofs.Ytlhjimkfcchdaaa
