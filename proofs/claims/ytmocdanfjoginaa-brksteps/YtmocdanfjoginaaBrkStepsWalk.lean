/-
  Layer 13: alone, step by step, the break is where it was moved last, and has just its pages.
-/
import Derived.Test.YtmocdanfjoginaaPkBc
import Derived.Deep.LoopGhost
import Derived.Test.YtmocdanfjoginaaCameElems
import Derived.Test.YtmocdanfjoginaaPkBd
namespace Go.Proofs.Ytmocdanfjoginaa
open Go.ChangeShapes Go.WideShapes Go.ChangeAt Go.RowKit Go.Shelf
set_option linter.unusedVariables false
attribute [local go_sem ↓] Go.wp_at_zero Go.wp_at_succ

/-- A slice of numbers that came in. -/
def IntsAt (w : World) (A : Option Addr) (n : Nat) : Prop := ∃ b off : Nat, (0 < n → A = some ⟨b, off, none⟩ ∧ b < w.heap.size) ∧ ∀ k, k < n → ∃ x : Int, w.cell? ⟨b, off + k, none⟩ = some (.int .i64 x)
section
variable {H : Type} {enc : TypeId × Value → H} {w : World} {base : Nat} {spare : Nat → Bool} {held : Bool}
theorem ints_came {A : Option Addr} {n c : Nat} {d : DataW H} {p : List MemPlace} (h : DataW.Trod enc Try.prog w base spare held 40 (.slice A n c) d p) : IntsAt w A n := by
  by_cases hp : 0 < n
  · obtain ⟨b, off, rfl, hlt, hc⟩ := elems_came Try.underlying40 (by kernel_rfl) h hp
    refine ⟨b, off, fun _ => ⟨rfl, hlt⟩, fun k hk => ?_⟩
    obtain ⟨v, m, y, hv, hy⟩ := hc k hk
    obtain ⟨z, e0, _, g0⟩ := DataW.trod_int Try.underlying2 hy
    simp only [List.cons.injEq, and_true] at e0
    subst e0
    exact ⟨z, hv⟩
  · exact ⟨0, 0, fun h' => absurd h' hp, fun k hk => absurd hk (by omega)⟩
end
theorem steps_many (A : Option Addr) (n cc : Nat) (w : World) (hn : 20 < n) :
    Calls Try.prog 7 #[.slice A n cc] w fun e w' => e = .returned (.bool true) ∧ Below w.heap.size w w' := by
  have W0 := Lib.hid bk_awake
  have B := Lib.hid (Below.refl w.heap.size w)
  have hz : (20 : Int) < (n : Int) := by omega
  go_enter Try.func7, Try.ntmps7
  go_wp2_with fail
  refine (W0.out _).mono ?_
  rintro e w1 ⟨rfl, hb⟩
  have B := Lib.hid (below_then B.out hb (Nat.le_refl _))
  clear hb
  go_wp2_with fail
  refine (W0.out _).mono ?_
  rintro e w2 ⟨rfl, hb⟩
  have B := Lib.hid (below_then B.out hb (Nat.le_refl _))
  clear hb
  go_wp2_with fail
  go_ret
  exact ⟨rfl, B.out⟩

/-- What a step comes to. -/
theorem bkL_ways {n : Int} (hn : bkIn n) (a : Int) : (a = 0 ∧ bkR (bkL n) n a = (bkL n, n, 0, n)) ∨ (a ≠ 0 ∧ bkIn a ∧ bkR (bkL n) n a = (bkL a, a, 0, a)) ∨ (a ≠ 0 ∧ ¬ bkIn a ∧ bkR (bkL n) n a = (bkL n, n, 4, 0)) := by
  rw [bkL_step hn]
  by_cases h0 : a = 0
  · exact .inl ⟨h0, if_pos h0⟩
  · by_cases h1 : bkIn a
    · exact .inr (.inl ⟨h0, h1, by rw [if_neg h0, if_pos h1]⟩)
    · exact .inr (.inr ⟨h0, h1, by rw [if_neg h0, if_neg h1]⟩)
/-- The list of a break alone, as cells. -/
theorem bkL_has {w : World} {v : Value} {n : Int} (hn : bkIn n) (h : Holds w v (bkL n)) {m : Nat} (hm : bkEnd n = 4096 * (m : Int)) :
    (m = 16 ∧ ∃ A c, v = .slice A 0 c) ∨ (16 < m ∧ ∃ b off c, v = .slice (some ⟨b, off, none⟩) 1 c ∧ b < w.heap.size ∧ w.cell? ⟨b, off, none⟩ = some (.int .i64 65536) ∧ w.cell? ⟨b, off + 1, none⟩ = some (.int .i64 (4096 * (m : Int))) ∧ w.cell? ⟨b, off + 2, none⟩ = some (.int .i64 3) ∧ w.cell? ⟨b, off + 3, none⟩ = some (.bool false) ∧ w.cell? ⟨b, off + 4, none⟩ = some (.int .i64 0) ∧ w.cell? ⟨b, off + 5, none⟩ = some (.int .i64 0)) := by
  have hnum := bkEnd_num hn
  obtain ⟨A, c, rfl, hc, hA⟩ := h
  by_cases he : bkEnd n = 65536
  · left
    refine ⟨by omega, A, c, ?_⟩
    unfold bkL
    rw [if_pos he]; rfl
  · right
    have hl : bkL n = [bkA 65536 (4096 * (m : Int))] := by unfold bkL; rw [if_neg he, hm]
    rw [hl] at hA ⊢
    refine ⟨by omega, ?_⟩
    rcases hA with hnl | ⟨b, off, rfl, hlt, hcs⟩
    · cases hnl
    · have h0 := hcs 0 (by simp)
      simp only [List.getElem_cons_zero, Nat.zero_mul, Nat.add_zero] at h0
      exact ⟨b, off, c, rfl, hlt, h0.c0, h0.c1, h0.c2, h0.c3, h0.c4, h0.c5⟩

set_option maxRecDepth 4000 in
set_option maxHeartbeats 8000000 in
theorem steps_few (A : Option Addr) (n cc : Nat) (w : World) (hn : n ≤ 20) (hI : IntsAt w A n) :
    Calls Try.prog 7 #[.slice A n cc] w fun e w' => e = .returned (.bool true) ∧ Below w.heap.size w w' := by
  have W0 := Lib.hid bk_awake
  have B := Lib.hid (Below.refl w.heap.size w)
  have hz : ¬ (20 : Int) < (n : Int) := by omega
  obtain ⟨b, off, hA, hE⟩ := hI
  have HA := Lib.hid hA
  have HE := Lib.hid hE
  clear hA hE
  go_enter Try.func7, Try.ntmps7
  go_wp2_with fail
  refine (W0.out _).mono ?_
  rintro e w1 ⟨rfl, hb⟩
  have B := Lib.hid (below_then B.out hb (Nat.le_refl _))
  clear hb W0
  go_wp2_with fail
  have H0 : Hid (Holds w1 (.slice none 0 0) (bkL 65536)) := Lib.hid (by rw [bkL_first]; exact Holds.nil _)
  go_loopg [3, 4, 5] n (fun g s3 s4 s5 wr => ∃ (k : Nat) (now : Int), k ≤ n ∧ n - k ≤ g ∧ s5 = .int .i64 k ∧ s4 = .int .i64 now ∧ Hid (bkIn now) ∧ Hid (Holds wr s3 (bkL now)) ∧ Hid (Below w.heap.size w wr))
  case atStart => exact ⟨0, 65536, by omega, by omega, rfl, rfl, Lib.hid ⟨by omega, by omega⟩, H0, B⟩
  case round =>
    clear H0 B
    obtain ⟨k, now, hk, hg, rfl, rfl, HN, KL, B⟩ := hrel
    obtain ⟨A1, c1, rfl⟩ := KL.out.is
    generalize hln : (bkL now).length = ln at *
    clear hln
    by_cases hlt : k < n
    · have hz1 : (k : Int) < (n : Int) := by omega
      have hz0 : (0 : Int) ≤ (k : Int) := by omega
      obtain ⟨hA1, hbl⟩ := HA.out (by omega)
      subst hA1
      obtain ⟨x, hx⟩ := HE.out k hlt
      have HX : Hid (∀ W, Below w.heap.size w W → W.cell? ⟨b, off + k, none⟩ = some (.int .i64 x)) := Lib.hid (fun W h => (Below.cell h (p := ⟨b, off + k, none⟩) hbl).trans hx)
      clear hx
      obtain ⟨L1, n1, e1, x1, hr, hn1, hl1, hway⟩ : ∃ L1 n1 e1 x1, bkR (bkL now) now x = (L1, n1, e1, x1) ∧ bkIn n1 ∧ L1 = bkL n1 ∧ ((x = 0 ∧ n1 = now ∧ e1 = 0 ∧ ¬ bkIn x) ∨ (x ≠ 0 ∧ bkIn x ∧ n1 = x ∧ e1 = 0) ∨ (x ≠ 0 ∧ ¬ bkIn x ∧ n1 = now ∧ e1 = 4)) := by
        rcases bkL_ways HN.out x with ⟨h1, h2⟩ | ⟨h1, h2, h3⟩ | ⟨h1, h2, h3⟩
        · exact ⟨_, _, _, _, h2, HN.out, rfl, .inl ⟨h1, rfl, rfl, by rw [h1]; unfold bkIn; omega⟩⟩
        · exact ⟨_, _, _, _, h3, h2, rfl, .inr (.inl ⟨h1, h2, rfl, rfl⟩)⟩
        · exact ⟨_, _, _, _, h3, HN.out, rfl, .inr (.inr ⟨h1, h2, rfl, rfl⟩)⟩
      subst hl1
      have C1 : Hid (∀ w' u, Holds w' u (bkL now) → Calls Try.prog 9 #[u, .int .i64 now, .agg #[.int .i64 0, .int .i64 x, .int .i64 0, .int .i64 0, .int .i64 0, .int .i64 0, .int .i64 0, .int .i64 0, .int .i64 0]] w' fun e w'' => ∃ v', e = .returned (.tuple #[v', .int .i64 n1, .agg #[.int .i64 e1, .int .i64 x1, .int .i64 0, .bool false, .int .i64 0, .int .i64 0]]) ∧ Mine w'.heap.size w'' v' (bkL n1) ∧ Below w'.heap.size w' w'') := Lib.hid (fun w' u h => by
          have := move_c h (by have := (bkL_may HN.out).2; omega) now ⟨0, x, 0, 0, 0, 0, 0, 0, 0⟩
          rw [hr] at this
          exact this)
      have HN1 := Lib.hid hn1
      have hnum := bkEnd_num hn1
      obtain ⟨m, hm⟩ : ∃ m : Nat, bkEnd n1 = 4096 * (m : Int) := ⟨(bkEnd n1 / 4096).toNat, by omega⟩
      have HM := Lib.hid (fun W V (h : Holds W V (bkL n1)) => bkL_has hn1 h hm)
      have e1' : IntKind.i64.wrap (n1 + 4095) = n1 + 4095 := by rw [IntKind.wrap_i64]; have := hn1.1; have := hn1.2; omega
      have e2' : (n1 + 4095).tdiv 4096 = (m : Int) := by rw [Int.tdiv_eq_ediv_of_nonneg (by have := hn1.1; omega)]; unfold bkEnd at hm; omega
      have e2'' : (n1 + 4095) / 4096 = (m : Int) := by unfold bkEnd at hm; omega
      have e3' : IntKind.i64.wrap ((m : Int) - 16) = (m : Int) - 16 := by rw [IntKind.wrap_i64]; omega
      have e4' : IntKind.i64.wrap (16 + ((m : Int) - 16)) = (m : Int) := by rw [IntKind.wrap_i64]; omega
      have e5' : IntKind.i64.wrap (4096 * (m : Int)) = 4096 * (m : Int) := by rw [IntKind.wrap_i64]; omega
      have hm1 : 16 ≤ m ∧ m ≤ 80 := by omega
      obtain ⟨hm2, hm3⟩ := hm1
      have CN := Lib.hid (refBkRight_any x)
      have hn1a : 65536 ≤ n1 := hn1.1
      have hn1b : n1 ≤ 327680 := hn1.2
      clear hr hn1 hnum hm
      have c0 := HX.out _ B.out
      go_wp2_with fail
      refine (C1.out _ _ KL.out).mono ?_
      rintro e w2 ⟨v2, rfl, hM, hb⟩
      have B := Lib.hid (below_then B.out hb (Nat.le_refl _))
      have KY := Lib.hid hM.holds
      clear hb hM C1 KL c0
      have WA := Lib.hid (Whole.new w2 28 #[.int .i64 e1, .int .i64 x1, .int .i64 0, .bool false, .int .i64 0, .int .i64 0])
      have BN := Lib.hid (below_new w2 (.cells #[.int .i64 e1, .int .i64 x1, .int .i64 0, .bool false, .int .i64 0, .int .i64 0] 28))
      have B := Lib.hid (below_then B.out BN.out (Nat.le_refl _))
      have KY := Lib.hid (KY.out.still BN.out)
      clear BN
      have c0 := HX.out _ B.out
      go_upto_region 9 with (fail)
      generalize hw3 : World.alloc w2 _ = w3 at *
      clear hw3
      generalize w2.heap.size = qa at *
      have QL := Lib.hid WA.out.lt
      rcases hway with ⟨rfl, rfl, rfl, hni⟩ | ⟨hx0, hxi, rfl, rfl⟩ | ⟨hx0, hni, rfl, rfl⟩
      · rw [decide_eq_false hni] at CN
        clear hni
        go_wp2_with fail
        refine (CN.out _).mono ?_
        rintro e w4 ⟨rfl, hb⟩
        have B := Lib.hid (below_then B.out hb (Nat.le_refl _))
        have KY := Lib.hid (KY.out.still hb)
        have WA := Lib.hid (Whole.below WA.out hb QL.out)
        clear hb CN c0
        have c0 := HX.out _ B.out
        obtain ⟨a0, a1, a2, a3, a4, a5⟩ := row6 WA.out
        rcases HM.out _ _ KY.out with ⟨rfl, A2, c2, rfl⟩ | ⟨hm4, b2, off2, c2, rfl, hb2, d0, d1, d2, d3, d4, d5⟩
        · go_wp2_with fail
          go_roundg (n - (k + 1))
          case measure => omega
          case rel => exact ⟨k + 1, _, by omega, by omega, by go_num, rfl, HN1, KY, B⟩
        · have hm5 : ¬ (m : Int) - 16 = 0 := by omega
          have hm6 : ((m : Int) - 16 == 0) = false := by simpa using hm5
          have hm7 : 0 < (m : Int) - 16 := by omega
          go_wp2_with fail
          go_roundg (n - (k + 1))
          case measure => omega
          case rel => exact ⟨k + 1, _, by omega, by omega, by go_num, rfl, HN1, KY, B⟩
      · rw [decide_eq_true hxi] at CN
        have hx0' : (n1 != 0) = true := by simpa using hx0
        clear hxi hx0
        go_wp2_with fail
        refine (CN.out _).mono ?_
        rintro e w4 ⟨rfl, hb⟩
        have B := Lib.hid (below_then B.out hb (Nat.le_refl _))
        have KY := Lib.hid (KY.out.still hb)
        have WA := Lib.hid (Whole.below WA.out hb QL.out)
        clear hb CN c0
        have c0 := HX.out _ B.out
        obtain ⟨a0, a1, a2, a3, a4, a5⟩ := row6 WA.out
        rcases HM.out _ _ KY.out with ⟨rfl, A2, c2, rfl⟩ | ⟨hm4, b2, off2, c2, rfl, hb2, d0, d1, d2, d3, d4, d5⟩
        · go_wp2_with fail
          go_roundg (n - (k + 1))
          case measure => omega
          case rel => exact ⟨k + 1, _, by omega, by omega, by go_num, rfl, HN1, KY, B⟩
        · have hm5 : ¬ (m : Int) - 16 = 0 := by omega
          have hm6 : ((m : Int) - 16 == 0) = false := by simpa using hm5
          have hm7 : 0 < (m : Int) - 16 := by omega
          go_wp2_with fail
          go_roundg (n - (k + 1))
          case measure => omega
          case rel => exact ⟨k + 1, _, by omega, by omega, by go_num, rfl, HN1, KY, B⟩
      · rw [decide_eq_false hni] at CN
        have hx0' : (x != 0) = true := by simpa using hx0
        clear hni hx0
        go_wp2_with fail
        refine (CN.out _).mono ?_
        rintro e w4 ⟨rfl, hb⟩
        have B := Lib.hid (below_then B.out hb (Nat.le_refl _))
        have KY := Lib.hid (KY.out.still hb)
        have WA := Lib.hid (Whole.below WA.out hb QL.out)
        clear hb CN c0
        have c0 := HX.out _ B.out
        obtain ⟨a0, a1, a2, a3, a4, a5⟩ := row6 WA.out
        rcases HM.out _ _ KY.out with ⟨rfl, A2, c2, rfl⟩ | ⟨hm4, b2, off2, c2, rfl, hb2, d0, d1, d2, d3, d4, d5⟩
        · go_wp2_with fail
          go_roundg (n - (k + 1))
          case measure => omega
          case rel => exact ⟨k + 1, _, by omega, by omega, by go_num, rfl, HN1, KY, B⟩
        · have hm5 : ¬ (m : Int) - 16 = 0 := by omega
          have hm6 : ((m : Int) - 16 == 0) = false := by simpa using hm5
          have hm7 : 0 < (m : Int) - 16 := by omega
          go_wp2_with fail
          go_roundg (n - (k + 1))
          case measure => omega
          case rel => exact ⟨k + 1, _, by omega, by omega, by go_num, rfl, HN1, KY, B⟩
    · obtain rfl : k = n := by omega
      go_wp2_with fail
      go_ret
      exact ⟨rfl, B.out⟩
theorem steps_any (A : Option Addr) (n cc : Nat) (w : World) (hI : IntsAt w A n) :
    Calls Try.prog 7 #[.slice A n cc] w fun e w' => e = .returned (.bool true) ∧ Below w.heap.size w w' := by
  by_cases hn : n ≤ 20
  · exact steps_few A n cc w hn hI
  · exact steps_many A n cc w (by omega)
end Go.Proofs.Ytmocdanfjoginaa
