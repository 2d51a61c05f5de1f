/-
  Texts of our own, one behind the other (ListRefR, MapMay): what the laws' proofs rest on; each says at its head what it holds. No conditions.
-/
import Derived.Test.YtejkhnphplpkeaaPkLc
import Derived.Deep.DeepCutAuto
import Derived.Deep.CutBlock
import Derived.Test.YtejkhnphplpkeaaPkM
import Derived.Test.YtejkhnphplpkeaaPkLa
/-
  Layer 7: whether a list is right, as the reference has it: a contract for the call.
-/
namespace Go.Proofs.Ytejkhnphplpkeaa
open Go.ChangeShapes Go.WideShapes Go.ChangeAt Go.RowKit Go.Shelf
set_option linter.unusedVariables false
attribute [local go_sem ↓] Go.wp_at_zero Go.wp_at_succ

/-- A block that holds what a page has. -/
def AtIn (w : World) (q : Nat) (x : At) : Prop := Whole w q 110 x.cells
theorem put4 {w : World} {q : Nat} {t : TypeId} {a b c d : Value} (h : Whole w q t #[a, b, c, d]) (a' b' c' d' : Value) :
    Whole ((((w.setCell ⟨q, 0, none⟩ a').setCell ⟨q, 1, none⟩ b').setCell ⟨q, 2, none⟩ c').setCell ⟨q, 3, none⟩ d') q t #[a', b', c', d'] :=
  (((Whole.put h 0 _).put 1 _).put 2 _).put 3 _
theorem below4 {B : Nat} {w w' : World} {q : Nat} (h : Below B w w') (hq : B ≤ q) (a' b' c' d' : Value) :
    Below B w ((((w'.setCell ⟨q, 0, none⟩ a').setCell ⟨q, 1, none⟩ b').setCell ⟨q, 2, none⟩ c').setCell ⟨q, 3, none⟩ d') :=
  (((h.setCell (p := ⟨q, 0, none⟩) hq _).setCell (p := ⟨q, 1, none⟩) hq _).setCell (p := ⟨q, 2, none⟩) hq _).setCell (p := ⟨q, 3, none⟩) hq _
theorem after_one {z a : Ar} (hz : Formed z) (ha : Formed a) : Ok z a ↔ ¬ (a.s < z.e ∨ (z.e = a.s ∧ AfterA (z.at (z.e / 4096 - 1)) (a.at (a.s / 4096)))) := by
  unfold Ok
  by_cases he : z.e = a.s
  · have := after_goes hz ha he
    rw [he] at *
    constructor
    · rintro ⟨_, h1, h2⟩ (h | ⟨_, h⟩)
      · omega
      · exact h2 (this.1 h)
    · intro h
      exact ⟨ha, by omega, fun hg => h (.inr ⟨rfl, this.2 hg⟩)⟩
  · constructor
    · rintro ⟨_, h1, h2⟩ (h | ⟨h, _⟩) <;> omega
    · intro h
      exact ⟨ha, by omega, fun hg => he hg.at'⟩

set_option maxRecDepth 100000 in
set_option maxHeartbeats 8000000 in
theorem refRight_any (A : Option Addr) (c : Nat) (l : List Ar) (hl : l.length ≤ 1000) (w : World) (hA : Areas w.heap.size w A l) :
    Calls Try.prog 44 #[.slice A l.length c] w fun e w' => e = .returned (.bool (decide (RightL l))) ∧ Below w.heap.size w w' := by
  have HA := Lib.hid hA
  clear hA
  have HD : Hid (∀ r : Bool, (r = true ↔ RightL l) → Ending.returned (.bool r) = .returned (.bool (decide (RightL l)))) := Lib.hid (fun r h => says_bool (by rw [Bool.eq_iff_iff, h]; simp))
  generalize decide (RightL l) = rr at *
  generalize hL : l.length = len at *
  have HLen := Lib.hid hL
  clear hL
  go_enter Try.func44, Try.ntmps44
  go_wp2_with fail
  go_loopg [3, 4, 5, 6, 7] len (fun g s3 _ _ _ _ wr => ∃ k : Nat, k ≤ len ∧ len - k ≤ g ∧ s3 = .int .i64 k ∧ Hid (After' Ar.nil (l.take k)) ∧ Hid (Below w.heap.size w wr))
  case atStart => exact ⟨0, by omega, by omega, rfl, Lib.hid trivial, Lib.hid (Below.refl _ _)⟩
  case round =>
    obtain ⟨k, hk, hgk, rfl, HF, HB⟩ := hrel
    by_cases hlt : k < len
    · have hltz : (k : Int) < (len : Int) := by omega
      have hz0 : (0 : Int) ≤ (k : Int) := by omega
      have hlk : k < l.length := by rw [HLen.out]; exact hlt
      rcases HA.out with hn | ⟨b, off, rfl, hb, hcs⟩
      · rw [hn] at hlk; simp at hlk
      have HT : Hid (l.take (k + 1) = l.take k ++ [l[k]]) := Lib.hid (by rw [List.take_succ_eq_append_getElem hlk])
      have HNO : Hid (¬ Ok ((l.take k).getLastD Ar.nil) l[k] → ¬ RightL l) := Lib.hid (fun h => after_take (z := Ar.nil) (l := l) hlk HF.out h)
      have X := Lib.hid (refFormed_any l[k])
      have HAT := Lib.hid (fun W h => (hcs k hlk).below (w' := W) h hb)
      obtain ⟨c0, c1, c2, c3, c4, c5⟩ := HAT.out wr HB.out
      by_cases hf : Formed l[k]
      · rw [decide_eq_true hf] at X
        cases k with
        | zero =>
          have HOK := Lib.hid (ok_nil hf)
          generalize l[0] = x at *
          clear hf
          obtain ⟨x0, x1, x2, x3, x4, x5⟩ := x
          simp only [Ar.v, Nat.zero_mul, Nat.add_zero] at c0 c1 c2 c3 c4 c5 X
          go_wp2_with fail
          refine (X.out _).mono ?_
          rintro e w1 ⟨rfl, hb1⟩
          have B1 := Lib.hid (below_then HB.out hb1 (Nat.le_refl _))
          clear hb1 c0 c1 c2 c3 c4 c5
          go_wp2_with fail
          go_roundg (len - 1)
          case measure => omega
          case rel => exact ⟨1, by omega, by omega, by go_num, Lib.hid (by rw [HT.out]; exact ⟨HOK.out, trivial⟩), B1⟩
        | succ m =>
          have hmk : m < l.length := by omega
          have hzf : Formed l[m] := after_formed HF.out _ (by
            rw [List.take_succ_eq_append_getElem hmk]; exact List.mem_append.2 (.inr (List.mem_singleton.2 rfl)))
          have HLA : Hid ((l.take (m + 1)).getLastD Ar.nil = l[m]) := Lib.hid (by rw [List.take_succ_eq_append_getElem hmk, List.getLastD_concat])
          have HZT := Lib.hid (fun W h => (hcs m hmk).below (w' := W) h hb)
          have HO1 := Lib.hid (after_one hzf hf)
          have nz := formed_num hzf
          have na := formed_num hf
          have XZ := Lib.hid (refAttr_in l[m] (l[m].e / 4096 - 1) (by omega) (by omega) (by omega) (by omega) (by omega) (by omega))
          have XA := Lib.hid (refAttr_in l[m + 1] (l[m + 1].s / 4096) (by omega) (by omega) (by omega) (by omega) (by omega) (by omega))
          have hgz := at_good hzf (p := l[m].e / 4096 - 1) (by unfold Cov; omega)
          generalize hxx : l[m + 1] = x at *
          generalize hzz : l[m] = z at *
          clear hxx hzz hf hzf hcs
          generalize z.at (z.e / 4096 - 1) = u at *
          generalize x.at (x.s / 4096) = y at *
          have CF : Hid (∀ r, Tells r (AfterA u y) → Says 68 #[u.v, y.v] (.bool r)) := Lib.hid (fun r hr => refAfter_any u y (by unfold Good at hgz; omega) (by unfold Good at hgz; omega) hr)
          clear hgz
          obtain ⟨x0, x1, x2, x3, x4, x5⟩ := x
          obtain ⟨z0, z1, z2, z3, z4, z5⟩ := z
          obtain ⟨u0, u1, u2, u3⟩ := u
          obtain ⟨y0, y1, y2, y3⟩ := y
          simp only [Ar.v, At.v] at c0 c1 c2 c3 c4 c5 X XZ XA CF nz na HO1
          go_wp2_with fail
          refine (X.out _).mono ?_
          rintro e w1 ⟨rfl, hb1⟩
          have B1 := Lib.hid (below_then HB.out hb1 (Nat.le_refl _))
          clear hb1 c0 c1 c2 c3 c4 c5 HB X
          have e1 : z1.tdiv 4096 = z1 / 4096 := tdiv_up (by omega)
          have e2 : x0.tdiv 4096 = x0 / 4096 := tdiv_up (by omega)
          have j1 : (0 : Int) ≤ (m : Int) := by omega
          have j2 : (m : Int) < (len : Int) := by omega
          have j7 : (0 : Int) ≤ (m : Int) + 1 := by omega
          have j8 : (m : Int) + 1 < (len : Int) := by omega
          have j9 : IntKind.i64.wrap ((m : Int) + 1) = (m : Int) + 1 := by rw [IntKind.wrap_i64]; omega
          have j3 : IntKind.i64.wrap (m : Int) = (m : Int) := by rw [IntKind.wrap_i64]; omega
          have j4 : IntKind.i64.wrap (z1 / 4096) = z1 / 4096 := by rw [IntKind.wrap_i64]; omega
          have j5 : IntKind.i64.wrap (z1 / 4096 - 1) = z1 / 4096 - 1 := by rw [IntKind.wrap_i64]; omega
          have j6 : IntKind.i64.wrap (x0 / 4096) = x0 / 4096 := by rw [IntKind.wrap_i64]; omega
          have HKZ : Hid (∀ W', Below w1.heap.size w1 W' → (fun w' => w'.cell? ⟨b, off + m * 6, none⟩ = some (.int .i64 z0) ∧ w'.cell? ⟨b, off + m * 6 + 1, none⟩ = some (.int .i64 z1) ∧ w'.cell? ⟨b, off + m * 6 + 2, none⟩ = some (.int .i64 z2) ∧ w'.cell? ⟨b, off + m * 6 + 3, none⟩ = some (.bool z3) ∧ w'.cell? ⟨b, off + m * 6 + 4, none⟩ = some (.int .i64 z4) ∧ w'.cell? ⟨b, off + m * 6 + 5, none⟩ = some (.int .i64 z5)) W') := Lib.hid (fun W' h => by
            obtain ⟨c0, c1, c2, c3, c4, c5⟩ := HZT.out W' (below_then B1.out h (Nat.le_refl _))
            exact ⟨c0, c1, c2, c3, c4, c5⟩)
          have HKX : Hid (∀ W', Below w1.heap.size w1 W' → (fun w' => w'.cell? ⟨b, off + (m + 1) * 6, none⟩ = some (.int .i64 x0) ∧ w'.cell? ⟨b, off + (m + 1) * 6 + 1, none⟩ = some (.int .i64 x1) ∧ w'.cell? ⟨b, off + (m + 1) * 6 + 2, none⟩ = some (.int .i64 x2) ∧ w'.cell? ⟨b, off + (m + 1) * 6 + 3, none⟩ = some (.bool x3) ∧ w'.cell? ⟨b, off + (m + 1) * 6 + 4, none⟩ = some (.int .i64 x4) ∧ w'.cell? ⟨b, off + (m + 1) * 6 + 5, none⟩ = some (.int .i64 x5)) W') := Lib.hid (fun W' h => by
            obtain ⟨c0, c1, c2, c3, c4, c5⟩ := HAT.out W' (below_then B1.out h (Nat.le_refl _))
            exact ⟨c0, c1, c2, c3, c4, c5⟩)
          simp only at HKZ HKX
          go_upto_region 7 with (fail)
          go_region_held3 (fun w' => w'.cell? ⟨b, off + m * 6, none⟩ = some (.int .i64 z0) ∧ w'.cell? ⟨b, off + m * 6 + 1, none⟩ = some (.int .i64 z1) ∧ w'.cell? ⟨b, off + m * 6 + 2, none⟩ = some (.int .i64 z2) ∧ w'.cell? ⟨b, off + m * 6 + 3, none⟩ = some (.bool z3) ∧ w'.cell? ⟨b, off + m * 6 + 4, none⟩ = some (.int .i64 z4) ∧ w'.cell? ⟨b, off + m * 6 + 5, none⟩ = some (.int .i64 z5))
            (first | exact HKZ.out _ (below_drew (Below.refl _ _)) | exact HKZ.out _ ((below_drew (Below.refl _ _)).alloc (Nat.le_refl _) _) | exact HKZ.out _ C2.out | exact HKZ.out _ (C2.out.alloc C2.out.size _) | exact HKZ.out _ (below4 C2.out (Nat.le_refl _) _ _ _ _) | exact HKZ.out _ (below4 (C2.out.alloc C2.out.size _) C2.out.size _ _ _ _))
            (first
            | (go_at_call 67; refine (XZ.out _).mono ?_; rintro e w2 ⟨rfl, hb2⟩; have C2 : Hid (Below w1.heap.size w1 w2) := Lib.hid (below_then ((below_drew (Below.refl w1.heap.size w1)).alloc (Nat.le_refl _) _) hb2 (Nat.le_refl _)); have Q2 : Hid (Whole w2 w1.heap.size 110 #[.int .i64 0, .bool false, .int .i64 0, .int .i64 0]) := Lib.hid ((Whole.new w1.drew 110 #[.int .i64 0, .bool false, .int .i64 0, .int .i64 0]).below hb2 (by simp)); obtain ⟨q0, q1, q2, q3, r0, r1, r2, r3⟩ := at_cs Q2.out; clear hb2)
            | (go_at_call 67; refine (XZ.out _).mono ?_; rintro e w2 ⟨rfl, hb2⟩; have C2 : Hid (Below w1.heap.size w1 w2) := Lib.hid (below_of_drew hb2); clear hb2)
            | fail)
          · have HU : Hid (AtIn (w2.alloc (.cells (At.cells ⟨u0, u1, u2, u3⟩) 110)) w2.heap.size ⟨u0, u1, u2, u3⟩) := Lib.hid (Whole.new _ _ _)
            have HC : Hid (Below w1.heap.size w1 (w2.alloc (.cells (At.cells ⟨u0, u1, u2, u3⟩) 110))) := Lib.hid (C2.out.alloc C2.out.size _)
            simp only [At.cells] at HU HC
            clear XZ
            generalize w2.heap.size = q4 at *
            generalize w2.alloc _ = wc at *
            have HKX2 : Hid (∀ W', Below wc.heap.size wc W' → (fun w' => w'.cell? ⟨b, off + (m + 1) * 6, none⟩ = some (.int .i64 x0) ∧ w'.cell? ⟨b, off + (m + 1) * 6 + 1, none⟩ = some (.int .i64 x1) ∧ w'.cell? ⟨b, off + (m + 1) * 6 + 2, none⟩ = some (.int .i64 x2) ∧ w'.cell? ⟨b, off + (m + 1) * 6 + 3, none⟩ = some (.bool x3) ∧ w'.cell? ⟨b, off + (m + 1) * 6 + 4, none⟩ = some (.int .i64 x4) ∧ w'.cell? ⟨b, off + (m + 1) * 6 + 5, none⟩ = some (.int .i64 x5)) W') := Lib.hid (fun W' h => HKX.out W' (below_then HC.out h (Nat.le_refl _)))
            simp only at HKX2
            go_wp2_with fail
            go_region_held3 (fun w' => w'.cell? ⟨b, off + (m + 1) * 6, none⟩ = some (.int .i64 x0) ∧ w'.cell? ⟨b, off + (m + 1) * 6 + 1, none⟩ = some (.int .i64 x1) ∧ w'.cell? ⟨b, off + (m + 1) * 6 + 2, none⟩ = some (.int .i64 x2) ∧ w'.cell? ⟨b, off + (m + 1) * 6 + 3, none⟩ = some (.bool x3) ∧ w'.cell? ⟨b, off + (m + 1) * 6 + 4, none⟩ = some (.int .i64 x4) ∧ w'.cell? ⟨b, off + (m + 1) * 6 + 5, none⟩ = some (.int .i64 x5))
              (first | exact HKX2.out _ (below_drew (Below.refl _ _)) | exact HKX2.out _ ((below_drew (Below.refl _ _)).alloc (Nat.le_refl _) _) | exact HKX2.out _ D2.out | exact HKX2.out _ (D2.out.alloc D2.out.size _) | exact HKX2.out _ (below4 D2.out (Nat.le_refl _) _ _ _ _) | exact HKX2.out _ (below4 (D2.out.alloc D2.out.size _) D2.out.size _ _ _ _))
              (first
              | (go_at_call 67; refine (XA.out _).mono ?_; rintro e w5 ⟨rfl, hb2⟩; have D2 : Hid (Below wc.heap.size wc w5) := Lib.hid (below_then ((below_drew (Below.refl wc.heap.size wc)).alloc (Nat.le_refl _) _) hb2 (Nat.le_refl _)); have E2 : Hid (Whole w5 wc.heap.size 110 #[.int .i64 0, .bool false, .int .i64 0, .int .i64 0]) := Lib.hid ((Whole.new wc.drew 110 #[.int .i64 0, .bool false, .int .i64 0, .int .i64 0]).below hb2 (by simp)); obtain ⟨q0, q1, q2, q3, r0, r1, r2, r3⟩ := at_cs E2.out; clear hb2)
              | (go_at_call 67; refine (XA.out _).mono ?_; rintro e w5 ⟨rfl, hb2⟩; have D2 : Hid (Below wc.heap.size wc w5) := Lib.hid (below_of_drew hb2); clear hb2)
              | fail)
            · have HE : Hid (AtIn (w5.alloc (.cells (At.cells ⟨y0, y1, y2, y3⟩) 110)) w5.heap.size ⟨y0, y1, y2, y3⟩) := Lib.hid (Whole.new _ _ _)
              have HD2 : Hid (Below wc.heap.size wc (w5.alloc (.cells (At.cells ⟨y0, y1, y2, y3⟩) 110))) := Lib.hid (D2.out.alloc D2.out.size _)
              have HUD := Lib.hid (Whole.below HU.out HD2.out (Whole.lt HU.out))
              have HCD := Lib.hid (below_then HC.out HD2.out (Nat.le_refl _))
              simp only [At.cells] at HE HD2 HUD HCD
              generalize w5.heap.size = q6 at *
              generalize w5.alloc _ = wd at *
              have HK9 : Hid (∀ W', Below wd.heap.size wd W' → (fun w' => w'.cell? ⟨b, off + m * 6 + 1, none⟩ = some (.int .i64 z1) ∧ w'.cell? ⟨b, off + (m + 1) * 6, none⟩ = some (.int .i64 x0) ∧ w'.cell? ⟨q4, 0, none⟩ = some (.int .i64 u0) ∧ w'.cell? ⟨q4, 1, none⟩ = some (.bool u1) ∧ w'.cell? ⟨q4, 2, none⟩ = some (.int .i64 u2) ∧ w'.cell? ⟨q4, 3, none⟩ = some (.int .i64 u3) ∧ w'.cell? ⟨q6, 0, none⟩ = some (.int .i64 y0) ∧ w'.cell? ⟨q6, 1, none⟩ = some (.bool y1) ∧ w'.cell? ⟨q6, 2, none⟩ = some (.int .i64 y2) ∧ w'.cell? ⟨q6, 3, none⟩ = some (.int .i64 y3)) W') := Lib.hid (fun W' h => by
                obtain ⟨_, k1, _⟩ := HKZ.out W' (below_then HCD.out h (Nat.le_refl _))
                obtain ⟨k0, _⟩ := HKX.out W' (below_then HCD.out h (Nat.le_refl _))
                obtain ⟨p0, p1, p2, p3⟩ := row4 (Whole.below HUD.out h (Whole.lt HUD.out))
                obtain ⟨v0, v1, v2, v3⟩ := row4 (Whole.below HE.out h (Whole.lt HE.out))
                exact ⟨k1, k0, p0, p1, p2, p3, v0, v1, v2, v3⟩)
              simp only at HK9
              clear HE HU HUD HC
              go_wp2_with fail
              rcases Int.lt_trichotomy z1 x0 with hc | hc | hc
              · have g1 : ¬ x0 < z1 := by omega
                have g2 : ¬ z1 = x0 := by omega
                have HOK := Lib.hid (HO1.out.2 (by omega))
                obtain ⟨k1, k0, p0, p1, p2, p3, v0, v1, v2, v3⟩ := HK9.out wd (Below.refl _ _)
                clear HK9 HKX HKZ
                go_quiet (fail)
                go_wp2_with fail
                go_roundg (len - (m + 1 + 1))
                case measure => omega
                case rel => exact ⟨m + 1 + 1, by omega, by omega, by go_num, Lib.hid (by rw [HT.out]; exact after_app.2 ⟨HF.out, by rw [HLA.out]; exact ⟨HOK.out, trivial⟩⟩), Lib.hid (below_drewN (below_then B1.out HCD.out (Nat.le_refl _)) nq)⟩
              · have g1 : ¬ x0 < z1 := by omega
                by_cases hr : AfterA ⟨u0, u1, u2, u3⟩ ⟨y0, y1, y2, y3⟩
                · have CR := Lib.hid (CF.out true ⟨fun _ => hr, fun _ => rfl⟩)
                  have HRR := Lib.hid (HNO.out (by rw [HLA.out]; exact fun h => HO1.out.1 h (.inr ⟨hc, hr⟩)))
                  clear hr
                  go_region_held3 (fun w' => w'.cell? ⟨b, off + m * 6 + 1, none⟩ = some (.int .i64 z1) ∧ w'.cell? ⟨b, off + (m + 1) * 6, none⟩ = some (.int .i64 x0) ∧ w'.cell? ⟨q4, 0, none⟩ = some (.int .i64 u0) ∧ w'.cell? ⟨q4, 1, none⟩ = some (.bool u1) ∧ w'.cell? ⟨q4, 2, none⟩ = some (.int .i64 u2) ∧ w'.cell? ⟨q4, 3, none⟩ = some (.int .i64 u3) ∧ w'.cell? ⟨q6, 0, none⟩ = some (.int .i64 y0) ∧ w'.cell? ⟨q6, 1, none⟩ = some (.bool y1) ∧ w'.cell? ⟨q6, 2, none⟩ = some (.int .i64 y2) ∧ w'.cell? ⟨q6, 3, none⟩ = some (.int .i64 y3))
                    (first | exact HK9.out _ (below_drew (Below.refl _ _)) | exact HK9.out _ F2.out)
                    (first
                    | (go_at_call 68; refine (CR.out _).mono ?_; rintro e w7 ⟨rfl, hb2⟩; have F2 : Hid (Below wd.heap.size wd w7) := Lib.hid (below_of_drew hb2); clear hb2)
                    | fail)
                  all_goals (
                    go_wp2_with fail
                    go_ret
                    exact ⟨HD.out false ⟨(fun h => by cases h), fun h => absurd h HRR.out⟩, below_then (below_then B1.out HCD.out (Nat.le_refl _)) F2.out (Nat.le_refl _)⟩)
                · have CR := Lib.hid (CF.out false ⟨(fun h => by cases h), fun h => absurd h hr⟩)
                  have HOK := Lib.hid (HO1.out.2 (by
                    rintro (h | ⟨_, h⟩)
                    · omega
                    · exact hr h))
                  clear hr
                  go_region_held3 (fun w' => w'.cell? ⟨b, off + m * 6 + 1, none⟩ = some (.int .i64 z1) ∧ w'.cell? ⟨b, off + (m + 1) * 6, none⟩ = some (.int .i64 x0) ∧ w'.cell? ⟨q4, 0, none⟩ = some (.int .i64 u0) ∧ w'.cell? ⟨q4, 1, none⟩ = some (.bool u1) ∧ w'.cell? ⟨q4, 2, none⟩ = some (.int .i64 u2) ∧ w'.cell? ⟨q4, 3, none⟩ = some (.int .i64 u3) ∧ w'.cell? ⟨q6, 0, none⟩ = some (.int .i64 y0) ∧ w'.cell? ⟨q6, 1, none⟩ = some (.bool y1) ∧ w'.cell? ⟨q6, 2, none⟩ = some (.int .i64 y2) ∧ w'.cell? ⟨q6, 3, none⟩ = some (.int .i64 y3))
                    (first | exact HK9.out _ (below_drew (Below.refl _ _)) | exact HK9.out _ F2.out)
                    (first
                    | (go_at_call 68; refine (CR.out _).mono ?_; rintro e w7 ⟨rfl, hb2⟩; have F2 : Hid (Below wd.heap.size wd w7) := Lib.hid (below_of_drew hb2); clear hb2)
                    | fail)
                  all_goals (
                    go_wp2_with fail
                    go_roundg (len - (m + 1 + 1))
                    case measure => omega
                    case rel => exact ⟨m + 1 + 1, by omega, by omega, by go_num, Lib.hid (by rw [HT.out]; exact after_app.2 ⟨HF.out, by rw [HLA.out]; exact ⟨HOK.out, trivial⟩⟩), Lib.hid (below_then (below_then B1.out HCD.out (Nat.le_refl _)) F2.out (Nat.le_refl _))⟩)
              · have HRR := Lib.hid (HNO.out (by rw [HLA.out]; exact fun h => HO1.out.1 h (.inl hc)))
                obtain ⟨k1, k0, p0, p1, p2, p3, v0, v1, v2, v3⟩ := HK9.out wd (Below.refl _ _)
                clear HK9 HKX HKZ
                go_quiet (fail)
                go_wp2_with fail
                go_ret
                exact ⟨HD.out false ⟨(fun h => by cases h), fun h => absurd h HRR.out⟩, below_drewN (below_then B1.out HCD.out (Nat.le_refl _)) nq⟩
            · have HE : Hid (AtIn _ _ ⟨y0, y1, y2, y3⟩) := Lib.hid (put4 E2.out (.int .i64 y0) (.bool y1) (.int .i64 y2) (.int .i64 y3))
              have HD2 := Lib.hid (below4 D2.out (Nat.le_refl wc.heap.size) (.int .i64 y0) (.bool y1) (.int .i64 y2) (.int .i64 y3))
              have HUD := Lib.hid (Whole.below HU.out HD2.out (Whole.lt HU.out))
              have HCD := Lib.hid (below_then HC.out HD2.out (Nat.le_refl _))
              clear q0 q1 q2 q3 r0 r1 r2 r3 E2
              generalize World.setCell _ _ _ = wd at *
              clear HKX2 D2 HD2
              generalize wc.heap.size = q6 at *
              have HK9 : Hid (∀ W', Below wd.heap.size wd W' → (fun w' => w'.cell? ⟨b, off + m * 6 + 1, none⟩ = some (.int .i64 z1) ∧ w'.cell? ⟨b, off + (m + 1) * 6, none⟩ = some (.int .i64 x0) ∧ w'.cell? ⟨q4, 0, none⟩ = some (.int .i64 u0) ∧ w'.cell? ⟨q4, 1, none⟩ = some (.bool u1) ∧ w'.cell? ⟨q4, 2, none⟩ = some (.int .i64 u2) ∧ w'.cell? ⟨q4, 3, none⟩ = some (.int .i64 u3) ∧ w'.cell? ⟨q6, 0, none⟩ = some (.int .i64 y0) ∧ w'.cell? ⟨q6, 1, none⟩ = some (.bool y1) ∧ w'.cell? ⟨q6, 2, none⟩ = some (.int .i64 y2) ∧ w'.cell? ⟨q6, 3, none⟩ = some (.int .i64 y3)) W') := Lib.hid (fun W' h => by
                obtain ⟨_, k1, _⟩ := HKZ.out W' (below_then HCD.out h (Nat.le_refl _))
                obtain ⟨k0, _⟩ := HKX.out W' (below_then HCD.out h (Nat.le_refl _))
                obtain ⟨p0, p1, p2, p3⟩ := row4 (Whole.below HUD.out h (Whole.lt HUD.out))
                obtain ⟨v0, v1, v2, v3⟩ := row4 (Whole.below HE.out h (Whole.lt HE.out))
                exact ⟨k1, k0, p0, p1, p2, p3, v0, v1, v2, v3⟩)
              simp only at HK9
              clear HE HU HUD HC
              go_wp2_with fail
              rcases Int.lt_trichotomy z1 x0 with hc | hc | hc
              · have g1 : ¬ x0 < z1 := by omega
                have g2 : ¬ z1 = x0 := by omega
                have HOK := Lib.hid (HO1.out.2 (by omega))
                obtain ⟨k1, k0, p0, p1, p2, p3, v0, v1, v2, v3⟩ := HK9.out wd (Below.refl _ _)
                clear HK9 HKX HKZ
                go_quiet (fail)
                go_wp2_with fail
                go_roundg (len - (m + 1 + 1))
                case measure => omega
                case rel => exact ⟨m + 1 + 1, by omega, by omega, by go_num, Lib.hid (by rw [HT.out]; exact after_app.2 ⟨HF.out, by rw [HLA.out]; exact ⟨HOK.out, trivial⟩⟩), Lib.hid (below_drewN (below_then B1.out HCD.out (Nat.le_refl _)) nq)⟩
              · have g1 : ¬ x0 < z1 := by omega
                by_cases hr : AfterA ⟨u0, u1, u2, u3⟩ ⟨y0, y1, y2, y3⟩
                · have CR := Lib.hid (CF.out true ⟨fun _ => hr, fun _ => rfl⟩)
                  have HRR := Lib.hid (HNO.out (by rw [HLA.out]; exact fun h => HO1.out.1 h (.inr ⟨hc, hr⟩)))
                  clear hr
                  go_region_held3 (fun w' => w'.cell? ⟨b, off + m * 6 + 1, none⟩ = some (.int .i64 z1) ∧ w'.cell? ⟨b, off + (m + 1) * 6, none⟩ = some (.int .i64 x0) ∧ w'.cell? ⟨q4, 0, none⟩ = some (.int .i64 u0) ∧ w'.cell? ⟨q4, 1, none⟩ = some (.bool u1) ∧ w'.cell? ⟨q4, 2, none⟩ = some (.int .i64 u2) ∧ w'.cell? ⟨q4, 3, none⟩ = some (.int .i64 u3) ∧ w'.cell? ⟨q6, 0, none⟩ = some (.int .i64 y0) ∧ w'.cell? ⟨q6, 1, none⟩ = some (.bool y1) ∧ w'.cell? ⟨q6, 2, none⟩ = some (.int .i64 y2) ∧ w'.cell? ⟨q6, 3, none⟩ = some (.int .i64 y3))
                    (first | exact HK9.out _ (below_drew (Below.refl _ _)) | exact HK9.out _ F2.out)
                    (first
                    | (go_at_call 68; refine (CR.out _).mono ?_; rintro e w7 ⟨rfl, hb2⟩; have F2 : Hid (Below wd.heap.size wd w7) := Lib.hid (below_of_drew hb2); clear hb2)
                    | fail)
                  all_goals (
                    go_wp2_with fail
                    go_ret
                    exact ⟨HD.out false ⟨(fun h => by cases h), fun h => absurd h HRR.out⟩, below_then (below_then B1.out HCD.out (Nat.le_refl _)) F2.out (Nat.le_refl _)⟩)
                · have CR := Lib.hid (CF.out false ⟨(fun h => by cases h), fun h => absurd h hr⟩)
                  have HOK := Lib.hid (HO1.out.2 (by
                    rintro (h | ⟨_, h⟩)
                    · omega
                    · exact hr h))
                  clear hr
                  go_region_held3 (fun w' => w'.cell? ⟨b, off + m * 6 + 1, none⟩ = some (.int .i64 z1) ∧ w'.cell? ⟨b, off + (m + 1) * 6, none⟩ = some (.int .i64 x0) ∧ w'.cell? ⟨q4, 0, none⟩ = some (.int .i64 u0) ∧ w'.cell? ⟨q4, 1, none⟩ = some (.bool u1) ∧ w'.cell? ⟨q4, 2, none⟩ = some (.int .i64 u2) ∧ w'.cell? ⟨q4, 3, none⟩ = some (.int .i64 u3) ∧ w'.cell? ⟨q6, 0, none⟩ = some (.int .i64 y0) ∧ w'.cell? ⟨q6, 1, none⟩ = some (.bool y1) ∧ w'.cell? ⟨q6, 2, none⟩ = some (.int .i64 y2) ∧ w'.cell? ⟨q6, 3, none⟩ = some (.int .i64 y3))
                    (first | exact HK9.out _ (below_drew (Below.refl _ _)) | exact HK9.out _ F2.out)
                    (first
                    | (go_at_call 68; refine (CR.out _).mono ?_; rintro e w7 ⟨rfl, hb2⟩; have F2 : Hid (Below wd.heap.size wd w7) := Lib.hid (below_of_drew hb2); clear hb2)
                    | fail)
                  all_goals (
                    go_wp2_with fail
                    go_roundg (len - (m + 1 + 1))
                    case measure => omega
                    case rel => exact ⟨m + 1 + 1, by omega, by omega, by go_num, Lib.hid (by rw [HT.out]; exact after_app.2 ⟨HF.out, by rw [HLA.out]; exact ⟨HOK.out, trivial⟩⟩), Lib.hid (below_then (below_then B1.out HCD.out (Nat.le_refl _)) F2.out (Nat.le_refl _))⟩)
              · have HRR := Lib.hid (HNO.out (by rw [HLA.out]; exact fun h => HO1.out.1 h (.inl hc)))
                obtain ⟨k1, k0, p0, p1, p2, p3, v0, v1, v2, v3⟩ := HK9.out wd (Below.refl _ _)
                clear HK9 HKX HKZ
                go_quiet (fail)
                go_wp2_with fail
                go_ret
                exact ⟨HD.out false ⟨(fun h => by cases h), fun h => absurd h HRR.out⟩, below_drewN (below_then B1.out HCD.out (Nat.le_refl _)) nq⟩
          · have HU : Hid (AtIn _ _ ⟨u0, u1, u2, u3⟩) := Lib.hid (put4 Q2.out (.int .i64 u0) (.bool u1) (.int .i64 u2) (.int .i64 u3))
            have HC := Lib.hid (below4 C2.out (Nat.le_refl _) (.int .i64 u0) (.bool u1) (.int .i64 u2) (.int .i64 u3))
            clear q0 q1 q2 q3 r0 r1 r2 r3 Q2 XZ
            generalize World.setCell _ _ _ = wc at *
            clear C2
            obtain ⟨q4, hq4⟩ : ∃ q4, q4 = w1.heap.size := ⟨_, rfl⟩
            rw [← hq4] at HU ⊢
            clear hq4
            have HKX2 : Hid (∀ W', Below wc.heap.size wc W' → (fun w' => w'.cell? ⟨b, off + (m + 1) * 6, none⟩ = some (.int .i64 x0) ∧ w'.cell? ⟨b, off + (m + 1) * 6 + 1, none⟩ = some (.int .i64 x1) ∧ w'.cell? ⟨b, off + (m + 1) * 6 + 2, none⟩ = some (.int .i64 x2) ∧ w'.cell? ⟨b, off + (m + 1) * 6 + 3, none⟩ = some (.bool x3) ∧ w'.cell? ⟨b, off + (m + 1) * 6 + 4, none⟩ = some (.int .i64 x4) ∧ w'.cell? ⟨b, off + (m + 1) * 6 + 5, none⟩ = some (.int .i64 x5)) W') := Lib.hid (fun W' h => HKX.out W' (below_then HC.out h (Nat.le_refl _)))
            simp only at HKX2
            go_wp2_with fail
            go_region_held3 (fun w' => w'.cell? ⟨b, off + (m + 1) * 6, none⟩ = some (.int .i64 x0) ∧ w'.cell? ⟨b, off + (m + 1) * 6 + 1, none⟩ = some (.int .i64 x1) ∧ w'.cell? ⟨b, off + (m + 1) * 6 + 2, none⟩ = some (.int .i64 x2) ∧ w'.cell? ⟨b, off + (m + 1) * 6 + 3, none⟩ = some (.bool x3) ∧ w'.cell? ⟨b, off + (m + 1) * 6 + 4, none⟩ = some (.int .i64 x4) ∧ w'.cell? ⟨b, off + (m + 1) * 6 + 5, none⟩ = some (.int .i64 x5))
              (first | exact HKX2.out _ (below_drew (Below.refl _ _)) | exact HKX2.out _ ((below_drew (Below.refl _ _)).alloc (Nat.le_refl _) _) | exact HKX2.out _ D2.out | exact HKX2.out _ (D2.out.alloc D2.out.size _) | exact HKX2.out _ (below4 D2.out (Nat.le_refl _) _ _ _ _) | exact HKX2.out _ (below4 (D2.out.alloc D2.out.size _) D2.out.size _ _ _ _))
              (first
              | (go_at_call 67; refine (XA.out _).mono ?_; rintro e w5 ⟨rfl, hb2⟩; have D2 : Hid (Below wc.heap.size wc w5) := Lib.hid (below_then ((below_drew (Below.refl wc.heap.size wc)).alloc (Nat.le_refl _) _) hb2 (Nat.le_refl _)); have E2 : Hid (Whole w5 wc.heap.size 110 #[.int .i64 0, .bool false, .int .i64 0, .int .i64 0]) := Lib.hid ((Whole.new wc.drew 110 #[.int .i64 0, .bool false, .int .i64 0, .int .i64 0]).below hb2 (by simp)); obtain ⟨q0, q1, q2, q3, r0, r1, r2, r3⟩ := at_cs E2.out; clear hb2)
              | (go_at_call 67; refine (XA.out _).mono ?_; rintro e w5 ⟨rfl, hb2⟩; have D2 : Hid (Below wc.heap.size wc w5) := Lib.hid (below_of_drew hb2); clear hb2)
              | fail)
            · have HE : Hid (AtIn (w5.alloc (.cells (At.cells ⟨y0, y1, y2, y3⟩) 110)) w5.heap.size ⟨y0, y1, y2, y3⟩) := Lib.hid (Whole.new _ _ _)
              have HD2 : Hid (Below wc.heap.size wc (w5.alloc (.cells (At.cells ⟨y0, y1, y2, y3⟩) 110))) := Lib.hid (D2.out.alloc D2.out.size _)
              have HUD := Lib.hid (Whole.below HU.out HD2.out (Whole.lt HU.out))
              have HCD := Lib.hid (below_then HC.out HD2.out (Nat.le_refl _))
              simp only [At.cells] at HE HD2 HUD HCD
              generalize w5.heap.size = q6 at *
              generalize w5.alloc _ = wd at *
              have HK9 : Hid (∀ W', Below wd.heap.size wd W' → (fun w' => w'.cell? ⟨b, off + m * 6 + 1, none⟩ = some (.int .i64 z1) ∧ w'.cell? ⟨b, off + (m + 1) * 6, none⟩ = some (.int .i64 x0) ∧ w'.cell? ⟨q4, 0, none⟩ = some (.int .i64 u0) ∧ w'.cell? ⟨q4, 1, none⟩ = some (.bool u1) ∧ w'.cell? ⟨q4, 2, none⟩ = some (.int .i64 u2) ∧ w'.cell? ⟨q4, 3, none⟩ = some (.int .i64 u3) ∧ w'.cell? ⟨q6, 0, none⟩ = some (.int .i64 y0) ∧ w'.cell? ⟨q6, 1, none⟩ = some (.bool y1) ∧ w'.cell? ⟨q6, 2, none⟩ = some (.int .i64 y2) ∧ w'.cell? ⟨q6, 3, none⟩ = some (.int .i64 y3)) W') := Lib.hid (fun W' h => by
                obtain ⟨_, k1, _⟩ := HKZ.out W' (below_then HCD.out h (Nat.le_refl _))
                obtain ⟨k0, _⟩ := HKX.out W' (below_then HCD.out h (Nat.le_refl _))
                obtain ⟨p0, p1, p2, p3⟩ := row4 (Whole.below HUD.out h (Whole.lt HUD.out))
                obtain ⟨v0, v1, v2, v3⟩ := row4 (Whole.below HE.out h (Whole.lt HE.out))
                exact ⟨k1, k0, p0, p1, p2, p3, v0, v1, v2, v3⟩)
              simp only at HK9
              clear HE HU HUD HC
              go_wp2_with fail
              rcases Int.lt_trichotomy z1 x0 with hc | hc | hc
              · have g1 : ¬ x0 < z1 := by omega
                have g2 : ¬ z1 = x0 := by omega
                have HOK := Lib.hid (HO1.out.2 (by omega))
                obtain ⟨k1, k0, p0, p1, p2, p3, v0, v1, v2, v3⟩ := HK9.out wd (Below.refl _ _)
                clear HK9 HKX HKZ
                go_quiet (fail)
                go_wp2_with fail
                go_roundg (len - (m + 1 + 1))
                case measure => omega
                case rel => exact ⟨m + 1 + 1, by omega, by omega, by go_num, Lib.hid (by rw [HT.out]; exact after_app.2 ⟨HF.out, by rw [HLA.out]; exact ⟨HOK.out, trivial⟩⟩), Lib.hid (below_drewN (below_then B1.out HCD.out (Nat.le_refl _)) nq)⟩
              · have g1 : ¬ x0 < z1 := by omega
                by_cases hr : AfterA ⟨u0, u1, u2, u3⟩ ⟨y0, y1, y2, y3⟩
                · have CR := Lib.hid (CF.out true ⟨fun _ => hr, fun _ => rfl⟩)
                  have HRR := Lib.hid (HNO.out (by rw [HLA.out]; exact fun h => HO1.out.1 h (.inr ⟨hc, hr⟩)))
                  clear hr
                  go_region_held3 (fun w' => w'.cell? ⟨b, off + m * 6 + 1, none⟩ = some (.int .i64 z1) ∧ w'.cell? ⟨b, off + (m + 1) * 6, none⟩ = some (.int .i64 x0) ∧ w'.cell? ⟨q4, 0, none⟩ = some (.int .i64 u0) ∧ w'.cell? ⟨q4, 1, none⟩ = some (.bool u1) ∧ w'.cell? ⟨q4, 2, none⟩ = some (.int .i64 u2) ∧ w'.cell? ⟨q4, 3, none⟩ = some (.int .i64 u3) ∧ w'.cell? ⟨q6, 0, none⟩ = some (.int .i64 y0) ∧ w'.cell? ⟨q6, 1, none⟩ = some (.bool y1) ∧ w'.cell? ⟨q6, 2, none⟩ = some (.int .i64 y2) ∧ w'.cell? ⟨q6, 3, none⟩ = some (.int .i64 y3))
                    (first | exact HK9.out _ (below_drew (Below.refl _ _)) | exact HK9.out _ F2.out)
                    (first
                    | (go_at_call 68; refine (CR.out _).mono ?_; rintro e w7 ⟨rfl, hb2⟩; have F2 : Hid (Below wd.heap.size wd w7) := Lib.hid (below_of_drew hb2); clear hb2)
                    | fail)
                  all_goals (
                    go_wp2_with fail
                    go_ret
                    exact ⟨HD.out false ⟨(fun h => by cases h), fun h => absurd h HRR.out⟩, below_then (below_then B1.out HCD.out (Nat.le_refl _)) F2.out (Nat.le_refl _)⟩)
                · have CR := Lib.hid (CF.out false ⟨(fun h => by cases h), fun h => absurd h hr⟩)
                  have HOK := Lib.hid (HO1.out.2 (by
                    rintro (h | ⟨_, h⟩)
                    · omega
                    · exact hr h))
                  clear hr
                  go_region_held3 (fun w' => w'.cell? ⟨b, off + m * 6 + 1, none⟩ = some (.int .i64 z1) ∧ w'.cell? ⟨b, off + (m + 1) * 6, none⟩ = some (.int .i64 x0) ∧ w'.cell? ⟨q4, 0, none⟩ = some (.int .i64 u0) ∧ w'.cell? ⟨q4, 1, none⟩ = some (.bool u1) ∧ w'.cell? ⟨q4, 2, none⟩ = some (.int .i64 u2) ∧ w'.cell? ⟨q4, 3, none⟩ = some (.int .i64 u3) ∧ w'.cell? ⟨q6, 0, none⟩ = some (.int .i64 y0) ∧ w'.cell? ⟨q6, 1, none⟩ = some (.bool y1) ∧ w'.cell? ⟨q6, 2, none⟩ = some (.int .i64 y2) ∧ w'.cell? ⟨q6, 3, none⟩ = some (.int .i64 y3))
                    (first | exact HK9.out _ (below_drew (Below.refl _ _)) | exact HK9.out _ F2.out)
                    (first
                    | (go_at_call 68; refine (CR.out _).mono ?_; rintro e w7 ⟨rfl, hb2⟩; have F2 : Hid (Below wd.heap.size wd w7) := Lib.hid (below_of_drew hb2); clear hb2)
                    | fail)
                  all_goals (
                    go_wp2_with fail
                    go_roundg (len - (m + 1 + 1))
                    case measure => omega
                    case rel => exact ⟨m + 1 + 1, by omega, by omega, by go_num, Lib.hid (by rw [HT.out]; exact after_app.2 ⟨HF.out, by rw [HLA.out]; exact ⟨HOK.out, trivial⟩⟩), Lib.hid (below_then (below_then B1.out HCD.out (Nat.le_refl _)) F2.out (Nat.le_refl _))⟩)
              · have HRR := Lib.hid (HNO.out (by rw [HLA.out]; exact fun h => HO1.out.1 h (.inl hc)))
                obtain ⟨k1, k0, p0, p1, p2, p3, v0, v1, v2, v3⟩ := HK9.out wd (Below.refl _ _)
                clear HK9 HKX HKZ
                go_quiet (fail)
                go_wp2_with fail
                go_ret
                exact ⟨HD.out false ⟨(fun h => by cases h), fun h => absurd h HRR.out⟩, below_drewN (below_then B1.out HCD.out (Nat.le_refl _)) nq⟩
            · have HE : Hid (AtIn _ _ ⟨y0, y1, y2, y3⟩) := Lib.hid (put4 E2.out (.int .i64 y0) (.bool y1) (.int .i64 y2) (.int .i64 y3))
              have HD2 := Lib.hid (below4 D2.out (Nat.le_refl wc.heap.size) (.int .i64 y0) (.bool y1) (.int .i64 y2) (.int .i64 y3))
              have HUD := Lib.hid (Whole.below HU.out HD2.out (Whole.lt HU.out))
              have HCD := Lib.hid (below_then HC.out HD2.out (Nat.le_refl _))
              clear q0 q1 q2 q3 r0 r1 r2 r3 E2
              generalize World.setCell _ _ _ = wd at *
              clear HKX2 D2 HD2
              generalize wc.heap.size = q6 at *
              have HK9 : Hid (∀ W', Below wd.heap.size wd W' → (fun w' => w'.cell? ⟨b, off + m * 6 + 1, none⟩ = some (.int .i64 z1) ∧ w'.cell? ⟨b, off + (m + 1) * 6, none⟩ = some (.int .i64 x0) ∧ w'.cell? ⟨q4, 0, none⟩ = some (.int .i64 u0) ∧ w'.cell? ⟨q4, 1, none⟩ = some (.bool u1) ∧ w'.cell? ⟨q4, 2, none⟩ = some (.int .i64 u2) ∧ w'.cell? ⟨q4, 3, none⟩ = some (.int .i64 u3) ∧ w'.cell? ⟨q6, 0, none⟩ = some (.int .i64 y0) ∧ w'.cell? ⟨q6, 1, none⟩ = some (.bool y1) ∧ w'.cell? ⟨q6, 2, none⟩ = some (.int .i64 y2) ∧ w'.cell? ⟨q6, 3, none⟩ = some (.int .i64 y3)) W') := Lib.hid (fun W' h => by
                obtain ⟨_, k1, _⟩ := HKZ.out W' (below_then HCD.out h (Nat.le_refl _))
                obtain ⟨k0, _⟩ := HKX.out W' (below_then HCD.out h (Nat.le_refl _))
                obtain ⟨p0, p1, p2, p3⟩ := row4 (Whole.below HUD.out h (Whole.lt HUD.out))
                obtain ⟨v0, v1, v2, v3⟩ := row4 (Whole.below HE.out h (Whole.lt HE.out))
                exact ⟨k1, k0, p0, p1, p2, p3, v0, v1, v2, v3⟩)
              simp only at HK9
              clear HE HU HUD HC
              go_wp2_with fail
              rcases Int.lt_trichotomy z1 x0 with hc | hc | hc
              · have g1 : ¬ x0 < z1 := by omega
                have g2 : ¬ z1 = x0 := by omega
                have HOK := Lib.hid (HO1.out.2 (by omega))
                obtain ⟨k1, k0, p0, p1, p2, p3, v0, v1, v2, v3⟩ := HK9.out wd (Below.refl _ _)
                clear HK9 HKX HKZ
                go_quiet (fail)
                go_wp2_with fail
                go_roundg (len - (m + 1 + 1))
                case measure => omega
                case rel => exact ⟨m + 1 + 1, by omega, by omega, by go_num, Lib.hid (by rw [HT.out]; exact after_app.2 ⟨HF.out, by rw [HLA.out]; exact ⟨HOK.out, trivial⟩⟩), Lib.hid (below_drewN (below_then B1.out HCD.out (Nat.le_refl _)) nq)⟩
              · have g1 : ¬ x0 < z1 := by omega
                by_cases hr : AfterA ⟨u0, u1, u2, u3⟩ ⟨y0, y1, y2, y3⟩
                · have CR := Lib.hid (CF.out true ⟨fun _ => hr, fun _ => rfl⟩)
                  have HRR := Lib.hid (HNO.out (by rw [HLA.out]; exact fun h => HO1.out.1 h (.inr ⟨hc, hr⟩)))
                  clear hr
                  go_region_held3 (fun w' => w'.cell? ⟨b, off + m * 6 + 1, none⟩ = some (.int .i64 z1) ∧ w'.cell? ⟨b, off + (m + 1) * 6, none⟩ = some (.int .i64 x0) ∧ w'.cell? ⟨q4, 0, none⟩ = some (.int .i64 u0) ∧ w'.cell? ⟨q4, 1, none⟩ = some (.bool u1) ∧ w'.cell? ⟨q4, 2, none⟩ = some (.int .i64 u2) ∧ w'.cell? ⟨q4, 3, none⟩ = some (.int .i64 u3) ∧ w'.cell? ⟨q6, 0, none⟩ = some (.int .i64 y0) ∧ w'.cell? ⟨q6, 1, none⟩ = some (.bool y1) ∧ w'.cell? ⟨q6, 2, none⟩ = some (.int .i64 y2) ∧ w'.cell? ⟨q6, 3, none⟩ = some (.int .i64 y3))
                    (first | exact HK9.out _ (below_drew (Below.refl _ _)) | exact HK9.out _ F2.out)
                    (first
                    | (go_at_call 68; refine (CR.out _).mono ?_; rintro e w7 ⟨rfl, hb2⟩; have F2 : Hid (Below wd.heap.size wd w7) := Lib.hid (below_of_drew hb2); clear hb2)
                    | fail)
                  all_goals (
                    go_wp2_with fail
                    go_ret
                    exact ⟨HD.out false ⟨(fun h => by cases h), fun h => absurd h HRR.out⟩, below_then (below_then B1.out HCD.out (Nat.le_refl _)) F2.out (Nat.le_refl _)⟩)
                · have CR := Lib.hid (CF.out false ⟨(fun h => by cases h), fun h => absurd h hr⟩)
                  have HOK := Lib.hid (HO1.out.2 (by
                    rintro (h | ⟨_, h⟩)
                    · omega
                    · exact hr h))
                  clear hr
                  go_region_held3 (fun w' => w'.cell? ⟨b, off + m * 6 + 1, none⟩ = some (.int .i64 z1) ∧ w'.cell? ⟨b, off + (m + 1) * 6, none⟩ = some (.int .i64 x0) ∧ w'.cell? ⟨q4, 0, none⟩ = some (.int .i64 u0) ∧ w'.cell? ⟨q4, 1, none⟩ = some (.bool u1) ∧ w'.cell? ⟨q4, 2, none⟩ = some (.int .i64 u2) ∧ w'.cell? ⟨q4, 3, none⟩ = some (.int .i64 u3) ∧ w'.cell? ⟨q6, 0, none⟩ = some (.int .i64 y0) ∧ w'.cell? ⟨q6, 1, none⟩ = some (.bool y1) ∧ w'.cell? ⟨q6, 2, none⟩ = some (.int .i64 y2) ∧ w'.cell? ⟨q6, 3, none⟩ = some (.int .i64 y3))
                    (first | exact HK9.out _ (below_drew (Below.refl _ _)) | exact HK9.out _ F2.out)
                    (first
                    | (go_at_call 68; refine (CR.out _).mono ?_; rintro e w7 ⟨rfl, hb2⟩; have F2 : Hid (Below wd.heap.size wd w7) := Lib.hid (below_of_drew hb2); clear hb2)
                    | fail)
                  all_goals (
                    go_wp2_with fail
                    go_roundg (len - (m + 1 + 1))
                    case measure => omega
                    case rel => exact ⟨m + 1 + 1, by omega, by omega, by go_num, Lib.hid (by rw [HT.out]; exact after_app.2 ⟨HF.out, by rw [HLA.out]; exact ⟨HOK.out, trivial⟩⟩), Lib.hid (below_then (below_then B1.out HCD.out (Nat.le_refl _)) F2.out (Nat.le_refl _))⟩)
              · have HRR := Lib.hid (HNO.out (by rw [HLA.out]; exact fun h => HO1.out.1 h (.inl hc)))
                obtain ⟨k1, k0, p0, p1, p2, p3, v0, v1, v2, v3⟩ := HK9.out wd (Below.refl _ _)
                clear HK9 HKX HKZ
                go_quiet (fail)
                go_wp2_with fail
                go_ret
                exact ⟨HD.out false ⟨(fun h => by cases h), fun h => absurd h HRR.out⟩, below_drewN (below_then B1.out HCD.out (Nat.le_refl _)) nq⟩
      · rw [decide_eq_false hf] at X
        have HR := Lib.hid (HNO.out (fun h => hf h.1))
        clear hf
        generalize l[k] = x at *
        obtain ⟨x0, x1, x2, x3, x4, x5⟩ := x
        simp only [Ar.v] at c0 c1 c2 c3 c4 c5 X
        go_wp2_with fail
        refine (X.out _).mono ?_
        rintro e w1 ⟨rfl, hb1⟩
        have B1 := Lib.hid (below_then HB.out hb1 (Nat.le_refl _))
        clear hb1 c0 c1 c2 c3 c4 c5
        go_wp2_with fail
        go_ret
        exact ⟨HD.out false ⟨(fun h => by cases h), fun h => absurd h HR.out⟩, B1.out⟩
    · obtain rfl : k = len := by omega
      go_wp2_with fail
      go_ret
      refine ⟨HD.out true ⟨fun _ => ?_, fun _ => rfl⟩, HB.out⟩
      have := HF.out
      rwa [← HLen.out, List.take_length] at this
end Go.Proofs.Ytejkhnphplpkeaa

/-
  Layer 10: the reference: whether a list may come: a contract.
-/
namespace Go.Proofs.Ytejkhnphplpkeaa
open Go.ChangeShapes Go.WideShapes Go.ChangeAt Go.RowKit Go.Shelf
set_option linter.unusedVariables false
attribute [local go_sem ↓] Go.wp_at_zero Go.wp_at_succ

/-! Whether a list may come. -/
end Go.Proofs.Ytejkhnphplpkeaa
