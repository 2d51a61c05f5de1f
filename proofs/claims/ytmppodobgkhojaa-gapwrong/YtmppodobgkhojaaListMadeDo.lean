/-
  Layer 7: areas that are put one by one, by pages: a contract for the call.
-/
import Derived.Test.YtmppodobgkhojaaListRefL
namespace Go.Proofs.Ytmppodobgkhojaa
open Go.ChangeShapes Go.WideShapes Go.ChangeAt Go.RowKit Go.Shelf
set_option linter.unusedVariables false

/-- The pages so far. -/
structure MdAt (w wr : World) (s : Sp) : Prop where
  s : SpIn wr w.heap.size s
  bel : Below w.heap.size w wr
theorem MdAt.still {w wr w' : World} {s : Sp} (h : MdAt w wr s) (hb : Below wr.heap.size wr w') : MdAt w w' s := ⟨Whole.below h.s hb (Whole.lt h.s), h.bel.trans (hb.mono h.bel.size)⟩
/-- While one area's pages are laid. -/
structure MxAt (w wr : World) (q : Nat) (s t : Sp) : Prop where
  m : MdAt w wr s
  t : SpIn wr q t
  ne : w.heap.size < q
theorem MdAt.with {w wr w' : World} {s : Sp} (h : MdAt w wr s) (hb : Below wr.heap.size wr w') (t : Sp) :
    MxAt w ((w'.alloc (.cells Try.zeroCells43 43)).setCells w'.heap.size 0 (spl t 512)) w'.heap.size s t := by
  have h1 := (h.still hb).still (below_new w' (.cells Try.zeroCells43 43))
  have hz : SpIn (w'.alloc (.cells Try.zeroCells43 43)) w'.heap.size (fun _ => none) := by
    rw [zero_spc]; exact Whole.new _ _ _
  have hlt : w.heap.size < w'.heap.size := Whole.lt (h.still hb).s
  have ho := only_many (q := w'.heap.size) (spl t 512) 0 (w'.alloc (.cells Try.zeroCells43 43))
  exact ⟨⟨Whole.only h1.s ho (by omega), h1.bel.trans (ho.below (fun k hk => by omega) h1.bel.size)⟩, hz.all, hlt⟩
/-- Pages of t in place of those of s, ahead of one. -/
def mix (s t : Sp) (n : Nat) : Sp := fun p => if p < n ∧ (t p).isSome then t p else s p
theorem mix_zero (s t : Sp) : mix s t 0 = s := by funext p; unfold mix; rw [if_neg (by omega)]
theorem mix_none {s t : Sp} {n : Nat} (h : t n = none) : mix s t (n + 1) = mix s t n := by
  funext p
  unfold mix
  by_cases hp : p = n
  · subst hp; rw [h, if_neg (by simp), if_neg (by simp)]
  · by_cases hlt : p < n
    · simp [hlt, show p < n + 1 by omega]
    · simp [hlt, show ¬ p < n + 1 by omega]
theorem mix_some {s t : Sp} {n : Nat} {x : At} (h : t n = some x) : (mix s t n).put n (some x) = mix s t (n + 1) := by
  funext p
  unfold Sp.put mix
  by_cases hp : p = n
  · subst hp; rw [if_pos rfl, if_pos ⟨by omega, by rw [h]; rfl⟩, h]
  · rw [if_neg hp]
    by_cases hlt : p < n
    · simp [hlt, show p < n + 1 by omega]
    · simp [hlt, show ¬ p < n + 1 by omega]
theorem MxAt.put {w wr : World} {q : Nat} {s t : Sp} (h : MxAt w wr q s t) {p : Nat} (hp : p < 512) (x : At) :
    MxAt w (((((wr.setCell ⟨w.heap.size, p * 5, none⟩ (.bool true)).setCell ⟨w.heap.size, p * 5 + 1, none⟩ (.int .i64 x.p)).setCell ⟨w.heap.size, p * 5 + 2, none⟩ (.bool x.sh)).setCell ⟨w.heap.size, p * 5 + 3, none⟩ (.int .i64 x.bk)).setCell ⟨w.heap.size, p * 5 + 4, none⟩ (.int .i64 x.off)) q (s.put p (some x)) t := by
  have hne := h.ne
  refine ⟨⟨h.m.s.put hp x, ?_⟩, ?_, hne⟩
  · exact ((((h.m.bel.setCell (by simp) _).setCell (by simp) _).setCell (by simp) _).setCell (by simp) _).setCell (by simp) _
  · exact Whole.far (Whole.far (Whole.far (Whole.far (Whole.far h.t (by simp; omega) _) (by simp; omega) _) (by simp; omega) _) (by simp; omega) _) (by simp; omega) _
theorem sp_is {w : World} {q : Nat} {s : Sp} (h : SpIn w q s) {p : Nat} (hp : p < 512) : (∃ a b c d e, w.cell? ⟨q, p * 5, none⟩ = some a ∧ w.cell? ⟨q, p * 5 + 1, none⟩ = some b ∧ w.cell? ⟨q, p * 5 + 2, none⟩ = some c ∧ w.cell? ⟨q, p * 5 + 3, none⟩ = some d ∧ w.cell? ⟨q, p * 5 + 4, none⟩ = some e) ∧ ∀ i, w.frozen? ⟨q, i, none⟩ = false := by
  refine ⟨?_, Whole.frozen h⟩
  cases hs : s p with
  | none => obtain ⟨⟨h0, h1, h2, h3, h4⟩, _⟩ := h.five hp hs; exact ⟨_, _, _, _, _, h0, h1, h2, h3, h4⟩
  | some x => obtain ⟨h0, h1, h2, h3, h4⟩ := h.some hp hs; exact ⟨_, _, _, _, _, h0, h1, h2, h3, h4⟩
theorem mix_all (l : List Ar) (a : Ar) (hf : Formed a) {p : Nat} (hp : p < 512) : mix (madeS l) (spA a) 512 p = putS (madeS l) a p := by
  unfold mix spA putS
  rw [if_pos hf]
  by_cases hc : Cov a p
  · simp [hc, hp]
  · simp [hc]

set_option maxRecDepth 100000 in
set_option maxHeartbeats 4000000 in
theorem made_any (A : Option Addr) (c : Nat) (l : List Ar) (hl : l.length ≤ 40) (hc : l.length ≤ c) (w : World) (hA : Areas w.heap.size w A l) :
    Calls Try.prog 11 #[.slice A l.length c] w fun e w' => ∃ v, e = .returned v ∧ Mine w.heap.size w' v (madeL l) ∧ Below w.heap.size w w' := by
  have HA := Lib.hid hA
  have L0 : Hid (MdAt w (w.alloc (.cells Try.zeroCells43 43)) (madeS (l.take 0))) := Lib.hid ⟨by rw [zero_spc]; exact Whole.new _ _ _, below_new _ _⟩
  clear hA
  generalize hL : l.length = len at *
  have HLen := Lib.hid hL
  clear hL
  go_enter Try.func11, Try.ntmps11
  go_wp2_with fail
  generalize w.alloc _ = W0 at *
  go_loopg [4, 5, 6] 40 (fun g s4 _ _ wr => ∃ k : Nat, k ≤ len ∧ 40 - k ≤ g ∧ s4 = .int .i64 k ∧ Hid (MdAt w wr (madeS (l.take k))))
  case atStart => exact ⟨0, by omega, by omega, rfl, L0⟩
  case round =>
    obtain ⟨k, hk, hgk, rfl, HM⟩ := hrel
    by_cases hlt : k < len
    · have hltz : (k : Int) < (len : Int) := by omega
      have hlt40 : (k : Int) < 40 := by omega
      have hz0 : (0 : Int) ≤ (k : Int) := by omega
      have hz1 : (k : Int) ≤ (k : Int) + 1 := by omega
      have hz2 : (k : Int) + 1 ≤ (c : Int) := by omega
      have hlk : k < l.length := by rw [HLen.out]; exact hlt
      rcases HA.out with hn | ⟨b, off, rfl, hb, hcs⟩
      · rw [hn] at hlk; simp at hlk
      have HT : Hid (madeS (l.take (k + 1)) = putS (madeS (l.take k)) l[k]) := Lib.hid (by rw [List.take_succ_eq_append_getElem hlk, madeS_snoc])
      have HAT := Lib.hid (fun W h => (hcs k hlk).below (w' := W) h hb)
      have X := Lib.hid (refFormed_any l[k])
      have Y : Hid (Formed l[k] → ∀ (cc : Nat) (W : World), Below w.heap.size w W → Calls Try.prog 19 #[.slice (some ⟨b, off + k * 6, none⟩) 1 cc] W fun e w' => e = .returned (.agg (spc (spA l[k]))) ∧ Below W.heap.size W w') := Lib.hid (fun hf cc W h => of_any l[k] hf b (off + k * 6) cc W (Nat.lt_of_lt_of_le hb h.size) ((hcs k hlk).below h hb))
      obtain ⟨c0, c1, c2, c3, c4, c5⟩ := HAT.out wr HM.out.bel
      generalize hx : l[k] = x at *
      clear hx hcs
      by_cases hf : Formed x
      · rw [decide_eq_true hf] at X
        have HF := Lib.hid hf
        have HPS := Lib.hid (fun (p : Nat) (hp : p < 512) => mix_all (l.take k) x hf hp)
        clear hf
        generalize hs : madeS (l.take k) = s at *
        clear hs
        obtain ⟨x0, x1, x2, x3, x4, x5⟩ := x
        simp only [Ar.v] at c0 c1 c2 c3 c4 c5 X
        go_wp2_with fail
        refine (X.out _).mono ?_
        rintro e w1 ⟨rfl, hb1⟩
        have M1 := Lib.hid (HM.out.still hb1)
        have B1 := Lib.hid hb1
        clear hb1 c0 c1 c2 c3 c4 c5 X
        go_wp2_with fail
        refine (Y.out HF.out _ w1 M1.out.bel).mono ?_
        rintro e w2 ⟨rfl, hb2⟩
        have MX := Lib.hid (M1.out.with hb2 (spA ⟨x0, x1, x2, x3, x4, x5⟩))
        have TH : Hid ((w2.alloc (.cells Try.zeroCells43 43)).there w2.heap.size 0 (spl (spA ⟨x0, x1, x2, x3, x4, x5⟩) 512).toArray.size) := Lib.hid (SpIn.there (s := fun _ => none) (by rw [zero_spc]; exact Whole.new _ _ _))
        clear hb2 Y
        generalize ht : spA ⟨x0, x1, x2, x3, x4, x5⟩ = t at *
        clear ht
        go_wp2_with (refine wpList_store_mid rfl 43 (.tmp 5) (.tmp 28) (by rfl) w2.heap.size 0 (spl t 512).toArray (by rfl) (by rfl) TH.out (space_size' _) (spl_one _ _) ?_)
        generalize hq : w2.heap.size = q at *
        clear hq TH
        generalize World.setCells _ _ _ _ = W1 at *
        go_loopg [6] 512 (fun g s6 wr => ∃ n : Nat, n ≤ 512 ∧ 512 - n ≤ g ∧ s6 = .int .i64 n ∧ Hid (MxAt w wr q (mix s t n) t))
        case atStart => exact ⟨0, by omega, by omega, rfl, by rw [mix_zero]; exact MX⟩
        case round =>
          obtain ⟨n, hn, hgn, rfl, HX⟩ := hrel
          by_cases hn5 : n < 512
          · have hn5z : (n : Int) < 512 := by omega
            have hn0 : (0 : Int) ≤ (n : Int) := by omega
            obtain ⟨⟨o0, o1, o2, o3, o4, e0, e1, e2, e3, e4⟩, fz⟩ := sp_is HX.out.m.s hn5
            cases hto : t n with
            | none =>
              obtain ⟨⟨d0, d1, d2, d3, d4⟩, _⟩ := HX.out.t.five hn5 hto
              go_wp2_with fail
              go_roundg (512 - (n + 1))
              case measure => omega
              case rel => exact ⟨n + 1, by omega, by omega, by go_num, by rw [mix_none hto]; exact HX⟩
            | some y =>
              obtain ⟨d0, d1, d2, d3, d4⟩ := HX.out.t.some hn5 hto
              have HMS := Lib.hid (mix_some (s := s) hto)
              have HP := Lib.hid (HX.out.put hn5 y)
              obtain ⟨y0, y1, y2, y3⟩ := y
              simp only at d0 d1 d2 d3 d4 HP
              clear hto
              go_wp2_with fail
              go_roundg (512 - (n + 1))
              case measure => omega
              case rel => exact ⟨n + 1, by omega, by omega, by go_num, by rw [← HMS.out]; exact HP⟩
          · obtain rfl : n = 512 := by omega
            go_wp2_with fail
            go_roundg (40 - (k + 1))
            case measure => omega
            case rel =>
              refine ⟨k + 1, by omega, by omega, by go_num, Lib.hid ⟨?_, HX.out.m.bel⟩⟩
              have := HX.out.m.s
              unfold SpIn at this ⊢
              rw [HT.out, spc_same (s' := mix s t 512) (fun p hp => (HPS.out p hp).symm)]
              exact this
      · rw [decide_eq_false hf] at X
        have HP : Hid (putS (madeS (l.take k)) x = madeS (l.take k)) := Lib.hid (by unfold putS; rw [if_neg hf])
        clear hf
        obtain ⟨x0, x1, x2, x3, x4, x5⟩ := x
        simp only [Ar.v] at c0 c1 c2 c3 c4 c5 X
        go_wp2_with fail
        refine (X.out _).mono ?_
        rintro e w1 ⟨rfl, hb1⟩
        have M1 := Lib.hid (HM.out.still hb1)
        clear hb1 c0 c1 c2 c3 c4 c5
        go_wp2_with fail
        go_roundg (40 - (k + 1))
        case measure => omega
        case rel => exact ⟨k + 1, by omega, by omega, by go_num, by rw [HT.out, HP.out]; exact M1⟩
    · obtain rfl : k = len := by omega
      have hlt' : ¬ (k : Int) < (k : Int) := by omega
      have HF : Hid (madeS (l.take k) = madeS l) := Lib.hid (by rw [← HLen.out, List.take_length])
      have X := Lib.hid (refList_any (madeS l) (madeS_good l))
      rw [HF.out] at HM
      go_wp2_with (refine wpList_load_mid rfl 43 (.tmp 3) (by rfl) w.heap.size 0 (by rfl) (spl (madeS l) 512) _ HM.out.s.range Try.underlying43 rfl (space_size _) ?_)
      have X1 : Hid (Calls Try.prog 24 #[.agg (spl (madeS l) 512).toArray] wr fun e w' => ∃ v, e = .returned v ∧ Mine wr.heap.size w' v (listTo (madeS l) 512) ∧ Below wr.heap.size wr w') := Lib.hid (X.out wr)
      refine X1.out.mono ?_
      rintro e w1 ⟨v, rfl, hm, hb1⟩
      have HMM := Lib.hid hm
      have B1 := Lib.hid hb1
      clear hm hb1
      go_wp2_with fail
      go_ret
      refine ⟨v, rfl, ?_, below_then HM.out.bel B1.out (Nat.le_refl _)⟩
      unfold madeL
      rw [top_eq]
      exact HMM.out.base HM.out.bel.size
end Go.Proofs.Ytmppodobgkhojaa
