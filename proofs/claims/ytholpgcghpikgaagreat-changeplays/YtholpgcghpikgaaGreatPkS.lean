/-
  Texts of our own, one behind the other (MapSpace, MapCut): what the laws' proofs rest on; each says at its head what it holds. No conditions.
-/
import Derived.Test.YtholpgcghpikgaaGreatPkH
/-
  Layer 10: the reference: pages that are touched, pages with others in a range, pages without a range: a contract for each call.
-/
namespace Go.Proofs.YtholpgcghpikgaaGreat
open Go.ChangeShapes Go.WideShapes Go.ChangeAt Go.RowKit Go.Shelf
set_option linter.unusedVariables false
attribute [local go_sem ↓] Go.wp_at_zero Go.wp_at_succ

set_option maxHeartbeats 2000000 in
theorem touched_any (p : Nat) (hp : p < 512) (lo hi : Int) {r : Bool} (hr : Tells r (Touch lo hi p)) : Says 125 #[.int .i64 p, .int .i64 lo, .int .i64 hi] (.bool r) := by
  intro w
  by_cases h1 : lo < hi
  · by_cases h2 : lo < 4096 * (p : Int) + 4096
    · by_cases h3 : 4096 * (p : Int) < hi
      · have hf : r = true := hr.yes ⟨h1, h2, h3⟩
        subst hf
        clear hr
        have d3 : decide (4096 * (p : Int) < hi) = true := decide_eq_true h3
        go_enter Tryz.func125, Tryz.ntmps125
        go_wp2_with fail
        go_ret
        exact ⟨rfl, Below.refl _ _⟩
      · have hf : r = false := hr.no (fun h => h3 h.2.2)
        subst hf
        clear hr
        have d3 : decide (4096 * (p : Int) < hi) = false := decide_eq_false h3
        go_enter Tryz.func125, Tryz.ntmps125
        go_wp2_with fail
        go_ret
        exact ⟨rfl, Below.refl _ _⟩
    · have hf : r = false := hr.no (fun h => h2 h.2.1)
      subst hf
      clear hr
      go_enter Tryz.func125, Tryz.ntmps125
      go_wp2_with fail
      go_ret
      exact ⟨rfl, Below.refl _ _⟩
  · have hf : r = false := hr.no (fun h => h1 h.1)
    subst hf
    clear hr
    go_enter Tryz.func125, Tryz.ntmps125
    go_wp2_with fail
    go_ret
    exact ⟨rfl, Below.refl _ _⟩

/-- A page of a range is mapped. -/
def SomeS (s : Sp) (lo hi : Int) : Prop := ∃ p : Nat, p < 512 ∧ s p ≠ none ∧ Touch lo hi p
instance touch_dec (lo hi p : Int) : Decidable (Touch lo hi p) := by unfold Touch; infer_instance
set_option maxRecDepth 100000 in
set_option maxHeartbeats 4000000 in
theorem refSome_any (s : Sp) (lo hi : Int) {r : Bool} (hr : Tells r (SomeS s lo hi)) (w : World) :
    Calls Tryz.prog 99 #[.agg (spc s), .int .i64 lo, .int .i64 hi] w fun e w' => e = .returned (.bool r) ∧ Below w.heap.size w w' := by
  have HC : Hid (ChAt w (w.alloc (.cells (spc s) 97)) w.heap.size s) := Lib.hid ⟨Whole.new _ _ _, below_new _ _⟩
  have HR := Lib.hid hr
  have CT := Lib.hid (fun (p : Nat) (hp : p < 512) (r : Bool) (hr : Tells r (Touch lo hi p)) => touched_any p hp lo hi hr)
  clear hr
  go_enter Tryz.func99, Tryz.ntmps99
  go_wp2_with fail
  generalize w.alloc _ = W0 at *
  go_loopg [7] 512 (fun g s7 wr => ∃ n : Nat, n ≤ 512 ∧ 512 - n ≤ g ∧ s7 = .int .i64 n ∧ Hid (ChAt w wr w.heap.size s) ∧ Hid (∀ p, p < n → s p ≠ none → ¬ Touch lo hi p))
  case atStart => exact ⟨0, by omega, by omega, rfl, HC, Lib.hid (fun p h => by omega)⟩
  case round =>
    obtain ⟨n, hn1, hgn, rfl, HC, HN⟩ := hrel
    by_cases hlt : n < 512
    · have hz1 : (n : Int) < 512 := by omega
      have hz0 : (0 : Int) ≤ (n : Int) := by omega
      cases hs : s n with
      | none =>
        obtain ⟨⟨d0, d1, d2, d3, d4⟩, fz⟩ := HC.out.s.five (by omega) hs
        have HN2 : Hid (∀ p, p < n + 1 → s p ≠ none → ¬ Touch lo hi p) := Lib.hid (fun p h1 h2 => by
          rcases Nat.lt_or_ge p n with h | h
          · exact HN.out p h h2
          · obtain rfl : p = n := by omega
            exact absurd hs h2)
        clear hs
        go_wp2_with fail
        go_roundg (512 - (n + 1))
        case measure => omega
        case rel => exact ⟨n + 1, by omega, by omega, by go_num, HC, HN2⟩
      | some x =>
        obtain ⟨d0, d1, d2, d3, d4⟩ := HC.out.s.some (by omega) hs
        by_cases ht : Touch lo hi n
        · have hf : r = true := HR.out.yes ⟨n, hlt, by rw [hs]; simp, ht⟩
          subst hf
          have CT1 := Lib.hid (CT.out n hlt true ⟨fun _ => ht, fun _ => rfl⟩)
          clear hs ht CT
          go_wp2_with fail
          refine (CT1.out _).mono ?_
          rintro e w1 ⟨rfl, hb⟩
          have HC := Lib.hid (HC.out.still hb)
          clear hb CT1
          go_wp2_with fail
          go_ret
          exact ⟨rfl, HC.out.bel⟩
        · have CT1 := Lib.hid (CT.out n hlt false ⟨fun h => (by cases h), fun h => absurd h ht⟩)
          have HN2 : Hid (∀ p, p < n + 1 → s p ≠ none → ¬ Touch lo hi p) := Lib.hid (fun p h1 h2 => by
            rcases Nat.lt_or_ge p n with h | h
            · exact HN.out p h h2
            · obtain rfl : p = n := by omega
              exact ht)
          clear hs ht CT
          go_wp2_with fail
          refine (CT1.out _).mono ?_
          rintro e w1 ⟨rfl, hb⟩
          have HC := Lib.hid (HC.out.still hb)
          clear hb CT1
          go_wp2_with fail
          go_roundg (512 - (n + 1))
          case measure => omega
          case rel => exact ⟨n + 1, by omega, by omega, by go_num, HC, HN2⟩
    · obtain rfl : n = 512 := by omega
      have hf : r = false := HR.out.no (fun ⟨p, h1, h2, h3⟩ => HN.out p h1 h2 h3)
      subst hf
      go_wp2_with fail
      go_ret
      exact ⟨rfl, HC.out.bel⟩

/-! Pages with others. -/
def withS (s : Sp) (a : Ar) : Sp := fun p => if Cov a p then some (a.at p) else s p
def withTo (s : Sp) (a : Ar) (n : Nat) : Sp := fun p => if Cov a p ∧ p < n then some (a.at p) else s p
theorem withTo_put (s : Sp) (a : Ar) (n : Nat) (hc : Cov a n) : (withTo s a n).put n (some (a.at n)) = withTo s a (n + 1) := by
  funext p
  unfold Sp.put withTo
  by_cases hp : p = n
  · subst hp; rw [if_pos rfl, if_pos ⟨hc, by omega⟩]
  · rw [if_neg hp]
    by_cases h1 : Cov a p ∧ p < n
    · rw [if_pos h1, if_pos ⟨h1.1, by omega⟩]
    · rw [if_neg h1, if_neg (fun h => h1 ⟨h.1, by omega⟩)]
/-- What With has: the pages, the attributes, its answer's block. -/
structure WiAt (w wr : World) (s : Sp) (x : At) : Prop where
  s : SpIn wr w.heap.size s
  a : Whole wr (w.heap.size + 1) 32 #[.int .i64 x.p, .bool x.sh, .int .i64 x.bk, .int .i64 x.off]
  z : SpIn wr (w.heap.size + 2) (fun _ => none)
  bel : Below w.heap.size w wr
theorem WiAt.new (w : World) (s : Sp) (x : At) : WiAt w (((w.alloc (.cells (spc s) 97)).alloc (.cells #[.int .i64 x.p, .bool x.sh, .int .i64 x.bk, .int .i64 x.off] 32)).alloc (.cells Tryz.zeroCells97 97)) s x := by
  rw [zero_spc]
  refine ⟨((Whole.new w _ _).alloc _).alloc _, ?_, ?_, (below_new2 _ _ _).alloc (by simp; omega) _⟩
  · have := Whole.new (w.alloc (.cells (spc s) 97)) 32 #[.int .i64 x.p, .bool x.sh, .int .i64 x.bk, .int .i64 x.off]
    rw [World.size_alloc] at this
    exact this.alloc _
  · have := Whole.new ((w.alloc (.cells (spc s) 97)).alloc (.cells #[.int .i64 x.p, .bool x.sh, .int .i64 x.bk, .int .i64 x.off] 32)) 97 (spc (fun _ => none))
    rwa [World.size_alloc, World.size_alloc] at this
theorem WiAt.put {w wr : World} {s : Sp} {y : At} (h : WiAt w wr s y) {p : Nat} (hp : p < 512) (x : At) :
    WiAt w (((((wr.setCell ⟨w.heap.size, p * 5, none⟩ (.bool true)).setCell ⟨w.heap.size, p * 5 + 1, none⟩ (.int .i64 x.p)).setCell ⟨w.heap.size, p * 5 + 2, none⟩ (.bool x.sh)).setCell ⟨w.heap.size, p * 5 + 3, none⟩ (.int .i64 x.bk)).setCell ⟨w.heap.size, p * 5 + 4, none⟩ (.int .i64 x.off)) (s.put p (some x)) y := by
  refine ⟨h.s.put hp x, ?_, ?_, ?_⟩
  · exact Whole.far (Whole.far (Whole.far (Whole.far (Whole.far h.a (by simp) _) (by simp) _) (by simp) _) (by simp) _) (by simp) _
  · exact Whole.far (Whole.far (Whole.far (Whole.far (Whole.far h.z (by simp) _) (by simp) _) (by simp) _) (by simp) _) (by simp) _
  · exact ((((h.bel.setCell (by simp) _).setCell (by simp) _).setCell (by simp) _).setCell (by simp) _).setCell (by simp) _
theorem WiAt.off {w wr : World} {s : Sp} {y : At} (h : WiAt w wr s y) (o : Int) : WiAt w (wr.setCell ⟨w.heap.size + 1, 3, none⟩ (.int .i64 o)) s { y with off := o } := by
  refine ⟨Whole.far h.s (by simp) _, ?_, Whole.far h.z (by simp) _, h.bel.setCell (by simp) _⟩
  exact h.a.put 3 _

set_option maxRecDepth 100000 in
set_option maxHeartbeats 4000000 in
theorem with_any (s : Sp) (a : Ar) (hf : Formed a) (w : World) :
    Calls Tryz.prog 62 #[.agg (spc s), .int .i64 a.s, .int .i64 a.e, .agg #[.int .i64 a.p, .bool a.sh, .int .i64 a.bk, .int .i64 a.off]] w fun e w' => e = .returned (.agg (spc (withS s a))) ∧ Below w.heap.size w w' := by
  have hn := formed_num hf
  obtain ⟨m0, hm0⟩ : ∃ m0 : Nat, a.s = 4096 * (m0 : Int) := ⟨(a.s / 4096).toNat, by omega⟩
  obtain ⟨m1, hm1⟩ : ∃ m1 : Nat, a.e = 4096 * (m1 : Int) := ⟨(a.e / 4096).toNat, by omega⟩
  have O0 := Lib.hid (WiAt.new w s ⟨a.p, a.sh, a.bk, a.off⟩)
  have hmm : 16 ≤ m0 ∧ m0 < m1 ∧ m1 ≤ 512 := by omega
  have q0 : a.s.tdiv 4096 = (m0 : Int) := by rw [tdiv_up (by omega)]; omega
  have q1 : a.e.tdiv 4096 = (m1 : Int) := by rw [tdiv_up (by omega)]; omega
  have HC : Hid (∀ n : Nat, m0 ≤ n → n < m1 → Cov a n) := Lib.hid (fun n h1 h2 => by unfold Cov; omega)
  have HS0 : Hid (withTo s a m0 = s) := Lib.hid (by funext p; unfold withTo Cov; rw [if_neg (by omega)])
  have HS1 : Hid (withTo s a m1 = withS s a) := Lib.hid (by
    funext p
    unfold withTo withS
    by_cases h : Cov a p
    · rw [if_pos ⟨h, by unfold Cov at h; omega⟩, if_pos h]
    · rw [if_neg (fun k => h k.1), if_neg h])
  have HA0 : Hid (a.at (m0 : Int) = ⟨a.p, a.sh, a.bk, a.off⟩) := Lib.hid (by
    unfold Ar.at
    by_cases hb : 0 < a.bk
    · rw [if_pos hb]; congr 1; omega
    · rw [if_neg hb]; congr 1; omega)
  have HAT : Hid (∀ n : Nat, m0 ≤ n → n ≤ m1 → ((a.at (n : Int)).bk = a.bk ∧ (0 < a.bk → 0 ≤ (a.at (n : Int)).off ∧ (a.at (n : Int)).off ≤ 1099511627776 ∧ a.at ((n + 1 : Nat) : Int) = { a.at (n : Int) with off := (a.at (n : Int)).off + 4096 }) ∧ (¬ 0 < a.bk → a.at ((n + 1 : Nat) : Int) = a.at (n : Int)))) := Lib.hid (fun n h1 h2 => by
    unfold Ar.at
    refine ⟨rfl, fun hb => ?_, fun hb => ?_⟩
    · simp only [if_pos hb]
      refine ⟨by omega, by omega, ?_⟩
      congr 1; push_cast; omega
    · simp only [if_neg hb])
  have d0 : a.s / 4096 = (m0 : Int) := by omega
  have d1 : a.e / 4096 = (m1 : Int) := by omega
  have zs : (0 : Int) ≤ a.s := by omega
  have ze : (0 : Int) ≤ a.e := by omega
  obtain ⟨sa, ea, pa, sha, bka, offa⟩ := a
  simp only at *
  have HP := Lib.hid (fun n h => withTo_put s ⟨sa, ea, pa, sha, bka, offa⟩ n h)
  clear hf hn
  generalize hA : (⟨sa, ea, pa, sha, bka, offa⟩ : Ar) = a at *
  clear hA
  go_enter Tryz.func62, Tryz.ntmps62
  go_wp2_with fail
  generalize ((w.alloc _).alloc _).alloc _ = W0 at *
  go_loopg [9] (m1 - m0) (fun g s9 wr => ∃ n : Nat, m0 ≤ n ∧ n ≤ m1 ∧ m1 - n ≤ g ∧ s9 = .int .i64 n ∧ Hid (WiAt w wr (withTo s a n) (a.at (n : Int))))
  case atStart => exact ⟨m0, by omega, by omega, by omega, by rfl, by rw [HS0.out, HA0.out]; exact O0⟩
  case round =>
    obtain ⟨n, hn0, hn1, hgn, rfl, HW⟩ := hrel
    by_cases hlt : n < m1
    · have hz1 : (n : Int) < 512 := by omega
      have hz0 : (0 : Int) ≤ (n : Int) := by omega
      have hz2 : (n : Int) < (m1 : Int) := by omega
      have HP1 := Lib.hid (HP.out n (HC.out n hn0 hlt))
      obtain ⟨hbk, hup, hsame⟩ := HAT.out n hn0 hn1
      generalize hx : a.at (n : Int) = x at *
      obtain ⟨x0, x1, x2, x3⟩ := x
      simp only at hbk
      subst hbk
      obtain ⟨⟨e0, e1, e2, e3, e4, i0, i1, i2, i3, i4⟩, fz⟩ := sp_is HW.out.s (p := n) (by omega)
      obtain ⟨c0, c1, c2, c3⟩ := row4 HW.out.a
      simp only at c0 c1 c2 c3
      have HW2 := Lib.hid (HW.out.put (p := n) (by omega) ⟨x0, x1, x2, x3⟩)
      rw [HP1.out] at HW2
      obtain ⟨k0, k1, k2, k3⟩ := row4 HW2.out.a
      have kf := HW2.out.a.frozen 3
      simp only at k0 k1 k2 k3
      by_cases hb : 0 < x2
      · obtain ⟨u0, u1, u2⟩ := hup hb
        simp only at u0 u1 u2
        have HW3 := Lib.hid (HW2.out.off (x3 + 4096))
        simp only at HW3
        rw [← u2] at HW3
        clear HW HAT HP1 hsame hup hx u2
        go_wp2_with fail
        go_roundg (m1 - (n + 1))
        case measure => omega
        case rel => exact ⟨n + 1, by omega, by omega, by omega, by go_num, HW3⟩
      · have U2 := Lib.hid (hsame (by omega))
        clear HW HAT HP1 hsame hup hx
        go_wp2_with fail
        go_roundg (m1 - (n + 1))
        case measure => omega
        case rel => exact ⟨n + 1, by omega, by omega, by omega, by go_num, by rw [U2.out]; exact HW2⟩
    · obtain rfl : n = m1 := by omega
      rw [HS1.out] at HW
      go_wp2_with (first | (refine wpList_load_mid rfl 97 (.tmp 4) (by rfl) w.heap.size 0 (by rfl) (spl (withS s a) 512) _ HW.out.s.range Tryz.underlying97 rfl (space_size _) ?_) | (refine wpList_store_mid rfl 97 (.tmp 8) (.tmp 29) (by rfl) (w.heap.size + 2) 0 (spl (withS s a) 512).toArray (by rfl) (by rfl) HW.out.z.there (space_size' _) (spl_one _ _) ?_))
      refine bodyPost_ret (results_cell_row rfl _ _ (w.heap.size + 2) 97 (spc (withS s a)) (0, 0) _ rfl HW.out.z.all Tryz.underlying97 rfl (space_size' _)) rfl ?_
      exact ⟨rfl, HW.out.bel.trans ((only_many _ _ _).below (B := w.heap.size) (fun k hk => by omega) HW.out.bel.size)⟩
end Go.Proofs.YtholpgcghpikgaaGreat

/-
  Layer 10: the reference: pages without a range: a contract.
-/
namespace Go.Proofs.YtholpgcghpikgaaGreat
open Go.ChangeShapes Go.WideShapes Go.ChangeAt Go.RowKit Go.Shelf
set_option linter.unusedVariables false
attribute [local go_sem ↓] Go.wp_at_zero Go.wp_at_succ

def cutS (s : Sp) (lo hi : Int) : Sp := fun p => if Touch lo hi p then none else s p
def cutTo (s : Sp) (m n : Nat) : Sp := fun p => if m ≤ p ∧ p < n then none else s p
theorem cutTo_put (s : Sp) (m n : Nat) (h : m ≤ n) : (cutTo s m n).put n none = cutTo s m (n + 1) := by
  funext p
  unfold Sp.put cutTo
  by_cases hp : p = n
  · subst hp; rw [if_pos rfl, if_pos ⟨h, by omega⟩]
  · rw [if_neg hp]
    by_cases h1 : m ≤ p ∧ p < n
    · rw [if_pos h1, if_pos ⟨h1.1, by omega⟩]
    · rw [if_neg h1, if_neg (fun h => h1 ⟨h.1, by omega⟩)]
theorem SpIn.del {w : World} {q : Nat} {s : Sp} (h : SpIn w q s) {p : Nat} (hp : p < 512) :
    SpIn (((((w.setCell ⟨q, p * 5, none⟩ (.bool false)).setCell ⟨q, p * 5 + 1, none⟩ (.int .i64 0)).setCell ⟨q, p * 5 + 2, none⟩ (.bool false)).setCell ⟨q, p * 5 + 3, none⟩ (.int .i64 0)).setCell ⟨q, p * 5 + 4, none⟩ (.int .i64 0)) q (s.put p none) := by
  have := ((((Whole.put h (p * 5) (.bool false)).put (p * 5 + 1) (.int .i64 0)).put (p * 5 + 2) (.bool false)).put (p * 5 + 3) (.int .i64 0)).put (p * 5 + 4) (.int .i64 0)
  unfold SpIn
  have e : spc (s.put p none) = (((((spc s).setIfInBounds (p * 5) (.bool false)).setIfInBounds (p * 5 + 1) (.int .i64 0)).setIfInBounds (p * 5 + 2) (.bool false)).setIfInBounds (p * 5 + 3) (.int .i64 0)).setIfInBounds (p * 5 + 4) (.int .i64 0) := by
    unfold spc
    simp only [List.setIfInBounds_toArray]
    rw [list5 _ _ _ _ _ _ _ (by rw [spl_len]; omega), spl_put _ _ _ _ hp]
    rfl
  rw [e]; exact this
/-- What Without has: the pages, and its answer's block. -/
structure WoAt (w wr : World) (s : Sp) : Prop where
  s : SpIn wr w.heap.size s
  z : SpIn wr (w.heap.size + 1) (fun _ => none)
  bel : Below w.heap.size w wr
theorem WoAt.new (w : World) (s : Sp) : WoAt w ((w.alloc (.cells (spc s) 97)).alloc (.cells Tryz.zeroCells97 97)) s := by
  rw [zero_spc]
  refine ⟨(Whole.new w _ _).alloc _, ?_, below_new2 _ _ _⟩
  have := Whole.new (w.alloc (.cells (spc s) 97)) 97 (spc (fun _ => none))
  rwa [World.size_alloc] at this
theorem WoAt.del {w wr : World} {s : Sp} (h : WoAt w wr s) {p : Nat} (hp : p < 512) :
    WoAt w (((((wr.setCell ⟨w.heap.size, p * 5, none⟩ (.bool false)).setCell ⟨w.heap.size, p * 5 + 1, none⟩ (.int .i64 0)).setCell ⟨w.heap.size, p * 5 + 2, none⟩ (.bool false)).setCell ⟨w.heap.size, p * 5 + 3, none⟩ (.int .i64 0)).setCell ⟨w.heap.size, p * 5 + 4, none⟩ (.int .i64 0)) (s.put p none) := by
  refine ⟨h.s.del hp, ?_, ?_⟩
  · exact Whole.far (Whole.far (Whole.far (Whole.far (Whole.far h.z (by simp) _) (by simp) _) (by simp) _) (by simp) _) (by simp) _
  · exact ((((h.bel.setCell (by simp) _).setCell (by simp) _).setCell (by simp) _).setCell (by simp) _).setCell (by simp) _

set_option maxRecDepth 100000 in
set_option maxHeartbeats 4000000 in
theorem without_any (s : Sp) (m0 m1 : Nat) (hm : m0 ≤ m1) (h5 : m1 ≤ 512) (w : World) :
    Calls Tryz.prog 65 #[.agg (spc s), .int .i64 (4096 * (m0 : Int)), .int .i64 (4096 * (m1 : Int))] w fun e w' => e = .returned (.agg (spc (cutTo s m0 m1))) ∧ Below w.heap.size w w' := by
  have O0 := Lib.hid (WoAt.new w s)
  have q0 : (4096 * (m0 : Int)).tdiv 4096 = (m0 : Int) := by rw [tdiv_up (by omega)]; omega
  have q1 : (4096 * (m1 : Int)).tdiv 4096 = (m1 : Int) := by rw [tdiv_up (by omega)]; omega
  have d0 : (4096 * (m0 : Int)) / 4096 = (m0 : Int) := by omega
  have d1 : (4096 * (m1 : Int)) / 4096 = (m1 : Int) := by omega
  have HS0 : Hid (cutTo s m0 m0 = s) := Lib.hid (by funext p; unfold cutTo; rw [if_neg (by omega)])
  have HP := Lib.hid (fun n h => cutTo_put s m0 n h)
  generalize hlo : 4096 * (m0 : Int) = lo at *
  generalize hhi : 4096 * (m1 : Int) = hi at *
  have zs : (0 : Int) ≤ lo := by omega
  have ze : (0 : Int) ≤ hi := by omega
  clear hlo hhi
  go_enter Tryz.func65, Tryz.ntmps65
  go_wp2_with fail
  generalize (w.alloc _).alloc _ = W0 at *
  go_loopg [7] (m1 - m0) (fun g s7 wr => ∃ n : Nat, m0 ≤ n ∧ n ≤ m1 ∧ m1 - n ≤ g ∧ s7 = .int .i64 n ∧ Hid (WoAt w wr (cutTo s m0 n)))
  case atStart => exact ⟨m0, by omega, by omega, by omega, by rfl, by rw [HS0.out]; exact O0⟩
  case round =>
    obtain ⟨n, hn0, hn1, hgn, rfl, HW⟩ := hrel
    by_cases hlt : n < m1
    · have hz1 : (n : Int) < 512 := by omega
      have hz0 : (0 : Int) ≤ (n : Int) := by omega
      have hz2 : (n : Int) < (m1 : Int) := by omega
      obtain ⟨⟨e0, e1, e2, e3, e4, i0, i1, i2, i3, i4⟩, fz⟩ := sp_is HW.out.s (p := n) (by omega)
      have HW2 := Lib.hid (HW.out.del (p := n) (by omega))
      rw [HP.out n hn0] at HW2
      clear HW
      go_wp2_with fail
      go_roundg (m1 - (n + 1))
      case measure => omega
      case rel => exact ⟨n + 1, by omega, by omega, by omega, by go_num, HW2⟩
    · obtain rfl : n = m1 := by omega
      go_wp2_with (first | (refine wpList_load_mid rfl 97 (.tmp 3) (by rfl) w.heap.size 0 (by rfl) (spl (cutTo s m0 n) 512) _ HW.out.s.range Tryz.underlying97 rfl (space_size _) ?_) | (refine wpList_store_mid rfl 97 (.tmp 6) (.tmp 19) (by rfl) (w.heap.size + 1) 0 (spl (cutTo s m0 n) 512).toArray (by rfl) (by rfl) HW.out.z.there (space_size' _) (spl_one _ _) ?_))
      refine bodyPost_ret (results_cell_row rfl _ _ (w.heap.size + 1) 97 (spc (cutTo s m0 n)) (0, 0) _ rfl HW.out.z.all Tryz.underlying97 rfl (space_size' _)) rfl ?_
      exact ⟨rfl, HW.out.bel.trans ((only_many _ _ _).below (B := w.heap.size) (fun k hk => by omega) HW.out.bel.size)⟩
theorem cut_is {s : Sp} {m0 m1 : Nat} (hm : m0 ≤ m1) (p : Nat) : cutTo s m0 m1 p = cutS s (4096 * (m0 : Int)) (4096 * (m1 : Int)) p := by
  unfold cutTo cutS
  by_cases h : m0 ≤ p ∧ p < m1
  · rw [if_pos h, if_pos (show Touch _ _ _ from by unfold Touch; omega)]
  · rw [if_neg h, if_neg (fun k : Touch _ _ _ => h (by unfold Touch at k; omega))]
end Go.Proofs.YtholpgcghpikgaaGreat
