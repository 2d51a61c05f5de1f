/-
  Texts of our own, one behind the other (RmRef): what the laws' proofs rest on; each says at its head what it holds. No conditions.
-/
import Derived.Test.YtholpgcghpikgaaGreatPkRa
import Derived.Test.YtholpgcghpikgaaGreatPkRb
import Derived.Test.YtholpgcghpikgaaGreatPkRc
import Derived.Test.YtholpgcghpikgaaGreatPkRd
import Derived.Test.YtholpgcghpikgaaGreatPkRe
/-
  Layer 12: the reference's Remap: a contract.
-/
namespace Go.Proofs.YtholpgcghpikgaaGreat
open Go.ChangeShapes Go.WideShapes Go.ChangeAt Go.RowKit Go.Shelf
set_option linter.unusedVariables false

/-! What it comes to. -/
theorem rmR_bad {X : List Ar} {c : Cl} (h : rmE X c ≠ 0) : rmR X c = (X, rmE X c, 0) := by
  have hw : rmW X c = ([], 0, rmE X c) := by unfold rmW; rw [if_neg h]
  unfold rmR
  rw [hw, if_neg h]
theorem rmR_err {X : List Ar} {c : Cl} (h : rmE X c = 0) {e : Int} (he : e ≠ 0) (hw : (rmK X c).way = ([], 0, e)) : rmR X c = (X, e, 0) := by
  have hw : rmW X c = ([], 0, e) := by unfold rmW; rw [if_pos h, hw]
  unfold rmR
  rw [hw, if_neg he]
theorem rmR_ok {X : List Ar} {c : Cl} (h : rmE X c = 0) {Y : List Ar} {x : Int} (hw : (rmK X c).way = (Y, x, 0)) : (24 < Y.length ∧ (rmR X c).1 = X ∧ (rmR X c).2.1 = 9 ∧ (rmR X c).2.2 = 0) ∨ (Y.length ≤ 24 ∧ (rmR X c).1 = Y ∧ (rmR X c).2.1 = 0 ∧ (rmR X c).2.2 = x) := by
  have hw : rmW X c = (Y, x, 0) := by unfold rmW; rw [if_pos h, hw]
  unfold rmR
  rw [hw, if_pos rfl]
  by_cases hm : Y.length ≤ 24
  · rw [if_pos hm]; exact .inr ⟨hm, rfl, rfl, rfl⟩
  · rw [if_neg hm]; exact .inl ⟨by omega, rfl, rfl, rfl⟩
theorem bq {f : Int} (h0 : 0 ≤ f) (h1 : f ≤ 63) : (f % 2 == 1) = bitF f 1 ∧ (f / 16 % 2 == 1) = bitF f 16 ∧ (f / 32 % 2 == 1) = bitF f 32 := by
  obtain ⟨e1, e2, e3, _⟩ := bits_6 h0 h1
  rw [e1, e2, e3]
  exact ⟨rfl, rfl, rfl⟩
theorem rg_sz {a n : Int} (h : szE n = 0) : rgE a (szV n) = rgE a n ∧ rgA a (szV n) = rgA a n ∧ rgB a (szV n) = rgB a n := by
  have hs := sz_sz h
  have e : rgE a (szV n) = rgE a n := by unfold rgE; rw [hs.1, hs.2, h]
  refine ⟨e, ?_, ?_⟩
  · unfold rgA; rw [e]
  · unfold rgB; rw [e, hs.1]
theorem wh_no {X : List Ar} {lo hi : Int} (h : (fnA X lo).e < hi) : whB X lo hi = false := by
  unfold fnA at h
  unfold whB
  cases ho : fnO X lo with
  | none => rfl
  | some a =>
    rw [ho] at h
    exact decide_eq_false (by show ¬ hi ≤ a.e; have h : a.e < hi := h; omega)
theorem long_back {o : Ar} (ho : Formed o) {z : Int} (hz : z ≤ 2031616) (hb : 1099511627776 < o.off + z) : o.bk ≠ 0 := fun e => by
  have := formed_num ho
  omega
/-- One way of four is gone, by the flags and the sizes. -/
theorem way_is2 (a : Ask) : (bitF a.f 1 = true ∧ a.way = a.fx) ∨ (bitF a.f 1 = false ∧ bitF a.f 32 = true ∧ a.way = a.el) ∨ (bitF a.f 1 = false ∧ bitF a.f 32 = false ∧ a.more ≤ 0 ∧ a.way = a.sh) ∨ (bitF a.f 1 = false ∧ bitF a.f 32 = false ∧ ¬ a.more ≤ 0 ∧ a.way = a.gr) := by
  unfold Ask.way
  cases h1 : bitF a.f 1 with
  | true => exact .inl ⟨rfl, if_pos rfl⟩
  | false =>
    rw [if_neg (by simp)]
    cases h2 : bitF a.f 32 with
    | true => exact .inr (.inl ⟨rfl, rfl, if_pos rfl⟩)
    | false =>
      rw [if_neg (by simp)]
      by_cases h3 : a.more ≤ 0
      · exact .inr (.inr (.inl ⟨rfl, rfl, h3, if_pos h3⟩))
      · exact .inr (.inr (.inr ⟨rfl, rfl, h3, if_neg h3⟩))
section
variable {X : List Ar} {c : Cl} {a : Ar}
theorem Rmk.fno (h : Rmk X c a) : fnO X (rgA c.a c.n) = some a := by
  have hn := h.num
  exact fn_is h.may.1 h.mem h.lo (by omega)
theorem Rmk.wh (h : Rmk X c a) : whB X (rgA c.a c.n) (rgB c.a c.n) = true := by
  unfold whB
  rw [h.fno]
  exact decide_eq_true h.hi
theorem Rmk.page (h : Rmk X c a) {m0 : Nat} (hm : rgA c.a c.n = 4096 * (m0 : Int)) : spK X X.length m0 = some ⟨(rmK X c).o.p, (rmK X c).o.sh, (rmK X c).o.bk, (rmK X c).o.off⟩ := by
  have hn := h.num
  have ho := h.os
  have hc := cov_first h.ok.o
  have ht := h.tab _ hc
  rw [at_first h.ok.o] at ht
  unfold spK
  rw [List.take_length]
  rw [ho.1, show c.a / 4096 = (m0 : Int) by omega] at ht
  exact ht
theorem pl_best {z : Int} (X : List Ar) : (∃ at1, Best X 65536 2097152 z true at1 ∧ 65536 ≤ at1 ∧ plR X 0 z 0 = (at1, 0)) ∨ (Best X 65536 2097152 z true (-1) ∧ plR X 0 z 0 = (0, 5)) := by
  have e : plR X 0 z 0 = (if (highOf z (roomsL 65536 2097152 z X)).2 then (highOf z (roomsL 65536 2097152 z X)).1 else 0, if (highOf z (roomsL 65536 2097152 z X)).2 then 0 else 5) := by
    unfold plR
    rw [bit_zero 1, if_neg (by simp), if_neg (fun h => by have := fits_in h; omega), bit_zero 8, if_neg (by simp)]
  rw [e]
  rcases high_is X 65536 2097152 z with ⟨h1, h2⟩ | ⟨b, h1, h2, h3⟩
  · rw [h1]; exact .inr ⟨.inl ⟨rfl, h2⟩, rfl⟩
  · rw [h1]; exact .inl ⟨b, high_best h2 h3, (may_num h2).1, rfl⟩
/-- The pages of what is moved. -/
theorem moved_pages (h : Rmk X c a) {m0 m1 : Nat} (hm0 : rgA c.a c.n = 4096 * (m0 : Int)) (hm1 : rgB c.a c.n = 4096 * (m1 : Int)) (hoE : (rmK X c).ofE = 0) {x : Int} (hx : 65536 ≤ x ∧ x % 4096 = 0 ∧ x + (rmK X c).z ≤ 2097152) {st : Bool} (hst : bitF c.f 32 = st) :
    GoodS (withS (if st = true then spK X X.length else cutTo (spK X X.length) m0 m1) ((rmK X c).b x)) ∧ listTo (withS (if st = true then spK X X.length else cutTo (spK X X.length) m0 m1) ((rmK X c).b x)) 512 = (rmK X c).mv x := by
  have hn := h.num
  have ho := h.os
  have hok := h.ok
  have hb := hok.formed hoE hx.1 hx.2.1 hx.2.2
  have hg0 : GoodS (if st = true then spK X X.length else cutTo (spK X X.length) m0 m1) := by
    split
    · exact spK_good h.may.1
    · exact cutTo_good (spK_good h.may.1) _ _
  refine ⟨with_good hg0 hb, list_is (with_good hg0 hb) (hok.mv hoE hx) fun p _ _ => ?_⟩
  rw [hok.mv_tab hoE hx]
  unfold withS
  by_cases hc : Cov ((rmK X c).b x) p
  · rw [if_pos hc, if_pos hc]
  · rw [if_neg hc, if_neg hc]
    have hff : (rmK X c).f = c.f := rfl
    have hll : (rmK X c).l = X := rfl
    rw [hff, hll, hst, ho.1, ho.2.1]
    cases st with
    | true =>
      rw [if_pos rfl, if_neg (by simp)]
      unfold spK; rw [List.take_length]
    | false =>
      rw [if_neg (by simp)]
      unfold cutTo spK
      rw [List.take_length]
      by_cases ht : m0 ≤ p ∧ p < m1
      · rw [if_pos ht, if_pos ⟨rfl, by unfold Touch; omega⟩]
      · rw [if_neg ht, if_neg (fun k => ht (by have := k.2; unfold Touch at this; omega))]
theorem moved_K (h : Rmk X c a) {m0 m1 : Nat} (hm0 : rgA c.a c.n = 4096 * (m0 : Int)) (hm1 : rgB c.a c.n = 4096 * (m1 : Int)) (hoE : (rmK X c).ofE = 0) {x : Int} (hx : 65536 ≤ x ∧ x % 4096 = 0 ∧ x + (rmK X c).z ≤ 2097152) {st : Bool} (hst : bitF c.f 32 = st) {Z : List Ar} {ae ax : Int} (hZ : (24 < ((rmK X c).mv x).length ∧ Z = X ∧ ae = 9 ∧ ax = 0) ∨ (((rmK X c).mv x).length ≤ 24 ∧ Z = (rmK X c).mv x ∧ ae = 0 ∧ ax = x)) :
    ∀ w' u, Holds w' u X → Calls Tryz.prog 67 #[u, .int .i64 (rgA c.a c.n), .int .i64 (rgB c.a c.n), .int .i64 x, .int .i64 (szV c.nw), .bool st] w' (GivesK w' u X Z ae ax) := by
  intro w' u hu
  have hn := h.num
  have hb := h.ok.formed hoE hx.1 hx.2.1 hx.2.2
  have hs := h.page hm0
  obtain ⟨g1, g2⟩ := moved_pages h hm0 hm1 hoE hx hst
  rw [hm0, hm1]
  cases st with
  | true => exact rmoved_true hu h.may.1 (by omega) (by omega) (by omega) (b := (rmK X c).b x) hb hs (z := szV c.nw) rfl g1 g2 hZ
  | false => exact rmoved_false hu h.may.1 (by omega) (by omega) (by omega) (b := (rmK X c).b x) hb hs (z := szV c.nw) rfl g1 g2 hZ
end

section
variable {w : World} {v : Value} {X : List Ar}
set_option maxHeartbeats 4000000 in
theorem refRemap_go (h : Holds w v X) (hX : MayL X) {c : Cl} (hf0 : 0 ≤ c.f) (hf1 : c.f ≤ 63) (hf2 : c.f / 2 % 8 = 0) {a : Ar} (hk : Rmk X c a) : Calls Tryz.prog 31 #[v, c.v] w (GivesH w (rmR X c).1 (rmR X c).2.1 (rmR X c).2.2) := by
  have hE := rm_zero.2 ⟨a, hk⟩
  have hn := hk.num
  have ho := hk.os
  have hok := hk.ok
  have hnf := formed_num hok.o
  have hz := hk.sz
  have hzp := sz_pages hz
  have hr := hk.rg
  have hwh := hk.wh
  obtain ⟨q1, q2, q3⟩ := bq hf0 hf1
  have hmv := (mv_zero hf0 hf1).1 hk.mv
  have hK : (rmK X c).z = szV c.nw ∧ (rmK X c).t = c.tw ∧ (rmK X c).f = c.f ∧ (rmK X c).l = X := ⟨rfl, rfl, rfl, rfl⟩
  obtain ⟨m0, hm0⟩ : ∃ m0 : Nat, rgA c.a c.n = 4096 * (m0 : Int) := ⟨(rgA c.a c.n / 4096).toNat, by omega⟩
  obtain ⟨m1, hm1⟩ : ∃ m1 : Nat, rgB c.a c.n = 4096 * (m1 : Int) := ⟨(rgB c.a c.n / 4096).toNat, by omega⟩
  have hs := hk.page hm0
  have hoff : 0 ≤ (⟨(rmK X c).o.p, (rmK X c).o.sh, (rmK X c).o.bk, (rmK X c).o.off⟩ : At).off ∧ (⟨(rmK X c).o.p, (rmK X c).o.sh, (rmK X c).o.bk, (rmK X c).o.off⟩ : At).off ≤ 1099511627776 := by simp only; omega
  have hof := hok.of
  rw [hK.1] at hof
  have hsame : bitF c.f 32 = true → (szV c.nw != rgB c.a c.n - rgA c.a c.n) = false := fun k => by
    have := hk.sm k
    simp only [bne_eq_false_iff_eq]; omega
  have h16 : bitF c.f 1 = true ∨ bitF c.f 32 = true → bitF c.f 16 = true := fun k => by
    rw [← q1, ← q3, beq_iff_eq, beq_iff_eq] at k
    rw [← q2, beq_iff_eq]
    exact hmv k
  have hbest := pl_best (z := szV c.nw) X
  have hlong : (rmK X c).ofE ≠ 0 → (rmK X c).ofE = 4 ∧ (rmK X c).o.bk ≠ 0 ∧ 1099511627776 < (rmK X c).o.off + szV c.nw := fun k => by
    rw [hof] at k ⊢
    by_cases hb : 1099511627776 < (rmK X c).o.off + szV c.nw
    · rw [if_pos hb]
      exact ⟨rfl, long_back hok.o hzp.2.2.2.2 hb, hb⟩
    · rw [if_neg hb] at k; exact absurd rfl k
  have hshort : (rmK X c).ofE = 0 → ¬ 1099511627776 < (rmK X c).o.off + szV c.nw := fun k hb => by
    rw [hof, if_pos hb] at k; cases k
  rcases way_is2 (rmK X c) with ⟨b1, hway⟩ | ⟨b1, b3, hway⟩ | ⟨b1, b3, hmo, hway⟩ | ⟨b1, b3, hmo, hway⟩
  · -- fixed
    rw [hK.2.2.1] at b1
    obtain ⟨r1, r2, r3⟩ := rg_sz (a := c.tw) hz
    have k1 : (c.f % 2 == 1) = true := by rw [q1]; exact b1
    have k2 : (c.f / 16 % 2 == 1) = true := by rw [q2]; exact h16 (.inl b1)
    have hfx : (rmK X c).fxE = firstE [rgE c.tw c.nw, tcE (rmK X c).o (rgA c.tw c.nw) (rgB c.tw c.nw), (rmK X c).ofE] := by
      unfold Ask.fxE
      rw [hK.1, hK.2.1, r1, r2, r3]
    have hfe : (rmK X c).fxE ≠ 0 → (rmK X c).way = ([], 0, (rmK X c).fxE) := fun k => by
      rw [hway]; unfold Ask.fx; rw [if_neg k]
    by_cases he : rgE c.tw c.nw = 0
    · by_cases ht : rgA c.tw c.nw < rgB c.a c.n ∧ rgA c.a c.n < rgB c.tw c.nw
      · have e1 : (rmK X c).fxE = 1 := by
          rw [hfx]
          unfold tcE
          rw [ho.1, ho.2.1, he, if_pos (by omega)]
          rfl
        rw [rmR_err hE (e := 1) (by decide) (by rw [hfe (by rw [e1]; decide), e1])]
        exact rw_fixed_touch h c hX hf0 hf1 hf2 hr hz hwh hm0 hm1 hs hoff k1 k2 q3 hsame he ht.1 ht.2
      · have hnt : ¬ rgA c.tw c.nw < rgB c.a c.n ∨ (rgA c.tw c.nw < rgB c.a c.n ∧ ¬ rgA c.a c.n < rgB c.tw c.nw) := by omega
        have e0 : tcE (rmK X c).o (rgA c.tw c.nw) (rgB c.tw c.nw) = 0 := by
          unfold tcE
          rw [ho.1, ho.2.1, if_neg (by omega)]
        by_cases hoE : (rmK X c).ofE = 0
        · have e1 : (rmK X c).fxE = 0 := by rw [hfx, he, e0, hoE]; rfl
          have hx := hok.fx_num e1
          rw [hK.1, hK.2.1, r2] at hx
          have hw : (rmK X c).way = ((rmK X c).mv (rgA c.tw c.nw), rgA c.tw c.nw, 0) := by
            rw [hway]; unfold Ask.fx; rw [if_pos e1, hK.1, hK.2.1, r2]
          exact rw_fixed_ok h c hX hf0 hf1 hf2 hr hz hwh hm0 hm1 hs hoff k1 k2 q3 hsame he hnt (hshort hoE) (moved_K hk hm0 hm1 hoE ⟨hx.1, hx.2.1, by rw [hK.1]; exact hx.2.2.1⟩ rfl (rmR_ok hE hw))
        · obtain ⟨l1, l2, l3⟩ := hlong hoE
          have e1 : (rmK X c).fxE = 4 := by rw [hfx, he, e0, l1]; rfl
          rw [rmR_err hE (e := 4) (by decide) (by rw [hfe (by rw [e1]; decide), e1])]
          exact rw_fixed_long h c hX hf0 hf1 hf2 hr hz hwh hm0 hm1 hs hoff k1 k2 q3 hsame he hnt l2 l3
    · have e1 : (rmK X c).fxE = rgE c.tw c.nw := by rw [hfx, firstE, if_neg he]
      rw [rmR_err hE he (by rw [hfe (by rw [e1]; exact he), e1])]
      exact rw_fixed_range h c hX hf0 hf1 hf2 hr hz hwh hm0 hm1 hs hoff k1 k2 q3 hsame he
  · -- elsewhere, and the old pages stay
    rw [hK.2.2.1] at b1 b3
    have k1 : (c.f % 2 == 1) = false := by rw [q1]; exact b1
    have k2 : (c.f / 16 % 2 == 1) = true := by rw [q2]; exact h16 (.inr b3)
    have k3 : (c.f / 32 % 2 == 1) = true := by rw [q3]; exact b3
    have hoE := hok.of_same (by have := hok.same (by rw [hK.2.2.1]; exact b3); omega)
    rcases hbest with ⟨at1, g1, g2, g3⟩ | ⟨g1, g3⟩
    · have hp : (plR (rmK X c).l 0 (rmK X c).z 0).2 = 0 := by rw [hK.2.2.2, hK.1, g3]
      have hx := hok.pl hp
      rw [hK.2.2.2, hK.1, g3] at hx
      have hw : (rmK X c).way = ((rmK X c).mv at1, at1, 0) := by
        rw [hway]; unfold Ask.el; rw [if_pos hp, hK.2.2.2, hK.1, g3]
      exact rw_stays_ok h c hX hf0 hf1 hf2 hr hz hwh hm0 hm1 hs hoff k1 k2 k3 (hsame b3) g1 g2 (moved_K hk hm0 hm1 hoE hx b3 (rmR_ok hE hw))
    · have hw : (rmK X c).way = ([], 0, 5) := by
        rw [hway]; unfold Ask.el; rw [hK.2.2.2, hK.1, g3]; rfl
      rw [rmR_err hE (by decide) hw]
      exact rw_stays_no h c hX hf0 hf1 hf2 hr hz hwh hm0 hm1 hs hoff k1 k2 k3 (hsame b3) g1 rfl
  · -- shrunk
    rw [hK.2.2.1] at b1 b3
    have k1 : (c.f % 2 == 1) = false := by rw [q1]; exact b1
    have k3 : (c.f / 32 % 2 == 1) = false := by rw [q3]; exact b3
    unfold Ask.more at hmo
    rw [hK.1, ho.1, ho.2.1] at hmo
    obtain ⟨m2, hm2⟩ : ∃ m2 : Nat, rgA c.a c.n + szV c.nw = 4096 * (m2 : Int) := ⟨((rgA c.a c.n + szV c.nw) / 4096).toNat, by omega⟩
    have hw : (rmK X c).way = (outsideL (4096 * (m2 : Int)) (4096 * (m1 : Int)) X, rgA c.a c.n, 0) := by
      rw [hway]; unfold Ask.sh
      rw [ho.1, ho.2.1, hK.1, hK.2.2.2, ← hm2, ← hm1, hn.1, hn.2.1]
    exact rw_shrunk h c hX hf0 hf1 hf2 hr hz hwh hm0 hm1 hs hoff k1 q2 k3 (by omega) hm2 (cutTo_good (spK_good hX.1) _ _) (cut_list hX.1 (by omega)) (rmR_ok hE hw)
  · -- grown
    rw [hK.2.2.1] at b1 b3
    have k1 : (c.f % 2 == 1) = false := by rw [q1]; exact b1
    have k3 : (c.f / 32 % 2 == 1) = false := by rw [q3]; exact b3
    have hmo2 := hmo
    unfold Ask.more at hmo2
    rw [hK.1, ho.1, ho.2.1] at hmo2
    have hle : ¬ szV c.nw ≤ rgB c.a c.n - rgA c.a c.n := by omega
    have hen : (fnA X (rgA c.a c.n)).e = a.e := by rw [hk.fn]
    obtain ⟨kk, hkk⟩ : ∃ kk : Nat, szV c.nw - rgB c.a c.n + rgA c.a c.n = 4096 * (kk : Int) := ⟨((szV c.nw - rgB c.a c.n + rgA c.a c.n) / 4096).toNat, by omega⟩
    have hmk : (rmK X c).more = 4096 * (kk : Int) := by unfold Ask.more; rw [hK.1, ho.1, ho.2.1]; omega
    have hoe : (rmK X c).o.e = 4096 * (m1 : Int) := by rw [ho.2.1]; omega
    by_cases hoE : (rmK X c).ofE = 0
    · have hlg := hshort hoE
      have hfree := free_fits hX.1 m1 kk
      by_cases hfit : FitsAt (rmK X c).l (rmK X c).o.e (rmK X c).more
      · have hf2' : FitsAt X (4096 * (m1 : Int)) (4096 * (kk : Int)) := by rw [← hmk, ← hoe]; exact hfit
        have hae : a.e = rgB c.a c.n := by
          refine Classical.byContradiction fun hne => ?_
          have hp := ((fits_pages hX.1 _ _).1 hf2').2.2.2 (m1 : Int) (by omega) (by have := hf2'.2.1; omega)
          have := hp.2.2
          rw [tab_of (right_disj hX.1) hk.mem (by unfold Cov; have := hk.hi; omega)] at this
          cases this
        have hx := hok.fits hfit
        have hb := hok.formed hoE hx.1 hx.2.1 hx.2.2
        have hw : (rmK X c).way = ((rmK X c).mv (rmK X c).o.s, rgA c.a c.n, 0) := by
          rw [hway]; unfold Ask.gr; rw [if_pos hoE, if_pos hfit, ho.1, hn.1]
        have hmv2 : listTo (withS (spK X X.length) ((rmK X c).b (rmK X c).o.s)) 512 = (rmK X c).mv (rmK X c).o.s := by
          rw [with_list hX.1 hb]
          refine right_unique (putC_right hX.1 hb) (hok.mv hoE hx) fun p => ?_
          rw [(putC_is hX.1 hb).2, hok.mv_tab hoE hx]
          by_cases hc : Cov ((rmK X c).b (rmK X c).o.s) p
          · rw [if_pos hc, if_pos hc]
          · rw [if_neg hc, if_neg hc, if_neg]
            · rfl
            · rintro ⟨_, ht⟩
              refine hc ?_
              unfold Touch at ht
              unfold Ask.b Cov
              rw [hK.1]
              simp only
              omega
        exact rw_fits h c hX hf0 hf1 hf2 hr hz hwh hm0 hm1 hs hoff k1 q2 k3 hle hlg (by rw [hen]; exact hae) hkk (hfree.2 hf2') (b := (rmK X c).b (rmK X c).o.s) hb (by show (rmK X c).o.s = _; rw [ho.1]; omega) (by show (rmK X c).o.s + (rmK X c).z = _; rw [ho.1, hK.1]; omega) rfl (with_good (spK_good hX.1) hb) hmv2 (rmR_ok hE hw)
      · have hfr : ¬ FreeN (spK X X.length) m1 kk := fun k => hfit (by rw [hmk, hoe]; exact hfree.1 k)
        have hgr : (rmK X c).way = if bitF c.f 16 = true then (rmK X c).el else ([], 0, 5) := by
          rw [hway]; unfold Ask.gr; rw [if_pos hoE, if_neg hfit]; rfl
        cases hb16 : bitF c.f 16 with
        | true =>
          have k2 : (c.f / 16 % 2 == 1) = true := by rw [q2]; exact hb16
          rw [hb16, if_pos rfl] at hgr
          rcases hbest with ⟨at1, g1, g2, g3⟩ | ⟨g1, g3⟩
          · have hp : (plR (rmK X c).l 0 (rmK X c).z 0).2 = 0 := by rw [hK.2.2.2, hK.1, g3]
            have hx := hok.pl hp
            rw [hK.2.2.2, hK.1, g3] at hx
            have hw : (rmK X c).way = ((rmK X c).mv at1, at1, 0) := by
              rw [hgr]; unfold Ask.el; rw [if_pos hp, hK.2.2.2, hK.1, g3]
            by_cases hae : a.e = rgB c.a c.n
            · exact rw_moved_f h c hX hf0 hf1 hf2 hr hz hwh hm0 hm1 hs hoff k1 k2 k3 hle hlg hkk (by rw [hen]; exact hae) hfr g1 g2 (moved_K hk hm0 hm1 hoE hx b3 (rmR_ok hE hw))
            · exact rw_moved_e h c hX hf0 hf1 hf2 hr hz hwh hm0 hm1 hs hoff k1 k2 k3 hle hlg (by rw [hen]; exact hae) g1 g2 (moved_K hk hm0 hm1 hoE hx b3 (rmR_ok hE hw))
          · have hw : (rmK X c).way = ([], 0, 5) := by
              rw [hgr]; unfold Ask.el; rw [hK.2.2.2, hK.1, g3]; rfl
            rw [rmR_err hE (by decide) hw]
            by_cases hae : a.e = rgB c.a c.n
            · exact rw_noplace_f h c hX hf0 hf1 hf2 hr hz hwh hm0 hm1 hs hoff k1 k2 k3 hle hlg hkk (by rw [hen]; exact hae) hfr g1 rfl
            · exact rw_noplace_e h c hX hf0 hf1 hf2 hr hz hwh hm0 hm1 hs hoff k1 k2 k3 hle hlg (by rw [hen]; exact hae) g1 rfl
        | false =>
          have k2 : (c.f / 16 % 2 == 1) = false := by rw [q2]; exact hb16
          rw [hb16, if_neg (by simp)] at hgr
          rw [rmR_err hE (by decide) hgr]
          obtain ⟨at1, g1⟩ : ∃ at1, Best X 65536 2097152 (szV c.nw) true at1 := by
            rcases hbest with ⟨at1, g1, _⟩ | ⟨g1, _⟩
            · exact ⟨at1, g1⟩
            · exact ⟨-1, g1⟩
          by_cases hae : a.e = rgB c.a c.n
          · exact rw_nomay_f h c hX hf0 hf1 hf2 hr hz hwh hm0 hm1 hs hoff k1 k2 k3 hle hlg hkk (by rw [hen]; exact hae) hfr g1
          · exact rw_nomay_e h c hX hf0 hf1 hf2 hr hz hwh hm0 hm1 hs hoff k1 k2 k3 hle hlg (by rw [hen]; exact hae) g1
    · obtain ⟨l1, l2, l3⟩ := hlong hoE
      have hw : (rmK X c).way = ([], 0, 4) := by
        rw [hway]; unfold Ask.gr; rw [if_neg hoE, l1]
      rw [rmR_err hE (by decide) hw]
      exact rw_long h c hX hf0 hf1 hf2 hr hz hwh hm0 hm1 hs hoff k1 q2 k3 hle l2 l3

theorem refRemap_c (h : Holds w v X) (hX : MayL X) (c : Cl) (hcf : i64 c.f) : Calls Tryz.prog 31 #[v, c.v] w (GivesH w (rmR X c).1 (rmR X c).2.1 (rmR X c).2.2) := by
  have hli : liE X = 0 := by unfold liE; rw [if_pos hX]
  by_cases hfl : flE c.f 49 = 0
  · obtain ⟨⟨hf0, hf1⟩, hf2⟩ := (fl49_zero hcf).1 hfl
    obtain ⟨q1, q2, q3⟩ := bq hf0 hf1
    by_cases hmv : mvE c.f = 0
    · have hmv2 := (mv_zero hf0 hf1).1 hmv
      have hc2 : (c.f / 16 % 2 == 1) = true ∨ ((c.f % 2 == 1) = false ∧ (c.f / 16 % 2 == 1) = false ∧ (c.f / 32 % 2 == 1) = false) := by
        by_cases k : c.f / 16 % 2 = 1
        · exact .inl (by simpa using k)
        · exact .inr ⟨by simp only [beq_eq_false_iff_ne]; omega, by simpa using k, by simp only [beq_eq_false_iff_ne]; omega⟩
      by_cases hr : rgE c.a c.n = 0
      · by_cases hz : szE c.nw = 0
        · by_cases hsm : smE c.f (rgB c.a c.n - rgA c.a c.n) (szV c.nw) = 0
          · by_cases hwe : whE (fnA X (rgA c.a c.n)) (rgB c.a c.n) = 0
            · have hE : rmE X c = 0 := by
                unfold rmE
                simp [firstE, hli, hfl, hmv, hr, hz, hsm, hwe]
              obtain ⟨a, hk⟩ := rm_zero.1 hE
              exact refRemap_go h hX hf0 hf1 hf2 hk
            · have hw7 : whE (fnA X (rgA c.a c.n)) (rgB c.a c.n) = 7 := (wh_or _ _).resolve_left hwe
              have hE : rmE X c = 7 := by
                unfold rmE
                simp [firstE, hli, hfl, hmv, hr, hz, hsm, hw7]
              rw [rmR_bad (by rw [hE]; decide), hE]
              refine rr_none h c hX hf0 hf1 hf2 ?_ hr hz (wh_no ?_)
              · rcases hc2 with k | k
                · by_cases k3 : (c.f / 32 % 2 == 1) = true
                  · refine .inr (.inl ⟨k, k3, ?_⟩)
                    simp only [bne_eq_false_iff_eq]
                    refine Classical.byContradiction fun hne => ?_
                    unfold smE at hsm
                    rw [if_pos ⟨by rw [← q3]; exact k3, fun e => hne e.symm⟩] at hsm
                    cases hsm
                  · exact .inl ⟨k, by simpa using k3⟩
                · exact .inr (.inr k)
              · unfold whE at hw7
                by_cases k : (fnA X (rgA c.a c.n)).e < rgB c.a c.n
                · exact k
                · rw [if_neg k] at hw7; cases hw7
          · have hs1 : smE c.f (rgB c.a c.n - rgA c.a c.n) (szV c.nw) = 1 := (sm_or _ _ _).resolve_left hsm
            have hE : rmE X c = 1 := by
              unfold rmE
              simp [firstE, hli, hfl, hmv, hr, hz, hs1]
            rw [rmR_bad (by rw [hE]; decide), hE]
            unfold smE at hs1
            by_cases k : bitF c.f 32 = true ∧ rgB c.a c.n - rgA c.a c.n ≠ szV c.nw
            · have k3 : (c.f / 32 % 2 == 1) = true := by rw [q3]; exact k.1
              have k2 : (c.f / 16 % 2 == 1) = true := by
                rw [beq_iff_eq] at k3 ⊢
                exact hmv2 (.inr k3)
              exact rr_same h c hf0 hf1 hf2 k2 k3 hr hz (fun e => k.2 e.symm)
            · rw [if_neg k] at hs1; cases hs1
        · have hE : rmE X c = szE c.nw := by
            unfold rmE
            simp [firstE, hli, hfl, hmv, hr, hz]
          rw [rmR_bad (by rw [hE]; exact hz), hE]
          exact rr_size h c hf0 hf1 hf2 hc2 hr hz
      · have hE : rmE X c = rgE c.a c.n := by
          unfold rmE
          simp [firstE, hli, hfl, hmv, hr]
        rw [rmR_bad (by rw [hE]; exact hr), hE]
        exact rr_range h c hf0 hf1 hf2 hc2 hr
    · have hm1 : mvE c.f = 1 := (mv_or _).resolve_left hmv
      have hE : rmE X c = 1 := by
        unfold rmE
        simp [firstE, hli, hfl, hm1]
      rw [rmR_bad (by rw [hE]; decide), hE]
      have hno := mt (mv_zero hf0 hf1).2 hmv
      have k2 : (c.f / 16 % 2 == 1) = false := by simp only [beq_eq_false_iff_ne]; omega
      by_cases k1 : c.f % 2 = 1
      · exact rr_flags3 h c hf0 hf1 hf2 (by simpa using k1) k2
      · exact rr_flags4 h c hf0 hf1 hf2 (by simpa using k1) k2 (by rw [beq_iff_eq]; omega)
  · have hf1' : flE c.f 49 = 1 := (fl_or _ _).resolve_left hfl
    have hE : rmE X c = 1 := by
      unfold rmE
      simp [firstE, hli, hf1']
    rw [rmR_bad (by rw [hE]; decide), hE]
    have hno := mt (fl49_zero hcf).2 hfl
    by_cases h0 : c.f < 0
    · exact rr_flags0 h c h0
    · by_cases h1 : 63 < c.f
      · exact rr_flags1 h c (by omega) h1
      · exact rr_flags2 h c (by omega) (by omega) (by omega)
end
end Go.Proofs.YtholpgcghpikgaaGreat
