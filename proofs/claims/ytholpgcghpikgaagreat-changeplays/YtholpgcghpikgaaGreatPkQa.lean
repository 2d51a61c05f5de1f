/-
  Texts of our own, one behind the other (RmPure, RmSmall): what the laws' proofs rest on; each says at its head what it holds. No conditions.
-/
import Derived.Test.YtholpgcghpikgaaGreatPkMp
import Derived.Test.YtholpgcghpikgaaGreatPkB
import Derived.Test.YtholpgcghpikgaaGreatPkLc
import Derived.Test.YtholpgcghpikgaaGreatPkPc
/-
  Layer 12: what was asked, and the ways: what each comes to. No program is asked.
-/
namespace Go.Proofs.YtholpgcghpikgaaGreat
set_option linter.unusedVariables false

/-- What was asked: the list, the old range's part, the new size, the place, the flags. -/
structure Ask where
  l : List Ar
  o : Ar
  z : Int
  t : Int
  f : Int
/-- The part, as long as the new size says, at a place. -/
def Ask.b (a : Ask) (x : Int) : Ar := ⟨x, x + a.z, a.o.p, a.o.sh, a.o.bk, a.o.off⟩
def Ask.base (a : Ask) : List Ar := if bitF a.f 32 = true then a.l else outsideL a.o.s a.o.e a.l
noncomputable def Ask.mv (a : Ask) (x : Int) : List Ar := putC a.base (a.b x)
def Ask.more (a : Ask) : Int := a.z - (a.o.e - a.o.s)
def tcE (o : Ar) (lo hi : Int) : Int := if lo < o.e ∧ o.s < hi then 1 else 0
def Ask.ofE (a : Ask) : Int := bkE a.o.bk a.o.off a.z
def Ask.fxE (a : Ask) : Int := firstE [rgE a.t a.z, tcE a.o (rgA a.t a.z) (rgB a.t a.z), a.ofE]
/-- A list, where it begins, an error. -/
noncomputable def Ask.fx (a : Ask) : List Ar × Int × Int := if a.fxE = 0 then (a.mv (rgA a.t a.z), rgA a.t a.z, 0) else ([], 0, a.fxE)
noncomputable def Ask.el (a : Ask) : List Ar × Int × Int := if (plR a.l 0 a.z 0).2 = 0 then (a.mv (plR a.l 0 a.z 0).1, (plR a.l 0 a.z 0).1, 0) else ([], 0, (plR a.l 0 a.z 0).2)
def Ask.sh (a : Ask) : List Ar × Int × Int := (outsideL (a.o.s + a.z) a.o.e a.l, a.o.s, 0)
open Classical in
noncomputable def Ask.gr (a : Ask) : List Ar × Int × Int :=
  if a.ofE = 0 then (if FitsAt a.l a.o.e a.more then (a.mv a.o.s, a.o.s, 0) else if bitF a.f 16 = true then a.el else ([], 0, 5)) else ([], 0, a.ofE)
noncomputable def Ask.way (a : Ask) : List Ar × Int × Int := if bitF a.f 1 = true then a.fx else if bitF a.f 32 = true then a.el else if a.more ≤ 0 then a.sh else a.gr
/-- What holds of it. -/
structure Ask.Ok (a : Ask) : Prop where
  may : MayL a.l
  o : Formed a.o
  z : a.z % 4096 = 0 ∧ 4096 ≤ a.z ∧ a.z ≤ 2031616
  same : bitF a.f 32 = true → a.z = a.o.e - a.o.s

theorem z_sz {z : Int} (h : z % 4096 = 0 ∧ 4096 ≤ z ∧ z ≤ 2031616) : szE z = 0 ∧ szV z = z := by
  rcases sz_is z with ⟨h1, _⟩ | ⟨h1, _⟩ | ⟨h1, h2, h3⟩
  · omega
  · omega
  · exact ⟨h2, by omega⟩
section
variable {a : Ask}
theorem Ask.Ok.of (h : a.Ok) : a.ofE = if 1099511627776 < a.o.off + a.z then 4 else 0 := by
  have hn := formed_num h.o
  unfold Ask.ofE bkE
  rw [if_neg (by omega), if_neg (by omega)]
  by_cases hb : 1099511627776 < a.o.off + a.z
  · rw [if_pos (.inr hb), if_pos hb]
  · rw [if_neg (by omega), if_neg hb]
theorem Ask.Ok.of_same (h : a.Ok) (hs : a.z ≤ a.o.e - a.o.s) : a.ofE = 0 := by
  have hn := formed_num h.o
  rw [h.of, if_neg (by omega)]
theorem Ask.Ok.formed (h : a.Ok) (ho : a.ofE = 0) {x : Int} (h1 : 65536 ≤ x) (h2 : x % 4096 = 0) (h3 : x + a.z ≤ 2097152) : Formed (a.b x) := by
  have hn := formed_num h.o
  have hz := h.z
  rw [h.of] at ho
  have hb : ¬ 1099511627776 < a.o.off + a.z := fun k => by rw [if_pos k] at ho; cases ho
  rw [formed_iff]
  simp only [Ask.b]
  omega
theorem Ask.Ok.base (h : a.Ok) : RightL a.base := by
  unfold Ask.base
  by_cases hb : bitF a.f 32 = true
  · rw [if_pos hb]; exact h.may.1
  · rw [if_neg hb]; exact outside_right _ _ h.may.1
theorem Ask.Ok.pl (h : a.Ok) (hp : (plR a.l 0 a.z 0).2 = 0) : 65536 ≤ (plR a.l 0 a.z 0).1 ∧ (plR a.l 0 a.z 0).1 % 4096 = 0 ∧ (plR a.l 0 a.z 0).1 + a.z ≤ 2097152 := by
  have hz := z_sz h.z
  have := plR_num (X := a.l) (a := 0) (n := a.z) (f := 0) hz.1
  rw [hz.2] at this
  exact this hp
theorem Ask.Ok.fits (h : a.Ok) (hf : FitsAt a.l a.o.e a.more) : 65536 ≤ a.o.s ∧ a.o.s % 4096 = 0 ∧ a.o.s + a.z ≤ 2097152 := by
  have hn := formed_num h.o
  have := fits_in hf
  unfold Ask.more at this
  omega
theorem Ask.fx_zero (h : a.fxE = 0) : rgE a.t a.z = 0 ∧ tcE a.o (rgA a.t a.z) (rgB a.t a.z) = 0 ∧ a.ofE = 0 := by
  unfold Ask.fxE at h
  rw [first_zero] at h
  exact ⟨h _ (by simp), h _ (by simp), h _ (by simp)⟩
theorem Ask.Ok.fx_num (h : a.Ok) (he : a.fxE = 0) : 65536 ≤ rgA a.t a.z ∧ rgA a.t a.z % 4096 = 0 ∧ rgA a.t a.z + a.z ≤ 2097152 ∧ rgA a.t a.z = a.t ∧ rgB a.t a.z = a.t + a.z := by
  have hr := rg_ok (Ask.fx_zero he).1
  rw [(z_sz h.z).2] at hr
  omega
/-- What is moved is right. -/
theorem Ask.Ok.mv (h : a.Ok) (ho : a.ofE = 0) {x : Int} (hx : 65536 ≤ x ∧ x % 4096 = 0 ∧ x + a.z ≤ 2097152) : RightL (a.mv x) :=
  putC_right h.base (h.formed ho hx.1 hx.2.1 hx.2.2)
theorem Ask.Ok.mv_tab (h : a.Ok) (ho : a.ofE = 0) {x : Int} (hx : 65536 ≤ x ∧ x % 4096 = 0 ∧ x + a.z ≤ 2097152) (p : Int) : tab (a.mv x) p = if Cov (a.b x) p then some ((a.b x).at p) else if bitF a.f 32 = false ∧ Touch a.o.s a.o.e p then none else tab a.l p := by
  unfold Ask.mv
  rw [(putC_is h.base (h.formed ho hx.1 hx.2.1 hx.2.2)).2]
  congr 1
  unfold Ask.base
  cases hb : bitF a.f 32 with
  | true => rw [if_pos rfl, if_neg (by simp)]
  | false =>
    rw [if_neg (by simp), outside_tab _ _ h.may.1]
    simp
/-- The way, however it goes: an error and nothing; or the old part is moved; or shrunk. -/
inductive Ask.Goes (a : Ask) : List Ar × Int × Int → Prop where
  | err (e : Int) (h : e ≠ 0) : a.Goes ([], 0, e)
  | mv (x : Int) (ho : a.ofE = 0) (hx : 65536 ≤ x ∧ x % 4096 = 0 ∧ x + a.z ≤ 2097152) : a.Goes (a.mv x, x, 0)
  | sh (hz : a.z ≤ a.o.e - a.o.s) (hf : bitF a.f 32 = false) : a.Goes a.sh
theorem Ask.Ok.el (h : a.Ok) (ho : a.ofE = 0) : a.Goes a.el := by
  unfold Ask.el
  by_cases hp : (plR a.l 0 a.z 0).2 = 0
  · rw [if_pos hp]; exact .mv _ ho (h.pl hp)
  · rw [if_neg hp]; exact .err _ hp
open Classical in
theorem Ask.Ok.gr (h : a.Ok) : a.Goes a.gr := by
  unfold Ask.gr
  by_cases ho : a.ofE = 0
  · rw [if_pos ho]
    by_cases hf : FitsAt a.l a.o.e a.more
    · rw [if_pos hf]; exact .mv _ ho (h.fits hf)
    · rw [if_neg hf]
      by_cases hm : bitF a.f 16 = true
      · rw [if_pos hm]; exact h.el ho
      · rw [if_neg hm]; exact .err 5 (by decide)
  · rw [if_neg ho]; exact .err _ ho
theorem Ask.Ok.way (h : a.Ok) : a.Goes a.way := by
  unfold Ask.way
  by_cases h1 : bitF a.f 1 = true
  · rw [if_pos h1]
    unfold Ask.fx
    by_cases he : a.fxE = 0
    · rw [if_pos he]
      have := h.fx_num he
      exact .mv _ (Ask.fx_zero he).2.2 ⟨this.1, this.2.1, this.2.2.1⟩
    · rw [if_neg he]; exact .err _ he
  · rw [if_neg h1]
    by_cases h2 : bitF a.f 32 = true
    · rw [if_pos h2]
      have := h.same h2
      exact h.el (h.of_same (by omega))
    · rw [if_neg h2]
      by_cases h3 : a.more ≤ 0
      · rw [if_pos h3]
        unfold Ask.more at h3
        exact .sh (by omega) (by simpa using h2)
      · rw [if_neg h3]; exact h.gr
theorem Ask.Ok.right (h : a.Ok) {r : List Ar × Int × Int} (hg : a.Goes r) : RightL r.1 := by
  cases hg with
  | err e he => exact trivial
  | mv x ho hx => exact h.mv ho hx
  | sh hz hf => exact outside_right _ _ h.may.1
end

/-! A call. -/
/-- What is wrong with it, however it goes. -/
def mvE (f : Int) : Int := if bitF f 33 = true ∧ bitF f 16 = false then 1 else 0
def smE (f was now : Int) : Int := if bitF f 32 = true ∧ was ≠ now then 1 else 0
def whE (a : Ar) (hi : Int) : Int := if a.e < hi then 7 else 0
def rmE (X : List Ar) (c : Cl) : Int :=
  firstE [liE X, flE c.f 49, mvE c.f, rgE c.a c.n, szE c.nw, smE c.f (rgB c.a c.n - rgA c.a c.n) (szV c.nw), whE (fnA X (rgA c.a c.n)) (rgB c.a c.n)]
def rmK (X : List Ar) (c : Cl) : Ask := ⟨X, (fnA X (rgA c.a c.n)).part (rgA c.a c.n) (rgB c.a c.n), szV c.nw, c.tw, c.f⟩
/-- The changed list, where it begins, an error. -/
noncomputable def rmW (X : List Ar) (c : Cl) : List Ar × Int × Int := if rmE X c = 0 then (rmK X c).way else ([], 0, rmE X c)
/-- What a remap comes to: the list, the error, the value. -/
noncomputable def rmR (X : List Ar) (c : Cl) : List Ar × Int × Int :=
  if (rmW X c).2.2 = 0 then (if (rmW X c).1.length ≤ 24 then ((rmW X c).1, 0, (rmW X c).2.1) else (X, 9, 0)) else (X, (rmW X c).2.2, 0)

theorem bits_fin64 : ∀ f : Fin 64, (bitF (f.val : Int) 1 = decide (f.val % 2 = 1)) ∧ (bitF (f.val : Int) 16 = decide (f.val / 16 % 2 = 1)) ∧ (bitF (f.val : Int) 32 = decide (f.val / 32 % 2 = 1)) ∧ (bitF (f.val : Int) 33 = (decide (f.val % 2 = 1) || decide (f.val / 32 % 2 = 1))) := by decide +kernel
theorem fl49_fin : ∀ f : Fin 64, decide (flE (f.val : Int) 49 = 0) = decide (f.val / 2 % 8 = 0) := by decide +kernel
theorem bits_6 {f : Int} (h0 : 0 ≤ f) (h1 : f ≤ 63) : bitF f 1 = decide (f % 2 = 1) ∧ bitF f 16 = decide (f / 16 % 2 = 1) ∧ bitF f 32 = decide (f / 32 % 2 = 1) ∧ bitF f 33 = (decide (f % 2 = 1) || decide (f / 32 % 2 = 1)) := by
  obtain ⟨n, rfl⟩ : ∃ n : Nat, f = (n : Int) := ⟨f.toNat, by omega⟩
  have h := bits_fin64 ⟨n, by omega⟩
  simp only at h
  obtain ⟨e1, e2, e3, e4⟩ := h
  have q1 : decide (n % 2 = 1) = decide ((n : Int) % 2 = 1) := by congr 1; simp only [eq_iff_iff]; omega
  have q2 : decide (n / 16 % 2 = 1) = decide ((n : Int) / 16 % 2 = 1) := by congr 1; simp only [eq_iff_iff]; omega
  have q3 : decide (n / 32 % 2 = 1) = decide ((n : Int) / 32 % 2 = 1) := by congr 1; simp only [eq_iff_iff]; omega
  rw [e1, e2, e3, e4, q1, q2, q3]
  exact ⟨rfl, rfl, rfl, rfl⟩
/-- Flags that are all allowed. -/
theorem fl49_zero {f : Int} (h : i64 f) : flE f 49 = 0 ↔ (0 ≤ f ∧ f ≤ 63) ∧ f / 2 % 8 = 0 := by
  by_cases hn : 0 ≤ f ∧ f ≤ 63
  · obtain ⟨n, rfl⟩ : ∃ n : Nat, f = (n : Int) := ⟨f.toNat, by omega⟩
    have := fl49_fin ⟨n, by omega⟩
    simp only [decide_eq_decide] at this
    rw [this]
    omega
  · refine ⟨fun hz => ?_, fun k => absurd k.1 hn⟩
    exfalso
    unfold flE at hz
    by_cases h0 : f < 0
    · rw [if_pos (.inl h0)] at hz; cases hz
    · obtain ⟨n, rfl⟩ : ∃ n : Nat, f = (n : Int) := ⟨f.toNat, by omega⟩
      have hb : n < 2 ^ 63 := by unfold i64 at h; omega
      have hk : bits .andNot .i64 (n : Int) 49 = 0 := Classical.byContradiction fun k => by rw [if_pos (.inr k)] at hz; cases hz
      have hall := (andNot_zero n 49 hb (by decide)).1 hk
      have h2 : n / 64 = 0 := by
        apply Nat.eq_of_testBit_eq
        intro i
        rw [Nat.zero_testBit, show (64 : Nat) = 2 ^ 6 from rfl, Nat.testBit_div_two_pow]
        cases ht : n.testBit (i + 6) with
        | false => rfl
        | true =>
          have := hall _ ht
          rw [Nat.testBit_lt_two_pow (Nat.lt_of_lt_of_le (show 49 < 2 ^ 6 by decide) (Nat.pow_le_pow_right (by omega) (by omega)))] at this
          cases this
      omega
theorem mv_zero {f : Int} (h0 : 0 ≤ f) (h1 : f ≤ 63) : mvE f = 0 ↔ ((f % 2 = 1 ∨ f / 32 % 2 = 1) → f / 16 % 2 = 1) := by
  obtain ⟨_, e2, _, e4⟩ := bits_6 h0 h1
  unfold mvE
  rw [e2, e4]
  by_cases hc : (decide (f % 2 = 1) || decide (f / 32 % 2 = 1)) = true ∧ decide (f / 16 % 2 = 1) = false
  · rw [if_pos hc]
    rw [Bool.or_eq_true, decide_eq_true_eq, decide_eq_true_eq, decide_eq_false_iff_not] at hc
    exact ⟨fun k => (by cases k), fun k => absurd (k hc.1) hc.2⟩
  · rw [if_neg hc]
    rw [Bool.or_eq_true, decide_eq_true_eq, decide_eq_true_eq, decide_eq_false_iff_not] at hc
    exact ⟨fun _ k => Classical.byContradiction fun q => hc ⟨k, q⟩, fun _ => rfl⟩
theorem mv_or (f : Int) : mvE f = 0 ∨ mvE f = 1 := by unfold mvE; split <;> simp
theorem sm_or (f a b : Int) : smE f a b = 0 ∨ smE f a b = 1 := by unfold smE; split <;> simp
theorem wh_or (a : Ar) (b : Int) : whE a b = 0 ∨ whE a b = 7 := by unfold whE; split <;> simp

/-- What holds of a call with which nothing is wrong. -/
structure Rmk (X : List Ar) (c : Cl) (a : Ar) : Prop where
  may : MayL X
  fl : flE c.f 49 = 0
  mv : mvE c.f = 0
  rg : rgE c.a c.n = 0
  sz : szE c.nw = 0
  sm : bitF c.f 32 = true → rgB c.a c.n - rgA c.a c.n = szV c.nw
  mem : a ∈ X
  fn : fnA X (rgA c.a c.n) = a
  lo : a.s ≤ rgA c.a c.n
  hi : rgB c.a c.n ≤ a.e
theorem fn_mem {X : List Ar} {x : Int} (h : 0 < (fnA X x).e) : fnO X x = some (fnA X x) ∧ RightL X ∧ fnA X x ∈ X ∧ HasA (fnA X x) x := by
  unfold fnA at h ⊢
  cases ho : fnO X x with
  | none => rw [ho] at h; simp [Ar.nil] at h
  | some a =>
    unfold fnO at ho
    by_cases hr : RightL X
    · rw [if_pos hr] at ho
      have := find_is ho
      exact ⟨rfl, hr, this.1, this.2⟩
    · rw [if_neg hr] at ho; cases ho
theorem rm_zero {X : List Ar} {c : Cl} : rmE X c = 0 ↔ ∃ a, Rmk X c a := by
  unfold rmE
  rw [first_zero]
  constructor
  · intro h
    have h1 := h (liE X) (by simp)
    have h2 := h (flE c.f 49) (by simp)
    have h3 := h (mvE c.f) (by simp)
    have h4 := h (rgE c.a c.n) (by simp)
    have h5 := h (szE c.nw) (by simp)
    have h6 := h (smE c.f (rgB c.a c.n - rgA c.a c.n) (szV c.nw)) (by simp)
    have h7 := h (whE (fnA X (rgA c.a c.n)) (rgB c.a c.n)) (by simp)
    have hm : MayL X := by
      unfold liE at h1
      by_cases hm : MayL X
      · exact hm
      · rw [if_neg hm] at h1; cases h1
    have hr := rg_ok h4
    have hs := sz_pages hr.2.1
    have hw : rgB c.a c.n ≤ (fnA X (rgA c.a c.n)).e := by
      unfold whE at h7
      by_cases hw : (fnA X (rgA c.a c.n)).e < rgB c.a c.n
      · rw [if_pos hw] at h7; cases h7
      · omega
    obtain ⟨f1, f2, f3, f4⟩ := fn_mem (X := X) (x := rgA c.a c.n) (by omega)
    refine ⟨fnA X (rgA c.a c.n), hm, h2, h3, h4, h5, fun hb => ?_, f3, rfl, f4.lo, hw⟩
    unfold smE at h6
    exact Classical.byContradiction fun k => by rw [if_pos ⟨hb, k⟩] at h6; cases h6
  · rintro ⟨a, h1, h2, h3, h4, h5, h6, h7, h8, h9, h10⟩ e he
    simp only [List.mem_cons, List.not_mem_nil, or_false] at he
    rcases he with rfl | rfl | rfl | rfl | rfl | rfl | rfl
    · unfold liE; rw [if_pos h1]
    · exact h2
    · exact h3
    · exact h4
    · exact h5
    · unfold smE; rw [if_neg (fun k => k.2 (h6 k.1))]
    · unfold whE; rw [h8, if_neg (by omega)]
section
variable {X : List Ar} {c : Cl} {a : Ar}
theorem Rmk.num (h : Rmk X c a) : rgA c.a c.n = c.a ∧ rgB c.a c.n = c.a + szV c.n ∧ c.a % 4096 = 0 ∧ szV c.n % 4096 = 0 ∧ 65536 ≤ c.a ∧ 4096 ≤ szV c.n ∧ c.a + szV c.n ≤ 2097152 ∧ a.s ≤ c.a ∧ c.a + szV c.n ≤ a.e := by
  have hr := rg_ok h.rg
  have hs := sz_pages hr.2.1
  have := h.lo; have := h.hi
  omega
theorem Rmk.part (h : Rmk X c a) : PartA a (rgA c.a c.n) (rgB c.a c.n) ∧ a.part (rgA c.a c.n) (rgB c.a c.n) = { a.from c.a with e := c.a + szV c.n } := by
  have hn := h.num
  have hf := right_formed h.may.1 a h.mem
  refine ⟨⟨hf, by omega⟩, ?_⟩
  rw [part_at hf (by omega) (by omega), show max (rgA c.a c.n) a.s = c.a by omega, show min (rgB c.a c.n) a.e = c.a + szV c.n by omega]
theorem Rmk.o (h : Rmk X c a) : (rmK X c).o = { a.from c.a with e := c.a + szV c.n } := by
  show (fnA X (rgA c.a c.n)).part _ _ = _
  rw [h.fn, h.part.2]
theorem Rmk.os (h : Rmk X c a) : (rmK X c).o.s = c.a ∧ (rmK X c).o.e = c.a + szV c.n ∧ (rmK X c).o.p = a.p ∧ (rmK X c).o.sh = a.sh ∧ (rmK X c).o.bk = a.bk := by
  rw [h.o]; exact ⟨rfl, rfl, rfl, rfl, rfl⟩
theorem Rmk.ok (h : Rmk X c a) : (rmK X c).Ok := by
  have hn := h.num
  have hf := right_formed h.may.1 a h.mem
  have ho : Formed (rmK X c).o := by
    rw [h.o]
    exact formed_sub hf (by omega) (by omega) (by omega) (by omega) (by omega)
  have hs := sz_pages h.sz
  refine ⟨h.may, ho, ⟨hs.1, hs.2.2.2.1, hs.2.2.2.2⟩, fun hb => ?_⟩
  have := h.sm hb
  rw [h.os.1, h.os.2.1]
  show szV c.nw = _
  omega
/-- The old pages have what the old part has. -/
theorem Rmk.tab (h : Rmk X c a) (p : Int) (hc : Cov (rmK X c).o p) : tab X p = some ((rmK X c).o.at p) := by
  have hn := h.num
  have hf := right_formed h.may.1 a h.mem
  have he : (rmK X c).o.at p = a.at p := by rw [h.o]; exact at_from a c.a _ p hf hn.2.2.1
  rw [he]
  refine tab_of (right_disj h.may.1) h.mem ?_
  have ho := h.os
  unfold Cov at hc ⊢
  omega
theorem rm_wrong (h : ¬ MayL X) (c : Cl) : rmR X c = (X, 1, 0) := by
  have he : rmE X c = 1 := by
    unfold rmE liE
    rw [if_neg h, firstE, if_neg (by decide)]
  have hw : rmW X c = ([], 0, 1) := by unfold rmW; rw [if_neg (by rw [he]; decide), he]
  unfold rmR
  rw [hw]; rfl
/-- What it comes to: an error, and the list that came; or a way that went. -/
theorem rmR_is (X : List Ar) (c : Cl) : ((rmR X c).2.1 ≠ 0 ∧ (rmR X c).1 = X ∧ (rmR X c).2.2 = 0) ∨ (∃ a, Rmk X c a ∧ (rmK X c).way.2.2 = 0 ∧ (rmK X c).way.1.length ≤ 24 ∧ rmR X c = ((rmK X c).way.1, 0, (rmK X c).way.2.1)) := by
  unfold rmR rmW
  by_cases he : rmE X c = 0
  · rw [if_pos he]
    obtain ⟨a, ha⟩ := rm_zero.1 he
    by_cases hw : (rmK X c).way.2.2 = 0
    · rw [if_pos hw]
      by_cases hm : (rmK X c).way.1.length ≤ 24
      · rw [if_pos hm]; exact .inr ⟨a, ha, hw, hm, rfl⟩
      · rw [if_neg hm]; exact .inl ⟨by simp, rfl, rfl⟩
    · rw [if_neg hw]; exact .inl ⟨hw, rfl, rfl⟩
  · rw [if_neg he]
    simp only
    rw [if_neg he]; exact .inl ⟨he, rfl, rfl⟩
theorem rmR_may (hX : MayL X) (c : Cl) : MayL (rmR X c).1 := by
  rcases rmR_is X c with ⟨_, h, _⟩ | ⟨a, h1, h2, h3, h4⟩
  · rw [h]; exact hX
  · rw [h4]; exact ⟨(h1.ok.right h1.ok.way : RightL (rmK X c).way.1), h3⟩
end
end Go.Proofs.YtholpgcghpikgaaGreat

/-
  Layer 12: the small calls: a contract for each.
-/
namespace Go.Proofs.YtholpgcghpikgaaGreat
open Go.ChangeShapes Go.WideShapes Go.ChangeAt Go.RowKit Go.Shelf
set_option linter.unusedVariables false

/-! What is found, whether a list may come. -/
theorem rfind_c {w : World} {v : Value} {X : List Ar} (h : Holds w v X) (hl : X.length ≤ 10000) (x : Int) : Calls Tryz.prog 49 #[v, .int .i64 x] w fun e w' => e = .returned (.tuple #[(fnA X x).v, .bool (fnO X x).isSome]) ∧ Below w.heap.size w w' := find_c h hl x
set_option maxHeartbeats 1000000 in
theorem rlistE_c {w : World} {v : Value} {X : List Ar} (h : Holds w v X) (hl : X.length ≤ 10000) : Calls Tryz.prog 118 #[v] w fun e w' => e = .returned (.int .i64 (liE X)) ∧ Below w.heap.size w w' := by
  obtain ⟨A, c, rfl, hc, hA⟩ := h
  have CR := Lib.hid (right_any A X c (by omega) w hA)
  unfold liE
  clear hA
  by_cases hm : X.length ≤ 24
  · have hz : ¬ (24 : Int) < (X.length : Int) := by omega
    by_cases hr : RightL X
    · rw [if_pos (show MayL X from ⟨hr, hm⟩)]
      rw [decide_eq_true hr] at CR
      generalize X.length = n at *
      go_enter Tryz.func118, Tryz.ntmps118
      go_wp2_with fail
      refine CR.out.mono ?_
      rintro e w1 ⟨rfl, hb⟩
      go_wp2_with fail
      go_ret
      exact ⟨rfl, hb⟩
    · rw [if_neg (fun h : MayL X => hr h.1)]
      rw [decide_eq_false hr] at CR
      generalize X.length = n at *
      go_enter Tryz.func118, Tryz.ntmps118
      go_wp2_with fail
      refine CR.out.mono ?_
      rintro e w1 ⟨rfl, hb⟩
      go_wp2_with fail
      go_ret
      exact ⟨rfl, hb⟩
  · have hz : (24 : Int) < (X.length : Int) := by omega
    rw [if_neg (fun h : MayL X => hm h.2)]
    clear CR
    generalize X.length = n at *
    go_enter Tryz.func118, Tryz.ntmps118
    go_wp2_with fail
    go_ret
    exact ⟨rfl, Below.refl _ _⟩

/-! Flags that can't be. -/
theorem moveE_any (f : Int) : Says 119 #[.int .i64 f] (.int .i64 (mvE f)) := by
  intro w
  unfold mvE
  cases h2 : bitF f 33 with
  | false =>
    rw [if_neg (by simp)]
    have k2 : (bits .and .i64 f 33 != 0) = false := h2
    clear h2
    go_enter Tryz.func119, Tryz.ntmps119
    go_wp2_with fail
    go_ret
    exact ⟨rfl, Below.refl _ _⟩
  | true =>
    have k2 : (bits .and .i64 f 33 != 0) = true := h2
    cases h1 : bitF f 16 with
    | false =>
      rw [if_pos (by simp)]
      have k1 : (bits .and .i64 f 16 == 0) = true := by simpa [bitF] using h1
      clear h2 h1
      go_enter Tryz.func119, Tryz.ntmps119
      go_wp2_with fail
      go_ret
      exact ⟨rfl, Below.refl _ _⟩
    | true =>
      rw [if_neg (by simp)]
      have k1 : (bits .and .i64 f 16 == 0) = false := by simpa [bitF] using h1
      clear h2 h1
      go_enter Tryz.func119, Tryz.ntmps119
      go_wp2_with fail
      go_ret
      exact ⟨rfl, Below.refl _ _⟩
theorem sameE_any (f a b : Int) : Says 120 #[.int .i64 f, .int .i64 a, .int .i64 b] (.int .i64 (smE f a b)) := by
  intro w
  unfold smE
  cases h2 : bitF f 32 with
  | false =>
    rw [if_neg (by simp)]
    have k2 : (bits .and .i64 f 32 != 0) = false := h2
    clear h2
    go_enter Tryz.func120, Tryz.ntmps120
    go_wp2_with fail
    go_ret
    exact ⟨rfl, Below.refl _ _⟩
  | true =>
    have k2 : (bits .and .i64 f 32 != 0) = true := h2
    clear h2
    by_cases h1 : a = b
    · rw [if_neg (fun k => k.2 h1)]
      have k1 : (a != b) = false := by simpa using h1
      go_enter Tryz.func120, Tryz.ntmps120
      go_wp2_with fail
      go_ret
      exact ⟨rfl, Below.refl _ _⟩
    · rw [if_pos ⟨rfl, h1⟩]
      have k1 : (a != b) = true := by simpa using h1
      go_enter Tryz.func120, Tryz.ntmps120
      go_wp2_with fail
      go_ret
      exact ⟨rfl, Below.refl _ _⟩
theorem wholeE_any (a : Ar) (hi : Int) : Says 121 #[a.v, .int .i64 hi] (.int .i64 (whE a hi)) := by
  intro w
  have B := Lib.hid (below_new w (.cells a.cells 52))
  unfold whE
  by_cases h : a.e < hi
  · rw [if_pos h]
    obtain ⟨s, t, p, sh, bk, off⟩ := a
    unfold Ar.v Ar.cells at *
    simp only at h
    go_enter Tryz.func121, Tryz.ntmps121
    go_wp2_with fail
    go_ret
    exact ⟨rfl, B.out⟩
  · rw [if_neg h]
    obtain ⟨s, t, p, sh, bk, off⟩ := a
    unfold Ar.v Ar.cells at *
    simp only at h
    go_enter Tryz.func121, Tryz.ntmps121
    go_wp2_with fail
    go_ret
    exact ⟨rfl, B.out⟩

/-! What was asked. -/
def Ask.cells (v : Value) (a : Ask) : Array Value := #[v, .int .i64 a.o.s, .int .i64 a.o.e, .int .i64 a.o.p, .bool a.o.sh, .int .i64 a.o.bk, .int .i64 a.o.off, .int .i64 a.z, .int .i64 a.t, .int .i64 a.f]
def Ask.v (v : Value) (a : Ask) : Value := .agg (a.cells v)
theorem row10 {w : World} {q : Nat} {t : TypeId} {x0 x1 x2 x3 x4 x5 x6 x7 x8 x9 : Value} (h : Whole w q t #[x0, x1, x2, x3, x4, x5, x6, x7, x8, x9]) : w.cell? ⟨q, 0, none⟩ = some x0 ∧ w.cell? ⟨q, 1, none⟩ = some x1 ∧ w.cell? ⟨q, 2, none⟩ = some x2 ∧ w.cell? ⟨q, 3, none⟩ = some x3 ∧ w.cell? ⟨q, 4, none⟩ = some x4 ∧ w.cell? ⟨q, 5, none⟩ = some x5 ∧ w.cell? ⟨q, 6, none⟩ = some x6 ∧ w.cell? ⟨q, 7, none⟩ = some x7 ∧ w.cell? ⟨q, 8, none⟩ = some x8 ∧ w.cell? ⟨q, 9, none⟩ = some x9 :=
  ⟨h.cell 0, h.cell 1, h.cell 2, h.cell 3, h.cell 4, h.cell 5, h.cell 6, h.cell 7, h.cell 8, h.cell 9⟩
set_option maxHeartbeats 1000000 in
theorem more_any (a : Ask) (h : a.Ok) (v : Value) : Says 84 #[a.v v] (.int .i64 a.more) := by
  intro w
  have B := Lib.hid (below_new w (.cells (a.cells v) 111))
  have hn := formed_num h.o
  have hz := h.z
  have hw : IntKind.i64.wrap (a.o.e - a.o.s) = a.o.e - a.o.s := by rw [IntKind.wrap_i64]; omega
  have hw2 : IntKind.i64.wrap (a.z - (a.o.e - a.o.s)) = a.z - (a.o.e - a.o.s) := by rw [IntKind.wrap_i64]; omega
  unfold Ask.more
  clear h
  obtain ⟨X, ⟨s, t, p, sh, bk, off⟩, z, tg, f⟩ := a
  unfold Ask.v Ask.cells at *
  simp only at hn hz hw hw2 B ⊢
  obtain ⟨n1, n2, n3, n4⟩ := hn
  obtain ⟨z1, z2, z3⟩ := hz
  clear n4
  go_enter Tryz.func84, Tryz.ntmps84
  go_wp2_with fail
  go_ret
  exact ⟨by first | rfl | (congr 2; omega), B.out⟩
set_option maxHeartbeats 1000000 in
theorem touchE_any (a : Ask) (v : Value) (lo hi : Int) : Says 122 #[a.v v, .int .i64 lo, .int .i64 hi] (.int .i64 (tcE a.o lo hi)) := by
  intro w
  have B := Lib.hid (below_new w (.cells (a.cells v) 111))
  unfold tcE
  obtain ⟨X, ⟨s, t, p, sh, bk, off⟩, z, tg, f⟩ := a
  unfold Ask.v Ask.cells at *
  simp only at B ⊢
  by_cases h1 : lo < t
  · by_cases h2 : s < hi
    · rw [if_pos ⟨h1, h2⟩]
      go_enter Tryz.func122, Tryz.ntmps122
      go_wp2_with fail
      go_ret
      exact ⟨rfl, B.out⟩
    · rw [if_neg (fun k => h2 k.2)]
      go_enter Tryz.func122, Tryz.ntmps122
      go_wp2_with fail
      go_ret
      exact ⟨rfl, B.out⟩
  · rw [if_neg (fun k => h1 k.1)]
    go_enter Tryz.func122, Tryz.ntmps122
    go_wp2_with fail
    go_ret
    exact ⟨rfl, B.out⟩
set_option maxHeartbeats 1000000 in
theorem offsetE_any (a : Ask) (h : a.Ok) (v : Value) : Says 123 #[a.v v] (.int .i64 a.ofE) := by
  intro w
  have B := Lib.hid (below_new w (.cells (a.cells v) 111))
  have hn := formed_num h.o
  have hz := h.z
  have CB := Lib.hid (backing_any a.o.bk a.o.off a.z (by omega) (by omega) (by omega))
  unfold Ask.ofE
  clear h hn hz
  obtain ⟨X, ⟨s, t, p, sh, bk, off⟩, z, tg, f⟩ := a
  unfold Ask.v Ask.cells at *
  simp only at B CB ⊢
  go_enter Tryz.func123, Tryz.ntmps123
  go_wp2_with fail
  refine (CB.out _).mono ?_
  rintro e w1 ⟨rfl, hb⟩
  have B := Lib.hid (below_then B.out hb (Nat.le_refl _))
  clear hb CB
  go_wp2_with fail
  go_ret
  exact ⟨rfl, B.out⟩
end Go.Proofs.YtholpgcghpikgaaGreat
