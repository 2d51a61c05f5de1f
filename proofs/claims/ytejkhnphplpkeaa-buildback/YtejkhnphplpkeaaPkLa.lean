/-
  Texts of our own, one behind the other (List, ListPure, ListCut, ListJoin, ListRightDo, ListGo, HoldIs, ListIn, ListOut, ListMade): what the laws' proofs rest on; each says at its head what it holds. No conditions.
-/
import Derived.Test.YtejkhnphplpkeaaPkA
import Derived.RangeFuncNested
import Derived.RangeFuncBound
import Derived.RangeFuncCalls
import Derived.RangeFuncLeaves
import Derived.RangeFuncBox
import Derived.Shelf.Abstract
import Derived.Shelf.RegionOpen
import Derived.WalkKit
import Derived.OwnWalkIn
import Derived.TacticsInMore
import Derived.LoopNIn
import Derived.LoopIn
import Derived.Deep.LoopGhost
/-
  Layer 7: lists of areas as slices, and what goes through one.
-/
namespace Go.Proofs.Ytejkhnphplpkeaa
open Go.ChangeShapes Go.WideShapes Go.ChangeAt Go.RowKit Go.Shelf
set_option linter.unusedVariables false
attribute [local go_sem] Oper.semAt_some

/-- The cells of an area, from a place on. -/
structure AreaAt (w : World) (b o : Nat) (a : Ar) : Prop where
  c0 : w.cell? ⟨b, o, none⟩ = some (.int .i64 a.s)
  c1 : w.cell? ⟨b, o + 1, none⟩ = some (.int .i64 a.e)
  c2 : w.cell? ⟨b, o + 2, none⟩ = some (.int .i64 a.p)
  c3 : w.cell? ⟨b, o + 3, none⟩ = some (.bool a.sh)
  c4 : w.cell? ⟨b, o + 4, none⟩ = some (.int .i64 a.bk)
  c5 : w.cell? ⟨b, o + 5, none⟩ = some (.int .i64 a.off)
theorem AreaAt.below {w w' : World} {B b o : Nat} {a : Ar} (h : AreaAt w b o a) (hb : Below B w w') (hlt : b < B) : AreaAt w' b o a :=
  ⟨(hb.cell (p := ⟨b, o, none⟩) hlt).trans h.c0, (hb.cell (p := ⟨b, o + 1, none⟩) hlt).trans h.c1, (hb.cell (p := ⟨b, o + 2, none⟩) hlt).trans h.c2,
   (hb.cell (p := ⟨b, o + 3, none⟩) hlt).trans h.c3, (hb.cell (p := ⟨b, o + 4, none⟩) hlt).trans h.c4, (hb.cell (p := ⟨b, o + 5, none⟩) hlt).trans h.c5⟩

/-- A slice that holds areas, in a block below n₀ (or it has none). -/
def Areas (n₀ : Nat) (w : World) (A : Option Addr) (l : List Ar) : Prop :=
  l = [] ∨ ∃ b off, A = some ⟨b, off, none⟩ ∧ b < n₀ ∧ ∀ (j : Nat) (h : j < l.length), AreaAt w b (off + j * 6) l[j]
theorem Areas.below {n₀ : Nat} {w w' : World} {A : Option Addr} {l : List Ar} (h : Areas n₀ w A l) (hb : Below n₀ w w') : Areas n₀ w' A l := by
  rcases h with h | ⟨b, off, e, hlt, hc⟩
  · exact .inl h
  · exact .inr ⟨b, off, e, hlt, fun j hj => (hc j hj).below hb hlt⟩
theorem Areas.mono {n₀ n₁ : Nat} {w : World} {A : Option Addr} {l : List Ar} (h : Areas n₀ w A l) (hn : n₀ ≤ n₁) : Areas n₁ w A l := by
  rcases h with h | ⟨b, off, e, hlt, hc⟩
  · exact .inl h
  · exact .inr ⟨b, off, e, by omega, hc⟩

abbrev tArea : TypeId := 74

end Go.Proofs.Ytejkhnphplpkeaa

/-
  Layer 7: lists of areas, what follows: right lists, their pages, parts that stay, joins. No program is asked.
-/
namespace Go.Proofs.Ytejkhnphplpkeaa
set_option linter.unusedVariables false

/-- Whether an area has a page. -/
def Cov (a : Ar) (p : Int) : Prop := a.s ≤ 4096 * p ∧ 4096 * p < a.e
instance (a : Ar) (p : Int) : Decidable (Cov a p) := by unfold Cov; infer_instance
/-- What each page has, by a list. -/
def tab : List Ar → Int → Option At
  | [], _ => none
  | a :: l, p => if Cov a p then some (a.at p) else tab l p
/-- No page is in both. -/
def Disj (a b : Ar) : Prop := ∀ p, Cov a p → ¬ Cov b p
theorem Disj.symm {a b : Ar} (h : Disj a b) : Disj b a := fun p h1 h2 => h p h2 h1

/-- Whether an area may stand behind another one. -/
def Ok (z a : Ar) : Prop := Formed a ∧ z.e ≤ a.s ∧ ¬ GoesA z a
instance (z a : Ar) : Decidable (Ok z a) := by unfold Ok; infer_instance
/-- Whether areas may stand behind one. -/
def After' : Ar → List Ar → Prop
  | _, [] => True
  | z, a :: l => Ok z a ∧ After' a l
def lRightB : Ar → List Ar → Bool
  | _, [] => true
  | z, a :: l => decide (Ok z a) && lRightB a l
theorem rightB_iff : ∀ (z : Ar) (l : List Ar), lRightB z l = true ↔ After' z l
  | _, [] => by simp [lRightB, After']
  | z, a :: l => by simp [lRightB, After', rightB_iff a l]
/-- A right list. -/
def RightL (l : List Ar) : Prop := After' Ar.nil l
instance (l : List Ar) : Decidable (RightL l) := decidable_of_iff (lRightB Ar.nil l = true) (rightB_iff _ _)

theorem formed_num {a : Ar} (h : Formed a) : 65536 ≤ a.s ∧ a.s < a.e ∧ a.e ≤ 2097152 ∧ a.s % 4096 = 0 ∧ a.e % 4096 = 0 ∧ 0 ≤ a.p ∧ a.p ≤ 7 ∧ 0 ≤ a.bk ∧ a.bk ≤ 9 ∧ 0 ≤ a.off ∧ a.off % 4096 = 0 ∧ (a.bk = 0 → a.off = 0) ∧ a.off ≤ 1099511627776 - (a.e - a.s) := by
  have := (formed_iff a).1 h; omega
theorem not_formed_nil : ¬ Formed Ar.nil := by
  intro h; have := formed_num h; simp [Ar.nil] at this
theorem ok_nil {a : Ar} (h : Formed a) : Ok Ar.nil a := ⟨h, by have := formed_num h; simp [Ar.nil]; omega, fun g => not_formed_nil g.fa⟩

theorem after_formed : ∀ {z : Ar} {l : List Ar}, After' z l → ∀ a ∈ l, Formed a
  | _, [], _, _, h => by cases h
  | _, b :: l, h, a, ha => by
    rcases List.mem_cons.1 ha with rfl | ha
    · exact h.1.1
    · exact after_formed h.2 a ha
theorem after_from : ∀ {z : Ar} {l : List Ar}, After' z l → ∀ a ∈ l, z.e ≤ a.s
  | _, [], _, _, h => by cases h
  | z, b :: l, h, a, ha => by
    rcases List.mem_cons.1 ha with rfl | ha
    · exact h.1.2.1
    · have h1 := after_from h.2 a ha
      have h2 := (formed_num h.1.1).2.1
      have h3 := h.1.2.1
      omega
theorem disj_of_le {a b : Ar} (h : a.e ≤ b.s) : Disj a b := fun p h1 h2 => by
  obtain ⟨_, h3⟩ := h1; obtain ⟨h4, _⟩ := h2; omega
theorem after_pair : ∀ {z : Ar} {l : List Ar}, After' z l → l.Pairwise (fun a b => a.e ≤ b.s)
  | _, [], _ => .nil
  | _, b :: l, h => .cons (fun a ha => after_from h.2 a ha) (after_pair h.2)
theorem after_disj {z : Ar} {l : List Ar} (h : After' z l) : l.Pairwise Disj := (after_pair h).imp (fun h => disj_of_le h)

theorem tab_some {l : List Ar} {p : Int} {x : At} (h : tab l p = some x) : ∃ a ∈ l, Cov a p ∧ a.at p = x := by
  induction l with
  | nil => cases h
  | cons a l ih =>
    unfold tab at h
    by_cases hc : Cov a p
    · rw [if_pos hc] at h; exact ⟨a, by simp, hc, by simpa using h⟩
    · rw [if_neg hc] at h
      obtain ⟨b, hb, h1⟩ := ih h
      exact ⟨b, by simp [hb], h1⟩
theorem tab_of {l : List Ar} (hd : l.Pairwise Disj) {a : Ar} (ha : a ∈ l) {p : Int} (hc : Cov a p) : tab l p = some (a.at p) := by
  induction l with
  | nil => cases ha
  | cons b l ih =>
    unfold tab
    by_cases hb : Cov b p
    · rw [if_pos hb]
      rcases List.mem_cons.1 ha with rfl | ha
      · rfl
      · exact absurd hc ((List.pairwise_cons.1 hd).1 a ha p hb)
    · rw [if_neg hb]
      rcases List.mem_cons.1 ha with rfl | ha
      · exact absurd hc hb
      · exact ih (List.pairwise_cons.1 hd).2 ha
theorem tab_none {l : List Ar} {p : Int} (h : ∀ a ∈ l, ¬ Cov a p) : tab l p = none := by
  cases ht : tab l p with
  | none => rfl
  | some x => obtain ⟨a, ha, hc, _⟩ := tab_some ht; exact absurd hc (h a ha)
theorem tab_no {l : List Ar} {p : Int} (h : tab l p = none) : ∀ a ∈ l, ¬ Cov a p := by
  intro a ha hc
  induction l with
  | nil => cases ha
  | cons b l ih =>
    unfold tab at h
    by_cases hb : Cov b p
    · rw [if_pos hb] at h; cases h
    · rw [if_neg hb] at h
      rcases List.mem_cons.1 ha with rfl | ha
      · exact hb hc
      · exact ih h ha
/-- Lists that have the same areas have the same pages. -/
theorem tab_perm {l l' : List Ar} (hd : l.Pairwise Disj) (hp : l.Perm l') : ∀ p, tab l p = tab l' p := by
  have hd' : l'.Pairwise Disj := hp.pairwise hd (fun h => h.symm)
  intro p
  cases ht : tab l p with
  | none => exact (tab_none fun a ha => tab_no ht a (hp.mem_iff.2 ha)).symm
  | some x =>
    obtain ⟨a, ha, hc, rfl⟩ := tab_some ht
    exact (tab_of hd' (hp.mem_iff.1 ha) hc).symm

theorem at_first {a : Ar} (h : Formed a) : a.at (a.s / 4096) = ⟨a.p, a.sh, a.bk, a.off⟩ := by
  have := formed_num h
  unfold Ar.at
  congr 1
  split <;> omega
theorem cov_first {a : Ar} (h : Formed a) : Cov a (a.s / 4096) := by
  have := formed_num h; unfold Cov; omega

/-- The areas that go on: by their pages. -/
theorem goes_of_at {a b : Ar} (ha : Formed a) (hb : Formed b) (he : a.e = b.s) (hx : a.at (a.e / 4096) = b.at (b.s / 4096)) : GoesA a b := by
  have h1 := formed_num ha
  have h2 := formed_num hb
  unfold Ar.at at hx
  injection hx with e1 e2 e3 e4
  refine ⟨ha, hb, he, e1, e2, e3, fun hne => ?_⟩
  rw [if_pos (by omega), if_pos (by omega)] at e4
  omega
theorem goes_at {a b : Ar} (h : GoesA a b) (p : Int) : a.at p = b.at p := by
  have h1 := formed_num h.fa
  have h2 := formed_num h.fb
  obtain ⟨_, _, g1, g2, g3, g4, g5⟩ := h
  unfold Ar.at
  rw [g2, g3, g4]
  congr 1
  split
  · have := g5 (by omega); omega
  · rfl

/-- A list is known by its pages. -/
theorem after_unique : ∀ (l l' : List Ar) (z z' : Ar), After' z l → After' z' l' → (∀ p, tab l p = tab l' p) → l = l' := by
  intro l
  induction l with
  | nil =>
    intro l' z z' h h' ht
    cases l' with
    | nil => rfl
    | cons b r =>
      have := ht (b.s / 4096)
      unfold tab at this
      rw [if_pos (cov_first h'.1.1)] at this
      cases this
  | cons a r ih =>
    intro l' z z' h h' ht
    cases l' with
    | nil =>
      have := ht (a.s / 4096)
      unfold tab at this
      rw [if_pos (cov_first h.1.1)] at this
      cases this
    | cons b r' =>
      have ha := formed_num h.1.1
      have hb := formed_num h'.1.1
      -- where the first one begins
      have first : ∀ {x y : Ar} {u v : List Ar} {q q' : Ar}, After' q (x :: u) → After' q' (y :: v) → (∀ p, tab (x :: u) p = tab (y :: v) p) → y.s ≤ x.s := by
        intro x y u v q q' hx hy htt
        have h1 := htt (x.s / 4096)
        unfold tab at h1
        rw [if_pos (cov_first hx.1.1)] at h1
        by_cases hc : Cov y (x.s / 4096)
        · unfold Cov at hc; have := formed_num hx.1.1; omega
        · rw [if_neg hc] at h1
          obtain ⟨c, hcm, hcc, _⟩ := tab_some h1.symm
          have h2 := after_from hy.2 c hcm
          have h3 := formed_num hy.1.1
          have h4 := formed_num hx.1.1
          unfold Cov at hcc; omega
      have hs : a.s = b.s := by
        have h1 := first h h' ht
        have h2 := first h' h (fun p => (ht p).symm)
        omega
      have hat : a.at (a.s / 4096) = b.at (b.s / 4096) := by
        have h1 := ht (a.s / 4096)
        unfold tab at h1
        rw [if_pos (cov_first h.1.1), if_pos (by rw [hs]; exact cov_first h'.1.1)] at h1
        injection h1 with h1
        rw [h1, hs]
      rw [at_first h.1.1, at_first h'.1.1] at hat
      injection hat with e1 e2 e3 e4
      -- where it ends
      have last : ∀ {x y : Ar} {u v : List Ar} {q q' : Ar}, After' q (x :: u) → After' q' (y :: v) → (∀ p, tab (x :: u) p = tab (y :: v) p) → x.s = y.s → x.p = y.p → x.sh = y.sh → x.bk = y.bk → x.off = y.off → y.e ≤ x.e := by
        intro x y u v q q' hx hy htt g1 g2 g3 g4 g5
        have nx := formed_num hx.1.1
        have ny := formed_num hy.1.1
        rcases Int.lt_or_le x.e y.e with hlt | hle
        · exfalso
          have h1 := htt (x.e / 4096)
          unfold tab at h1
          rw [if_neg (by unfold Cov; omega), if_pos (by unfold Cov; omega)] at h1
          obtain ⟨c, hcm, hcc, hca⟩ := tab_some h1
          cases u with
          | nil => cases hcm
          | cons d u =>
            have hd := hx.2.1
            have nd := formed_num hd.1
            have hcd : d.s = x.e ∧ Cov d (x.e / 4096) ∧ d.at (x.e / 4096) = y.at (x.e / 4096) := by
              rcases List.mem_cons.1 hcm with rfl | hcm
              · refine ⟨?_, hcc, hca⟩
                have := hd.2.1; unfold Cov at hcc; omega
              · have h3 := after_from hx.2.2 c hcm
                have h4 := hd.2.1
                unfold Cov at hcc; omega
            refine hd.2.2 (goes_of_at hx.1.1 hd.1 hcd.1.symm ?_)
            rw [hcd.1, hcd.2.2]
            unfold Ar.at
            rw [g2, g3, g4, g5, g1]
        · exact hle
      have he : a.e = b.e := by
        have h1 := last h h' ht hs e1 e2 e3 e4
        have h2 := last h' h (fun p => (ht p).symm) hs.symm e1.symm e2.symm e3.symm e4.symm
        omega
      obtain rfl : a = b := Ar.ext' hs he e1 e2 e3 e4
      rw [ih r' a a h.2 h'.2 ?_]
      intro p
      by_cases hc : Cov a p
      · rw [tab_none (fun c hcm hcc => by have := after_from h.2 c hcm; unfold Cov at hc hcc; omega), tab_none (fun c hcm hcc => by have := after_from h'.2 c hcm; unfold Cov at hc hcc; omega)]
      · have := ht p
        unfold tab at this
        rwa [if_neg hc, if_neg hc] at this
theorem right_unique {l l' : List Ar} (h : RightL l) (h' : RightL l') (ht : ∀ p, tab l p = tab l' p) : l = l' := after_unique l l' _ _ h h' ht
theorem right_formed {l : List Ar} (h : RightL l) : ∀ a ∈ l, Formed a := after_formed h
theorem right_disj {l : List Ar} (h : RightL l) : l.Pairwise Disj := after_disj h

/-- A right list isn't long. -/
theorem after_len : ∀ {l : List Ar} {z : Ar}, After' z l → 65536 ≤ z.e → z.e % 4096 = 0 → z.e + 4096 * l.length ≤ 2097152 ∨ l = []
  | [], _, _, _, _ => .inr rfl
  | a :: l, z, h, hz, hm => by
    have ha := formed_num h.1.1
    have h1 := h.1.2.1
    rcases after_len (l := l) h.2 (by omega) (by omega) with h2 | rfl
    · left; simp only [List.length_cons]; omega
    · left; simp; omega
theorem right_len {l : List Ar} (h : RightL l) : l.length ≤ 496 := by
  cases l with
  | nil => simp
  | cons a l =>
    have ha := formed_num h.1.1
    rcases after_len (l := l) h.2 (by omega) (by omega) with h2 | rfl
    · simp only [List.length_cons]; omega
    · simp
end Go.Proofs.Ytejkhnphplpkeaa

/-
  Layer 7: what stays of a list, what lies in a range, what is joined. No program is asked.
-/
namespace Go.Proofs.Ytejkhnphplpkeaa
set_option linter.unusedVariables false

/-- Whether a range touches a page. -/
def Touch (lo hi p : Int) : Prop := lo < hi ∧ lo < 4096 * p + 4096 ∧ 4096 * p < hi
instance (lo hi p : Int) : Decidable (Touch lo hi p) := by unfold Touch; infer_instance

/-- The part of an area in a range, if there is one. -/
def partL (a : Ar) (lo hi : Int) : List Ar := if PartA a lo hi then [a.part lo hi] else []
/-- What a range leaves of an area. -/
def outA (lo hi : Int) (a : Ar) : List Ar := if PartA a lo hi then partL a a.s (a.part lo hi).s ++ partL a (a.part lo hi).e a.e else [a]
def insideL (lo hi : Int) (l : List Ar) : List Ar := l.flatMap (fun a => partL a lo hi)
def outsideL (lo hi : Int) (l : List Ar) : List Ar := l.flatMap (outA lo hi)

section
variable {a b : Ar} {lo hi : Int}
theorem part_s (a : Ar) (lo hi : Int) : (a.part lo hi).s = pg (max lo a.s) := rfl
theorem part_e (a : Ar) (lo hi : Int) : (a.part lo hi).e = upg (min hi a.e) := rfl
theorem at_from (a : Ar) (x y : Int) (p : Int) (h : Formed a) (hx : x % 4096 = 0) : ({ a.from x with e := y } : Ar).at p = a.at p := by
  have := formed_num h
  unfold Ar.at
  simp only [Ar.from]
  congr 1
  by_cases hb : 0 < a.bk
  · refine (if_pos hb).trans ((?_ : _ = _).trans (if_pos hb).symm)
    split <;> omega
  · exact (if_neg hb).trans (if_neg hb).symm
/-- A part: where it is, that it is formed, which pages it has, and what they have. -/
theorem part_is (h : PartA a lo hi) : Formed (a.part lo hi) ∧ a.s ≤ (a.part lo hi).s ∧ (a.part lo hi).e ≤ a.e ∧ (∀ p, Cov (a.part lo hi) p ↔ Cov a p ∧ Touch lo hi p) ∧ (∀ p, (a.part lo hi).at p = a.at p) := by
  obtain ⟨hf, hlt⟩ := h
  have hn := formed_num hf
  have h1 := pg_le (max lo a.s)
  have h2 := upg_le (min hi a.e)
  have e1 : a.part lo hi = { a.from (pg (max lo a.s)) with e := upg (min hi a.e) } := rfl
  refine ⟨?_, ?_, ?_, ?_, ?_⟩
  · rw [e1]; exact formed_sub hf (by omega) (by omega) (by omega) h1.2.2 h2.2.2
  · rw [part_s]; omega
  · rw [part_e]; omega
  · intro p
    unfold Cov Touch
    rw [part_s, part_e]
    omega
  · intro p; rw [e1]; exact at_from _ _ _ _ hf h1.2.2
theorem partL_mem (hb : b ∈ partL a lo hi) : PartA a lo hi ∧ b = a.part lo hi := by
  unfold partL at hb
  by_cases h : PartA a lo hi
  · rw [if_pos h] at hb; exact ⟨h, by simpa using hb⟩
  · rw [if_neg h] at hb; cases hb
/-- A page that a range touches in an area is in its part. -/
theorem part_cov (hf : Formed a) {p : Int} (hc : Cov a p) (ht : Touch lo hi p) : PartA a lo hi := by
  have hn := formed_num hf
  refine ⟨hf, ?_⟩
  unfold Cov at hc; unfold Touch at ht
  omega

/-- What is left of an area. -/
theorem outA_is (hf : Formed a) (hb : b ∈ outA lo hi a) : Formed b ∧ a.s ≤ b.s ∧ b.e ≤ a.e ∧ (∀ p, Cov b p → Cov a p ∧ ¬ Touch lo hi p) ∧ (∀ p, b.at p = a.at p) := by
  unfold outA at hb
  by_cases h : PartA a lo hi
  · rw [if_pos h] at hb
    obtain ⟨p1, p2, p3, p4, p5⟩ := part_is h
    rcases List.mem_append.1 hb with hb | hb
    · obtain ⟨k, rfl⟩ := partL_mem hb
      obtain ⟨q1, q2, q3, q4, q5⟩ := part_is k
      refine ⟨q1, q2, q3, fun p hp => ?_, q5⟩
      obtain ⟨c1, c2⟩ := (q4 p).1 hp
      refine ⟨c1, fun ht => ?_⟩
      have := (p4 p).2 ⟨c1, ht⟩
      have np := formed_num p1
      unfold Cov at this; unfold Touch at c2; omega
    · obtain ⟨k, rfl⟩ := partL_mem hb
      obtain ⟨q1, q2, q3, q4, q5⟩ := part_is k
      refine ⟨q1, q2, q3, fun p hp => ?_, q5⟩
      obtain ⟨c1, c2⟩ := (q4 p).1 hp
      refine ⟨c1, fun ht => ?_⟩
      have := (p4 p).2 ⟨c1, ht⟩
      have np := formed_num p1
      unfold Cov at this; unfold Touch at c2; omega
  · rw [if_neg h] at hb
    obtain rfl : b = a := by simpa using hb
    exact ⟨hf, Int.le_refl _, Int.le_refl _, fun p hp => ⟨hp, fun ht => h (part_cov hf hp ht)⟩, fun _ => rfl⟩
/-- A page of an area that a range doesn't touch is left. -/
theorem outA_cov (hf : Formed a) {p : Int} (hc : Cov a p) (ht : ¬ Touch lo hi p) : ∃ b ∈ outA lo hi a, Cov b p := by
  unfold outA
  by_cases h : PartA a lo hi
  · rw [if_pos h]
    obtain ⟨p1, p2, p3, p4, p5⟩ := part_is h
    have np := formed_num p1
    have na := formed_num hf
    have hn : ¬ Cov (a.part lo hi) p := fun hx => ht ((p4 p).1 hx).2
    rcases Int.lt_or_le (4096 * p) (a.part lo hi).s with hl | hl
    · have hk : Touch a.s (a.part lo hi).s p := by unfold Cov at hc; unfold Touch; omega
      have k := part_cov hf hc hk
      refine ⟨a.part a.s (a.part lo hi).s, List.mem_append.2 (.inl ?_), ((part_is k).2.2.2.1 p).2 ⟨hc, hk⟩⟩
      unfold partL; rw [if_pos k]; simp
    · have hk : Touch (a.part lo hi).e a.e p := by unfold Cov at hc hn; unfold Touch; omega
      have k := part_cov hf hc hk
      refine ⟨a.part (a.part lo hi).e a.e, List.mem_append.2 (.inr ?_), ((part_is k).2.2.2.1 p).2 ⟨hc, hk⟩⟩
      unfold partL; rw [if_pos k]; simp
  · rw [if_neg h]; exact ⟨a, by simp, hc⟩
end

/-- What stays of a list: formed, apart, and just the pages that aren't touched. -/
theorem outside_formed {l : List Ar} (hf : ∀ a ∈ l, Formed a) (lo hi : Int) : ∀ b ∈ outsideL lo hi l, Formed b := by
  intro b hb
  obtain ⟨a, ha, hb⟩ := List.mem_flatMap.1 hb
  exact (outA_is (hf a ha) hb).1
theorem inside_formed {l : List Ar} (lo hi : Int) : ∀ b ∈ insideL lo hi l, Formed b := by
  intro b hb
  obtain ⟨a, ha, hb⟩ := List.mem_flatMap.1 hb
  obtain ⟨k, rfl⟩ := partL_mem hb
  exact (part_is k).1

/-- z' may stand wherever z may. -/
def Lax (z' z : Ar) : Prop := z'.e ≤ z.e ∧ ∀ b, Formed b → z.e ≤ b.s → ¬ GoesA z b → ¬ GoesA z' b
theorem Lax.refl (z : Ar) : Lax z z := ⟨Int.le_refl _, fun _ _ _ h => h⟩
theorem after_app : ∀ {u v : List Ar} {z : Ar}, After' z (u ++ v) ↔ After' z u ∧ After' (u.getLastD z) v
  | [], v, z => by simp [After']
  | a :: u, v, z => by
    simp only [List.cons_append, After']
    rw [after_app (u := u)]
    simp only [List.getLastD_cons]
    exact ⟨fun ⟨h1, h2, h3⟩ => ⟨⟨h1, h2⟩, h3⟩, fun ⟨⟨h1, h2⟩, h3⟩ => ⟨h1, h2, h3⟩⟩

/-- A piece of an area that ends with it goes on where that goes on. -/
theorem lax_piece {a b : Ar} (hf : Formed a) (hb : Formed b) (hs : a.s ≤ b.s) (he : b.e ≤ a.e) (hat : ∀ p, b.at p = a.at p) : Lax b a := by
  refine ⟨he, fun c hc h1 h2 h3 => ?_⟩
  have hbe : b.e = a.e := by have := h3.at'; omega
  refine h2 (goes_of_at hf hc (by have := h3.at'; omega) ?_)
  rw [← hat, ← hbe, goes_at h3, h3.at']
theorem ok_piece {z' z a b : Ar} (hz : Lax z' z) (ho : Ok z a) (hb : Formed b) (hs : a.s ≤ b.s) (hat : ∀ p, b.at p = a.at p) : Ok z' b := by
  have h1 := hz.1
  have h2 := ho.2.1
  refine ⟨hb, by omega, fun hg => ?_⟩
  have h3 := hg.at'
  refine hz.2 a ho.1 ho.2.1 ho.2.2 (goes_of_at hg.fa ho.1 (by omega) ?_)
  rw [goes_at hg, hat]
  congr 1
  omega

theorem outside_after : ∀ {l : List Ar} {z z' : Ar} (lo hi : Int), Lax z' z → After' z l → After' z' (outsideL lo hi l)
  | [], _, _, _, _, _, _ => trivial
  | a :: l, z, z', lo, hi, hz, h => by
    obtain ⟨ho, hr⟩ := h
    have hf := ho.1
    have na := formed_num hf
    have skip : After' z' (outsideL lo hi l) := outside_after lo hi ⟨by have := hz.1; have := ho.2.1; omega, fun b hb h1 h2 h3 => by have := h3.at'; have := hz.1; have := ho.2.1; omega⟩ hr
    have one : ∀ x, Formed x → a.s ≤ x.s → x.e ≤ a.e → (∀ p, x.at p = a.at p) → After' z' (x :: outsideL lo hi l) := fun x h1 h2 h3 h4 =>
      ⟨ok_piece hz ho h1 h2 h4, outside_after lo hi (lax_piece hf h1 h2 h3 h4) hr⟩
    have two : ∀ x y, Formed x → a.s ≤ x.s → (∀ p, x.at p = a.at p) → Formed y → a.s ≤ y.s → y.e ≤ a.e → (∀ p, y.at p = a.at p) → x.e < y.s → After' z' (x :: y :: outsideL lo hi l) := fun x y h1 h2 h4 k1 k2 k3 k4 hxy =>
      ⟨ok_piece hz ho h1 h2 h4, ⟨k1, by omega, fun g => by have := g.at'; omega⟩, outside_after lo hi (lax_piece hf k1 k2 k3 k4) hr⟩
    show After' z' (outA lo hi a ++ outsideL lo hi l)
    unfold outA
    by_cases hp : PartA a lo hi
    · rw [if_pos hp]
      obtain ⟨p1, p2, p3, p4, p5⟩ := part_is hp
      have np := formed_num p1
      unfold partL
      by_cases k1 : PartA a a.s (a.part lo hi).s
      · by_cases k2 : PartA a (a.part lo hi).e a.e
        · rw [if_pos k1, if_pos k2]
          obtain ⟨q1, q2, q3, q4, q5⟩ := part_is k1
          obtain ⟨r1, r2, r3, r4, r5⟩ := part_is k2
          refine two _ _ q1 q2 q5 r1 r2 r3 r5 ?_
          generalize (a.part lo hi).s = S at *
          generalize (a.part lo hi).e = E at *
          rw [part_e, part_s, upg_self (by omega), pg_self (by omega)]
          omega
        · rw [if_pos k1, if_neg k2]
          obtain ⟨q1, q2, q3, q4, q5⟩ := part_is k1
          exact one _ q1 q2 q3 q5
      · by_cases k2 : PartA a (a.part lo hi).e a.e
        · rw [if_neg k1, if_pos k2]
          obtain ⟨r1, r2, r3, r4, r5⟩ := part_is k2
          exact one _ r1 r2 r3 r5
        · rw [if_neg k1, if_neg k2]
          exact skip
    · rw [if_neg hp]
      exact one a hf (Int.le_refl _) (Int.le_refl _) (fun _ => rfl)
theorem outside_right {l : List Ar} (lo hi : Int) (h : RightL l) : RightL (outsideL lo hi l) := outside_after lo hi (Lax.refl _) h
theorem outside_tab {l : List Ar} (lo hi : Int) (h : RightL l) (p : Int) : tab (outsideL lo hi l) p = if Touch lo hi p then none else tab l p := by
  have hf := right_formed h
  have hd := right_disj (outside_right lo hi h)
  by_cases ht : Touch lo hi p
  · rw [if_pos ht]
    refine tab_none fun b hb hc => ?_
    obtain ⟨a, ha, hb⟩ := List.mem_flatMap.1 hb
    exact ((outA_is (hf a ha) hb).2.2.2.1 p hc).2 ht
  · rw [if_neg ht]
    cases hl : tab l p with
    | none =>
      refine tab_none fun b hb hc => ?_
      obtain ⟨a, ha, hb⟩ := List.mem_flatMap.1 hb
      exact tab_no hl a ha ((outA_is (hf a ha) hb).2.2.2.1 p hc).1
    | some x =>
      obtain ⟨a, ha, hc, rfl⟩ := tab_some hl
      obtain ⟨b, hb, hbc⟩ := outA_cov (hf a ha) hc ht
      rw [tab_of hd (List.mem_flatMap.2 ⟨a, ha, hb⟩) hbc, (outA_is (hf a ha) hb).2.2.2.2]
end Go.Proofs.Ytejkhnphplpkeaa

/-
  Layer 7: areas in order, joined in one pass; lists by pages; how many pages there are. No program is asked.
-/
namespace Go.Proofs.Ytejkhnphplpkeaa
set_option linter.unusedVariables false

/-- One step of the pass. -/
def joinF (out : List Ar) (a : Ar) : List Ar :=
  match out.getLast? with
  | none => [a]
  | some z => if GoesA z a then out.dropLast ++ [{ z with e := a.e }] else out ++ [a]
def joinL (l : List Ar) : List Ar := l.foldl joinF []

/-- In order, apart. -/
def Sorted (l : List Ar) : Prop := l.Pairwise (fun a b => a.e ≤ b.s)

theorem last_split {out : List Ar} {z : Ar} (h : out.getLast? = some z) : out = out.dropLast ++ [z] := by
  obtain ⟨ne, e⟩ := List.getLast?_eq_some_iff.1 h
  subst e; simp
theorem goes_formed {z a : Ar} (h : GoesA z a) : Formed { z with e := a.e } := by
  have h1 := formed_num h.fa
  have h2 := formed_num h.fb
  have h3 := h.at'
  have h4 := h.bk
  have h5 := h.off
  refine (formed_iff _).2 ?_
  simp only
  refine ⟨⟨by omega, by omega, by omega, by omega, by omega⟩, ⟨by omega, by omega, by omega, by omega⟩, by omega, by omega, by omega, ?_⟩
  by_cases hb : z.bk = 0
  · have := h1.2.2.2.2.2.2.2.2.2.2.2.1 hb; omega
  · have := h5 hb; omega
theorem goes_cov {z a : Ar} (h : GoesA z a) (p : Int) : Cov { z with e := a.e } p ↔ Cov z p ∨ Cov a p := by
  have h1 := formed_num h.fa
  have h2 := formed_num h.fb
  have h3 := h.at'
  unfold Cov; simp only; omega
theorem at_end (z : Ar) (x p : Int) : ({ z with e := x } : Ar).at p = z.at p := rfl
theorem ok_end {q z : Ar} {x : Int} (h : Ok q z) (hf : Formed { z with e := x }) : Ok q { z with e := x } := by
  refine ⟨hf, h.2.1, fun g => h.2.2 ⟨g.fa, h.1, g.at', g.p, g.sh, g.bk, g.off⟩⟩
theorem tab_app (l l' : List Ar) (p : Int) : tab (l ++ l') p = (tab l p).or (tab l' p) := by
  induction l with
  | nil => simp [tab]
  | cons a l ih =>
    simp only [List.cons_append, tab]
    by_cases hc : Cov a p
    · rw [if_pos hc, if_pos hc]; rfl
    · rw [if_neg hc, if_neg hc, ih]
/-- What the pass keeps. -/
structure Joined (out pre : List Ar) : Prop where
  right : RightL out
  tab : ∀ p, tab out p = tab pre p
  upto : ∀ a : Ar, (∀ b ∈ pre, b.e ≤ a.s) → ∀ z ∈ out, z.e ≤ a.s
theorem joined_step {out pre : List Ar} {a : Ar} (h : Joined out pre) (ha : Formed a) (hs : ∀ b ∈ pre, b.e ≤ a.s) : Joined (joinF out a) (pre ++ [a]) := by
  have hup := h.upto a hs
  have na := formed_num ha
  unfold joinF
  cases hl : out.getLast? with
  | none =>
    obtain rfl : out = [] := List.getLast?_eq_none_iff.1 hl
    refine ⟨⟨ok_nil ha, trivial⟩, fun p => ?_, fun b hb z hz => ?_⟩
    · rw [tab_app, ← h.tab]; rfl
    · obtain rfl : z = a := by simpa using hz
      exact hb z (by simp)
  | some z =>
    have ho := last_split hl
    have hr := h.right
    unfold RightL at hr
    rw [ho, after_app] at hr
    have hzm : z ∈ out := by rw [ho]; simp
    by_cases hg : GoesA z a
    · simp only [if_pos hg]
      have hf := goes_formed hg
      have hR : RightL (out.dropLast ++ [{ z with e := a.e }]) := after_app.2 ⟨hr.1, ok_end hr.2.1 hf, trivial⟩
      refine ⟨hR, fun p => ?_, fun b hb x hx => ?_⟩
      · rw [tab_app pre, ← h.tab, ho]
        simp only [List.dropLast_concat]
        rw [tab_app, tab_app]
        simp only [tab]
        by_cases hz : Cov z p
        · rw [if_pos ((goes_cov hg p).2 (.inl hz)), if_pos hz, at_end]
          cases tab out.dropLast p <;> simp
        · by_cases hc : Cov a p
          · rw [if_pos ((goes_cov hg p).2 (.inr hc)), if_pos hc, if_neg hz, at_end, goes_at hg]
            cases tab out.dropLast p <;> simp
          · rw [if_neg (fun h => ((goes_cov hg p).1 h).elim hz hc), if_neg hc, if_neg hz]
            cases tab out.dropLast p <;> simp
      · rcases List.mem_append.1 hx with hx | hx
        · have h1 : x ∈ out := (List.dropLast_sublist out).subset hx
          have := hup x h1
          have := hb a (by simp)
          omega
        · obtain rfl : x = { z with e := a.e } := by simpa using hx
          exact hb a (by simp)
    · simp only [if_neg hg]
      refine ⟨?_, fun p => ?_, fun b hb x hx => ?_⟩
      · unfold RightL
        refine after_app.2 ⟨h.right, ⟨ha, ?_, ?_⟩, trivial⟩
        · rw [List.getLastD_eq_getLast?, hl]; exact hup z hzm
        · rw [List.getLastD_eq_getLast?, hl]; exact hg
      · rw [tab_app, tab_app, h.tab]
      · rcases List.mem_append.1 hx with hx | hx
        · have := hup x hx
          have := hb a (by simp)
          omega
        · obtain rfl : x = a := by simpa using hx
          exact hb x (by simp)
theorem joined_all {l : List Ar} (hf : ∀ a ∈ l, Formed a) (hs : Sorted l) : Joined (joinL l) l := by
  have key : ∀ (r pre out : List Ar), Joined out pre → (∀ a ∈ r, Formed a) → Sorted (pre ++ r) → Joined (r.foldl joinF out) (pre ++ r) := by
    intro r
    induction r with
    | nil => intro pre out h _ _; simpa using h
    | cons a r ih =>
      intro pre out h hf hs
      have hp := List.pairwise_append.1 hs
      have := ih (pre ++ [a]) (joinF out a) (joined_step h (hf a (by simp)) (fun b hb => hp.2.2 b hb a (by simp))) (fun b hb => hf b (by simp [hb])) (by simpa using hs)
      simpa using this
  simpa [joinL] using key l [] [] ⟨trivial, fun _ => rfl, fun _ _ z hz => by cases hz⟩ hf (by simpa using hs)

/-- Areas in order of where they begin, apart, are in order. -/
theorem sorted_of {l : List Ar} (hf : ∀ a ∈ l, Formed a) (hd : l.Pairwise Disj) (hs : l.Pairwise (fun a b => a.s ≤ b.s)) : Sorted l := by
  have h := hd.and hs
  refine (List.Pairwise.and_mem.1 h).imp ?_
  rintro a b ⟨ha, hb, hd, hs⟩
  have na := formed_num (hf a ha)
  have nb := formed_num (hf b hb)
  rcases Int.lt_or_le b.s a.e with hlt | hle
  · exact absurd (cov_first (hf b hb)) (hd (b.s / 4096) (by unfold Cov; omega))
  · exact hle

/-- What is joined, whatever order it had: right, with the same pages. -/
theorem joined_perm {l l' : List Ar} (hf : ∀ a ∈ l, Formed a) (hd : l.Pairwise Disj) (hp : l.Perm l') (hs : l'.Pairwise (fun a b => a.s ≤ b.s)) : RightL (joinL l') ∧ ∀ p, tab (joinL l') p = tab l p := by
  have hf' : ∀ a ∈ l', Formed a := fun a ha => hf a (hp.mem_iff.2 ha)
  have hd' : l'.Pairwise Disj := hp.pairwise hd (fun h => h.symm)
  have h := joined_all hf' (sorted_of hf' hd' hs)
  exact ⟨h.right, fun p => (h.tab p).trans (tab_perm hd hp p).symm⟩

/-! What is put, and set. -/
theorem put_apart {l : List Ar} {a : Ar} (h : RightL l) (ha : Formed a) : (∀ b ∈ outsideL a.s a.e l ++ [a], Formed b) ∧ (outsideL a.s a.e l ++ [a]).Pairwise Disj ∧
    ∀ p, tab (outsideL a.s a.e l ++ [a]) p = if Cov a p then some (a.at p) else tab l p := by
  have hr := outside_right a.s a.e h
  have na := formed_num ha
  have ht : ∀ p, Touch a.s a.e p ↔ Cov a p := fun p => by unfold Touch Cov; omega
  refine ⟨fun b hb => ?_, ?_, fun p => ?_⟩
  · rcases List.mem_append.1 hb with hb | hb
    · exact right_formed hr b hb
    · obtain rfl : b = a := by simpa using hb
      exact ha
  · refine List.pairwise_append.2 ⟨right_disj hr, by simp, fun b hb c hc => ?_⟩
    obtain rfl : c = a := by simpa using hc
    obtain ⟨x, hx, hb⟩ := List.mem_flatMap.1 hb
    exact fun p hp hq => ((outA_is (right_formed h x hx) hb).2.2.2.1 p hp).2 ((ht p).2 hq)
  · rw [tab_app, outside_tab _ _ h]
    by_cases hc : Cov a p
    · rw [if_pos ((ht p).2 hc), if_pos hc]; simp [tab, hc]
    · rw [if_neg (fun h => hc ((ht p).1 h)), if_neg hc]; simp [tab, hc]
def Ar.prot (pr : Int) (a : Ar) : Ar := { a with p := pr }
theorem prot_formed {a : Ar} {pr : Int} (h : Formed a) (h0 : 0 ≤ pr) (h7 : pr ≤ 7) : Formed (a.prot pr) := by
  have := formed_num h
  refine (formed_iff _).2 ?_
  simp only [Ar.prot]; omega
def setL (lo hi pr : Int) (l : List Ar) : List Ar := outsideL lo hi l ++ (insideL lo hi l).map (Ar.prot pr)
theorem set_apart {l : List Ar} {lo hi pr : Int} (h : RightL l) (h0 : 0 ≤ pr) (h7 : pr ≤ 7) : (∀ b ∈ setL lo hi pr l, Formed b) ∧ (setL lo hi pr l).Pairwise Disj ∧
    ∀ p, tab (setL lo hi pr l) p = if Touch lo hi p then (tab l p).map (fun x => { x with p := pr }) else tab l p := by
  have hr := outside_right lo hi h
  have hf := right_formed h
  have inn : ∀ c ∈ (insideL lo hi l).map (Ar.prot pr), ∃ a ∈ l, PartA a lo hi ∧ c = (a.part lo hi).prot pr := fun c hc => by
    obtain ⟨x, hx, rfl⟩ := List.mem_map.1 hc
    obtain ⟨a, ha, hx⟩ := List.mem_flatMap.1 hx
    obtain ⟨k, rfl⟩ := partL_mem hx
    exact ⟨a, ha, k, rfl⟩
  have hD : (setL lo hi pr l).Pairwise Disj := by
    refine List.pairwise_append.2 ⟨right_disj hr, ?_, fun b hb c hc => ?_⟩
    · rw [List.pairwise_map]
      have hd := right_disj h
      clear hr hf inn h
      induction l with
      | nil => exact .nil
      | cons a l ih =>
        obtain ⟨d1, d2⟩ := List.pairwise_cons.1 hd
        refine List.pairwise_append.2 ⟨?_, ih d2, fun x hx y hy => ?_⟩
        · show List.Pairwise _ (partL a lo hi)
          unfold partL
          by_cases k : PartA a lo hi
          · rw [if_pos k]; simp
          · rw [if_neg k]; exact .nil
        · obtain ⟨k, rfl⟩ := partL_mem hx
          obtain ⟨b, hb, hy⟩ := List.mem_flatMap.1 hy
          obtain ⟨k', rfl⟩ := partL_mem hy
          exact fun p hp hq => d1 b hb p (((part_is k).2.2.2.1 p).1 hp).1 (((part_is k').2.2.2.1 p).1 hq).1
    · obtain ⟨a, ha, k, rfl⟩ := inn c hc
      obtain ⟨x, hx, hb⟩ := List.mem_flatMap.1 hb
      exact fun p hp hq => ((outA_is (hf x hx) hb).2.2.2.1 p hp).2 (((part_is k).2.2.2.1 p).1 hq).2
  refine ⟨fun b hb => ?_, hD, fun p => ?_⟩
  · rcases List.mem_append.1 hb with hb | hb
    · exact right_formed hr b hb
    · obtain ⟨a, ha, k, rfl⟩ := inn b hb
      exact prot_formed (part_is k).1 h0 h7
  · unfold setL
    rw [tab_app, outside_tab _ _ h]
    by_cases ht : Touch lo hi p
    · rw [if_pos ht, if_pos ht]
      cases hl : tab l p with
      | none =>
        rw [tab_none]; rfl
        intro c hc hp
        obtain ⟨a, ha, k, rfl⟩ := inn c hc
        exact tab_no hl a ha (((part_is k).2.2.2.1 p).1 hp).1
      | some x =>
        obtain ⟨a, ha, hc, rfl⟩ := tab_some hl
        have k := part_cov (hf a ha) hc ht
        have hm : (a.part lo hi).prot pr ∈ (insideL lo hi l).map (Ar.prot pr) := List.mem_map_of_mem (List.mem_flatMap.2 ⟨a, ha, by unfold partL; rw [if_pos k]; simp⟩)
        rw [tab_of (List.pairwise_append.1 hD).2.1 hm (((part_is k).2.2.2.1 p).2 ⟨hc, ht⟩)]
        show some (((a.part lo hi).prot pr).at p) = some _
        have e := (part_is k).2.2.2.2 p
        rw [← e]
        rfl
    · rw [if_neg ht, if_neg ht, tab_none (l := (insideL lo hi l).map (Ar.prot pr))]
      · cases tab l p <;> rfl
      · intro c hc hp
        obtain ⟨a, ha, k, rfl⟩ := inn c hc
        exact ht (((part_is k).2.2.2.1 p).1 hp).2

/-! How many bytes the areas have. -/
def sumL : List Ar → Int
  | [] => 0
  | a :: l => (a.e - a.s) + sumL l
/-- How many of the first n pages are there. -/
def cntT (T : Int → Option At) : Nat → Int
  | 0 => 0
  | n + 1 => cntT T n + if (T n).isSome then 1 else 0
theorem cnt_cons {a : Ar} {l : List Ar} (ha : Formed a) (hd : ∀ b ∈ l, Disj a b) : ∀ n : Nat, cntT (tab (a :: l)) n = (max (min (n : Int) (a.e / 4096)) (a.s / 4096) - a.s / 4096) + cntT (tab l) n
  | 0 => by have := formed_num ha; simp [cntT]; omega
  | n + 1 => by
    have na := formed_num ha
    simp only [cntT]
    rw [cnt_cons ha hd n]
    by_cases hc : Cov a n
    · have hn : tab l n = none := tab_none fun b hb hb' => hd b hb n hc hb'
      rw [hn]
      simp only [tab, if_pos hc]
      unfold Cov at hc
      simp; omega
    · simp only [tab, if_neg hc]
      unfold Cov at hc
      push_cast
      omega
theorem sum_cnt : ∀ {l : List Ar}, (∀ a ∈ l, Formed a) → l.Pairwise Disj → sumL l = 4096 * cntT (tab l) 512
  | [], _, _ => by
    have : ∀ n, cntT (tab []) n = 0 := fun n => by induction n with
      | zero => rfl
      | succ n ih => rw [cntT, ih]; rfl
    simp [sumL, this]
  | a :: l, hf, hd => by
    have na := formed_num (hf a (by simp))
    rw [cnt_cons (hf a (by simp)) (List.pairwise_cons.1 hd).1, sumL, sum_cnt (fun b hb => hf b (by simp [hb])) (List.pairwise_cons.1 hd).2]
    omega
theorem sum_same {l l' : List Ar} (hf : ∀ a ∈ l, Formed a) (hd : l.Pairwise Disj) (hf' : ∀ a ∈ l', Formed a) (hd' : l'.Pairwise Disj) (ht : ∀ p, tab l p = tab l' p) : sumL l = sumL l' := by
  rw [sum_cnt hf hd, sum_cnt hf' hd', show tab l = tab l' from funext ht]
end Go.Proofs.Ytejkhnphplpkeaa

/-
  Layer 7: whether a list is right: a contract for each call.
-/
namespace Go.Proofs.Ytejkhnphplpkeaa
open Go.ChangeShapes Go.WideShapes Go.ChangeAt Go.RowKit Go.Shelf
set_option linter.unusedVariables false

/-- What the closure has: the area behind it, the one that it is handed. -/
structure Last (w wr : World) (q : Nat) (z a : Ar) : Prop where
  lz : ArIn wr q z
  la : ArIn wr w.heap.size a
  lne : q < w.heap.size
  only : Only (fun k => k = q) w wr
theorem Last.new {w : World} {q : Nat} {z : Ar} (h : ArIn w q z) (a : Ar) : Last w (w.alloc (.cells a.cells 74)) q z a :=
  ⟨Whole.alloc h _, Whole.new _ _ _, Whole.lt h, (Only.refl _ _).alloc _⟩
theorem Last.still {w wr w' : World} {q : Nat} {z a : Ar} (h : Last w wr q z a) (hb : Below wr.heap.size wr w') : Last w w' q z a :=
  ⟨h.lz.still hb (Whole.lt h.lz), h.la.still hb (Whole.lt h.la), h.lne, h.only.trans ((Only.of_below hb _).mono (fun _ _ h => h))⟩
theorem Last.put {w wr : World} {q : Nat} {z a : Ar} (h : Last w wr q z a) : 
    ArIn ((((((wr.setCell ⟨q, 0, none⟩ (.int .i64 a.s)).setCell ⟨q, 1, none⟩ (.int .i64 a.e)).setCell ⟨q, 2, none⟩ (.int .i64 a.p)).setCell ⟨q, 3, none⟩ (.bool a.sh)).setCell ⟨q, 4, none⟩ (.int .i64 a.bk)).setCell ⟨q, 5, none⟩ (.int .i64 a.off)) q a ∧
    Only (fun k => k = q) w ((((((wr.setCell ⟨q, 0, none⟩ (.int .i64 a.s)).setCell ⟨q, 1, none⟩ (.int .i64 a.e)).setCell ⟨q, 2, none⟩ (.int .i64 a.p)).setCell ⟨q, 3, none⟩ (.bool a.sh)).setCell ⟨q, 4, none⟩ (.int .i64 a.bk)).setCell ⟨q, 5, none⟩ (.int .i64 a.off)) :=
  ⟨put6 h.lz _ _ _ _ _ _, (((((h.only.setCell (.inl rfl) _).setCell (.inl rfl) _).setCell (.inl rfl) _).setCell (.inl rfl) _).setCell (.inl rfl) _).setCell (.inl rfl) _⟩
/-- All that the walk reads. -/
structure LastCells (wr : World) (q qa : Nat) (z a : Ar) : Prop where
  cz : wr.cell? ⟨q, 0, none⟩ = some (.int .i64 z.s) ∧ wr.cell? ⟨q, 1, none⟩ = some (.int .i64 z.e) ∧ wr.cell? ⟨q, 2, none⟩ = some (.int .i64 z.p) ∧ wr.cell? ⟨q, 3, none⟩ = some (.bool z.sh) ∧ wr.cell? ⟨q, 4, none⟩ = some (.int .i64 z.bk) ∧ wr.cell? ⟨q, 5, none⟩ = some (.int .i64 z.off)
  ca : wr.cell? ⟨qa, 0, none⟩ = some (.int .i64 a.s) ∧ wr.cell? ⟨qa, 1, none⟩ = some (.int .i64 a.e) ∧ wr.cell? ⟨qa, 2, none⟩ = some (.int .i64 a.p) ∧ wr.cell? ⟨qa, 3, none⟩ = some (.bool a.sh) ∧ wr.cell? ⟨qa, 4, none⟩ = some (.int .i64 a.bk) ∧ wr.cell? ⟨qa, 5, none⟩ = some (.int .i64 a.off)
  cf : ∀ i, wr.frozen? ⟨q, i, none⟩ = false
theorem Last.cells {w wr : World} {q : Nat} {z a : Ar} (h : Last w wr q z a) : LastCells wr q w.heap.size z a := ⟨h.lz.cs, h.la.cs, h.lz.fr⟩

set_option maxHeartbeats 2000000 in
theorem wrong_any (z a : Ar) (q : Nat) (w : World) (hq : ArIn w q z) : Calls Try.prog 58 #[a.v, .pointer (some ⟨q, 0, none⟩)] w fun e w' =>
    e = .returned (.bool (!decide (Ok z a))) ∧ ArIn w' q a ∧ Only (fun k => k = q) w w' := by
  have X1 := Lib.hid (formed_any a)
  have X2 := Lib.hid (goes_any z a)
  have L0 := Lib.hid (Last.new hq a)
  have HR : Hid (decide (Ok z a) = (decide (Formed a) && (decide (z.e ≤ a.s) && !decide (GoesA z a)))) := Lib.hid (by rw [Bool.eq_iff_iff, decide_eq_true_iff]; simp [Ok])
  rw [HR.out]
  clear HR
  generalize decide (Formed a) = r1 at *
  generalize decide (GoesA z a) = r2 at *
  clear hq
  obtain ⟨z0, z1, z2, z3, z4, z5⟩ := z
  obtain ⟨a0, a1, a2, a3, a4, a5⟩ := a
  unfold Ar.v Ar.cells at *
  simp only at X1 X2 L0 ⊢
  go_enter Try.func58, Try.ntmps58
  go_wp2_with fail
  refine (X1.out _).mono ?_
  rintro e w1 ⟨rfl, hb1⟩
  have L1 := Lib.hid (L0.out.still hb1)
  obtain ⟨⟨y0, y1, y2, y3, y4, y5⟩, ⟨c0, c1, c2, c3, c4, c5⟩, cf⟩ := L1.out.cells
  simp only at y0 y1 y2 y3 y4 y5 c0 c1 c2 c3 c4 c5
  clear hb1 L0
  cases r1 with
  | false =>
    go_wp2
    go_ret
    exact ⟨rfl, L1.out.put⟩
  | true =>
    by_cases hle : z1 ≤ a0
    · go_wp2_with fail
      refine (X2.out _).mono ?_
      rintro e w2 ⟨rfl, hb2⟩
      have L2 := Lib.hid (L1.out.still hb2)
      clear y0 y1 y2 y3 y4 y5 c0 c1 c2 c3 c4 c5 cf L1 hb2
      obtain ⟨⟨y0, y1, y2, y3, y4, y5⟩, ⟨c0, c1, c2, c3, c4, c5⟩, cf⟩ := L2.out.cells
      simp only at y0 y1 y2 y3 y4 y5 c0 c1 c2 c3 c4 c5
      go_wp2
      go_ret
      refine ⟨?_, L2.out.put⟩
      simp [hle]
    · go_wp2
      go_ret
      refine ⟨?_, L1.out.put⟩
      simp [hle]

/-- Where the first one stands that may not stand behind the one ahead of it. -/
def firstWrong : Ar → List Ar → Option Nat
  | _, [] => none
  | z, a :: l => if Ok z a then (firstWrong a l).map (· + 1) else some 0
theorem firstWrong_none : ∀ (z : Ar) (l : List Ar), firstWrong z l = none ↔ After' z l
  | _, [] => by simp [firstWrong, After']
  | z, a :: l => by
    unfold firstWrong After'
    by_cases h : Ok z a
    · rw [if_pos h]; simp [firstWrong_none a l, h]
    · rw [if_neg h]; simp [h]
/-- Right's own variable, from w on. -/
structure LastIn (w wr : World) (q : Nat) (z : Ar) : Prop where
  lz : ArIn wr q z
  only : Only (fun k => k = q) w wr
theorem after_take {z : Ar} {l : List Ar} : ∀ {k : Nat} (hk : k < l.length), After' z (l.take k) → ¬ Ok ((l.take k).getLastD z) l[k] → ¬ After' z l := by
  intro k hk h1 h2 h3
  rw [← List.take_append_drop k l, after_app] at h3
  rw [List.drop_eq_getElem_cons hk] at h3
  exact h2 h3.2.1

set_option maxRecDepth 100000 in
set_option maxHeartbeats 2000000 in
theorem indexWrong_any (q : Nat) (A : Option Addr) (l : List Ar) (cap : Nat) (hl : l.length ≤ 100000) (w : World) (hq : ArIn w q Ar.nil) (hA : Areas q w A l) :
    Calls Try.prog 61 #[.slice A l.length cap, .func (.func 58) #[] #[.pointer (some ⟨q, 0, none⟩)]] w fun e w' =>
    (∃ i : Int, e = .returned (.int .i64 i) ∧ (i < 0 ↔ RightL l)) ∧ Only (fun k => k = q) w w' := by
  have eg : ∀ args w, (callFunc 58 args).run Try.prog w = .ok (.enter 58 args) w := enters_of Try.func58 (by kernel_rfl) rfl
  have X := Lib.hid wrong_any
  generalize hL : l.length = len at *
  have HL := Lib.hid hL
  have HA := Lib.hid hA
  have HQ := Lib.hid hq
  clear hL hA hq
  go_enter Try.func61, Try.ntmps61
  go_wp2_with fail
  go_loopg [5, 8] len (fun g _ s8 wr => ∃ k : Nat, k ≤ len ∧ len - k ≤ g ∧ s8 = .int .i64 k ∧ Hid (After' Ar.nil (l.take k)) ∧ Hid (LastIn w wr q ((l.take k).getLastD Ar.nil)))
  case atStart => exact ⟨0, Nat.zero_le _, by omega, rfl, Lib.hid trivial, Lib.hid ⟨HQ.out, Only.refl _ _⟩⟩
  case round =>
    obtain ⟨k, hk, hg, rfl, HF, HI⟩ := hrel
    by_cases hlt : k < len
    · have hltz : (k : Int) < (len : Int) := by omega
      rcases HA.out with hn | ⟨b, off, rfl, hb, hcs⟩
      · have := HL.out; rw [hn] at this; simp at this; omega
      have hlk : k < l.length := by rw [HL.out]; exact hlt
      have hC := hcs k hlk
      have HC : Hid (AreaAt wr b (off + k * 6) l[k]) := Lib.hid ⟨(HI.out.only.cell (p := ⟨b, _, none⟩) (by have := Whole.lt HQ.out; simp; omega) (by simp; omega)).trans hC.c0, (HI.out.only.cell (p := ⟨b, _, none⟩) (by have := Whole.lt HQ.out; simp; omega) (by simp; omega)).trans hC.c1, (HI.out.only.cell (p := ⟨b, _, none⟩) (by have := Whole.lt HQ.out; simp; omega) (by simp; omega)).trans hC.c2,
        (HI.out.only.cell (p := ⟨b, _, none⟩) (by have := Whole.lt HQ.out; simp; omega) (by simp; omega)).trans hC.c3, (HI.out.only.cell (p := ⟨b, _, none⟩) (by have := Whole.lt HQ.out; simp; omega) (by simp; omega)).trans hC.c4, (HI.out.only.cell (p := ⟨b, _, none⟩) (by have := Whole.lt HQ.out; simp; omega) (by simp; omega)).trans hC.c5⟩
      have HT : Hid (l.take (k + 1) = l.take k ++ [l[k]]) := Lib.hid (by rw [List.take_succ_eq_append_getElem hlk])
      have HN := Lib.hid (fun h1 h2 => after_take (z := Ar.nil) (l := l) hlk h1 h2)
      have Y := Lib.hid (X.out ((l.take k).getLastD Ar.nil) l[k] q wr HI.out.lz)
      generalize l[k] = x at *
      generalize hz : (l.take k).getLastD Ar.nil = z at *
      have HZ := Lib.hid hz
      clear hz
      obtain ⟨c0, c1, c2, c3, c4, c5⟩ := HC.out
      clear hcs hC HC
      obtain ⟨x0, x1, x2, x3, x4, x5⟩ := x
      simp only [Ar.v] at c0 c1 c2 c3 c4 c5 Y
      go_wp2_with fail
      refine Y.out.mono ?_
      rintro e w1 ⟨rfl, h1, h2⟩
      have H1 := Lib.hid h1
      have H2 := Lib.hid h2
      clear h1 h2 c0 c1 c2 c3 c4 c5 Y
      by_cases hok : Ok z ⟨x0, x1, x2, x3, x4, x5⟩
      · have hd : (!decide (Ok z ⟨x0, x1, x2, x3, x4, x5⟩)) = false := by simp [hok]
        rw [hd]
        have HO := Lib.hid hok
        clear hd hok
        go_wp2
        go_roundg (len - (k + 1))
        case measure => omega
        case rel =>
          refine ⟨k + 1, by omega, by omega, by go_num, Lib.hid ?_, Lib.hid ⟨?_, HI.out.only.trans H2.out⟩⟩
          · rw [HT.out, after_app, HZ.out]
            exact ⟨HF.out, HO.out, trivial⟩
          · rw [HT.out]; simp; exact H1.out
      · have hd : (!decide (Ok z ⟨x0, x1, x2, x3, x4, x5⟩)) = true := by simp [hok]
        rw [hd]
        have HO := Lib.hid hok
        clear hd hok
        go_wp2
        go_ret
        refine ⟨⟨k, rfl, ?_⟩, HI.out.only.trans H2.out⟩
        have := HN.out HF.out HO.out
        unfold RightL
        exact ⟨fun h => by omega, fun h => absurd h this⟩
    · obtain rfl : k = len := by omega
      go_wp2
      go_ret
      refine ⟨⟨-1, rfl, ?_⟩, HI.out.only⟩
      unfold RightL
      have h1 := HF.out
      rw [← HL.out, List.take_length] at h1
      exact ⟨fun _ => h1, fun _ => by omega⟩

set_option maxHeartbeats 2000000 in
theorem right_any (A : Option Addr) (l : List Ar) (cap : Nat) (hl : l.length ≤ 100000) (w : World) (hA : Areas w.heap.size w A l) :
    Calls Try.prog 36 #[.slice A l.length cap] w fun e w' => e = .returned (.bool (decide (RightL l))) ∧ Below w.heap.size w w' := by
  have hq : ArIn (w.alloc (.cells Ar.nil.cells 74)) w.heap.size Ar.nil := ArIn.new w Ar.nil
  have X := Lib.hid (indexWrong_any w.heap.size A l cap hl _ hq (hA.below (below_new w _)))
  simp only [Ar.nil, Ar.cells] at X
  generalize l.length = len at *
  clear hA hq
  go_enter Try.func36, Try.ntmps36
  go_wp2_with fail
  refine X.out.mono ?_
  rintro e w1 ⟨⟨i, rfl, hi⟩, ho⟩
  have HI := Lib.hid hi
  have HO := Lib.hid ho
  clear hi ho X
  go_wp2
  go_ret
  refine ⟨says_bool ?_, (below_new w _).trans (HO.out.below (B := w.heap.size) (fun k hk => by omega) (by simp))⟩
  rw [Bool.eq_iff_iff]; simp [HI.out]
end Go.Proofs.Ytejkhnphplpkeaa

/-
  Layer 7: the loops over a list: a contract for each call.
-/
namespace Go.Proofs.Ytejkhnphplpkeaa
open Go.ChangeShapes Go.WideShapes Go.ChangeAt Go.RowKit Go.Shelf
set_option linter.unusedVariables false
attribute [local go_sem] Oper.semAt_some

/-- The variable of a round, in a block of its own. -/
theorem area_own (B : Nat) (a : Ar) : Own (fun (_ : Unit) W => ArIn W B a) := fun s X Y row hs hg hrow =>
  Whole.grown hs hg (fun e' => by obtain ⟨o, ho, hc⟩ := hrow B e'.symm; rw [show X.heap[B]? = _ from hs] at ho; cases ho; cases hc)

theorem sum_snoc (l : List Ar) (a : Ar) : sumL (l ++ [a]) = sumL l + (a.e - a.s) := by
  induction l with
  | nil => simp [sumL]
  | cons b l ih => simp only [List.cons_append, sumL, ih]; omega

/-- Areas that are formed. -/
abbrev FAr := { a : Ar // Formed a }
theorem sum_bound (l : List FAr) : 0 ≤ sumL (l.map (·.1)) ∧ sumL (l.map (·.1)) ≤ 2097152 * l.length := by
  induction l with
  | nil => simp [sumL]
  | cons a l ih =>
    have := formed_num a.2
    simp only [List.map_cons, sumL, List.length_cons]
    push_cast
    omega
/-- A box that holds a number. -/
theorem whole_own {β : Type} (B : Nat) (t : TypeId) (f : β → Array Value) : Own (fun s W => Whole W B t (f s)) := fun s X Y row hs hg hrow =>
  Whole.grown hs hg (fun e' => by obtain ⟨o, ho, hc⟩ := hrow B e'.symm; rw [show X.heap[B]? = _ from hs] at ho; cases ho; cases hc)

def Ar.cl (a : Ar) : List Value := [.int .i64 a.s, .int .i64 a.e, .int .i64 a.p, .bool a.sh, .int .i64 a.bk, .int .i64 a.off]
def cls (l : List Ar) : List Value := l.flatMap Ar.cl
theorem cls_app (l l' : List Ar) : cls (l ++ l') = cls l ++ cls l' := by simp [cls]
theorem cls_len (l : List Ar) : (cls l).length = l.length * 6 := by
  induction l with
  | nil => rfl
  | cons a l ih => simp only [cls, List.flatMap_cons, List.length_append, List.length_cons] at *; rw [ih]; simp [Ar.cl]; omega
theorem cls_one (l : List Ar) : ∀ u ∈ cls l, u.oneCell' = true := by
  intro u hu
  obtain ⟨a, _, hu⟩ := List.mem_flatMap.1 hu
  simp [Ar.cl] at hu
  rcases hu with rfl | rfl | rfl | rfl | rfl | rfl <;> rfl
theorem cls_at : ∀ (l : List Ar) (j : Nat) (h : j < l.length) (i : Nat), i < 6 → (cls l)[j * 6 + i]? = (Ar.cl l[j])[i]?
  | a :: l, 0, _, i, hi => by
    simp only [cls, List.flatMap_cons, Nat.zero_mul, Nat.zero_add, List.getElem_cons_zero]
    rw [List.getElem?_append_left (by simp [Ar.cl]; omega)]
  | a :: l, j + 1, h, i, hi => by
    have := cls_at l j (by simpa using h) i hi
    simp only [cls, List.flatMap_cons, List.getElem_cons_succ] at *
    rw [List.getElem?_append_right (by simp [Ar.cl]; omega), ← this]
    congr 1
    simp [Ar.cl]; omega
/-- A slice in memory of our own, from B on, that holds areas. -/
def Mine (B : Nat) (w : World) (v : Value) (l : List Ar) : Prop := w.ownsRow B 74 6 v l.length (cls l)
section
variable {B : Nat} {w w' : World} {v : Value} {l : List Ar}
theorem Mine.nil (B : Nat) (w : World) : Mine B w (.slice none 0 0) [] := World.ownsRow_nil w B _ _
theorem Mine.is (h : Mine B w v l) : ∃ A c, v = .slice A l.length c := own_slice h
theorem Mine.still (h : Mine B w v l) (hb : Below w.heap.size w w') : Mine B w' v l := own_still h hb
theorem Mine.base {B' : Nat} (h : Mine B w v l) (hb : B' ≤ B) : Mine B' w v l := own_base h hb
theorem Mine.areas {A : Option Addr} {n c : Nat} (h : Mine B w (.slice A n c) l) : Areas w.heap.size w A l := by
  cases l with
  | nil => exact .inl rfl
  | cons a l =>
    rcases h.2 with ⟨_, h0⟩ | ⟨g, cap, cur, hv, hb, hh, _⟩
    · simp at h0
    · injection hv with h1
      subst h1
      have hc := World.ownsRow.cells h (g := g) (by simp [Value.ownBlock])
      refine .inr ⟨g, 0, rfl, Whole.lt (t := 74) hh, fun j hj => ?_⟩
      have key : ∀ i u, i < 6 → (Ar.cl (a :: l)[j])[i]? = some u → w.cell? ⟨g, 0 + j * 6 + i, none⟩ = some u := fun i u hi hu => by
        have := hc (j * 6 + i) u (by rw [cls_at _ j hj i hi]; exact hu)
        rw [Addr.add_lit] at this
        rw [Nat.add_assoc]; exact this
      exact ⟨key 0 _ (by omega) rfl, key 1 _ (by omega) rfl, key 2 _ (by omega) rfl, key 3 _ (by omega) rfl, key 4 _ (by omega) rfl, key 5 _ (by omega) rfl⟩
theorem Mine.only {S : Nat → Prop} (h : Mine B w v l) (ho : Only S w w') (hS : ∀ k, v.ownBlock = some k → ¬ S k) : Mine B w' v l := own_only h ho hS
theorem Mine.lt (h : Mine B w v l) : ∀ k, v.ownBlock = some k → B ≤ k ∧ k < w.heap.size := World.ownsRow.lt h
end

/-- What append asks of the type. -/
theorem area_info : (Try.prog.info? 74).map (fun i => (i.zero, i.size, i.bytes)) = some (some Ar.nil.v, 6, 48) := by kernel_rfl

theorem new6 (w : World) (a : Ar) (t : TypeId) : ∀ j u, (Ar.cl a)[j]? = some u → (w.alloc (.cells a.cells t)).cell? ((⟨w.heap.size, 0, none⟩ : Addr).add j) = some u := by
  intro j u hu
  have h := Whole.new w t a.cells
  have := h.cell j
  rw [Addr.add_lit, Nat.zero_add, this]
  simpa [Ar.cells, Ar.cl] using hu

theorem mine_more {B : Nat} {w : World} {v : Value} {l l' : List Ar} {n : Nat} (hn : n = l'.length) (h : w.ownsRow B 74 6 v (l.length + n) (cls l ++ cls l')) : Mine B w v (l ++ l') := by
  subst hn
  unfold Mine
  rw [List.length_append, cls_app]; exact h
theorem cls_single (a : Ar) : cls [a] = Ar.cl a := by simp [cls]
theorem cl_one (a : Ar) : ∀ u ∈ Ar.cl a, u.oneCell' = true := by rw [← cls_single]; exact cls_one _
/-- What append leaves alone. -/
theorem only_grown {S : Nat → Prop} {w w' w'' : World} {v : Value} (h : Only S w w') (hg : w'.grownBy w'' v.ownBlock) (hS : ∀ k, v.ownBlock = some k → S k) : Only S w w'' :=
  h.grown hg (fun k hk => .inl (hS k hk))

end Go.Proofs.Ytejkhnphplpkeaa

/-
  Values that hold a list of areas.
-/
namespace Go.Proofs.Ytejkhnphplpkeaa
open Go.ChangeShapes Go.WideShapes Go.ChangeAt Go.RowKit Go.Shelf
set_option linter.unusedVariables false

/-- A value that holds a list. -/
def Holds (w : World) (v : Value) (X : List Ar) : Prop := ∃ A c, v = .slice A X.length c ∧ X.length ≤ c ∧ Areas w.heap.size w A X
theorem Holds.still {w w' : World} {v : Value} {X : List Ar} (h : Holds w v X) (hb : Below w.heap.size w w') : Holds w' v X := by
  obtain ⟨A, c, rfl, hc, hA⟩ := h
  exact ⟨A, c, rfl, hc, (hA.below hb).mono hb.size⟩
theorem Mine.holds {B : Nat} {w : World} {v : Value} {X : List Ar} (h : Mine B w v X) : Holds w v X := by
  obtain ⟨A, c, rfl⟩ := h.is
  refine ⟨A, c, rfl, ?_, h.areas⟩
  rcases h.2 with ⟨hv, h0⟩ | ⟨g, cap, cur, hv, _, _, h3, _⟩
  · omega
  · injection hv with _ _ h4; omega
theorem Holds.nil (w : World) : Holds w (.slice none 0 0) [] := ⟨none, 0, rfl, Nat.le_refl _, .inl rfl⟩
theorem Holds.is {w : World} {v : Value} {X : List Ar} (h : Holds w v X) : ∃ A c, v = .slice A X.length c := by
  obtain ⟨A, c, e, _⟩ := h; exact ⟨A, c, e⟩
end Go.Proofs.Ytejkhnphplpkeaa

/-
  Layer 7: what lies in a range, and what stays: a contract for each call.
-/
namespace Go.Proofs.Ytejkhnphplpkeaa
open Go.ChangeShapes Go.WideShapes Go.ChangeAt Go.RowKit Go.Shelf
set_option linter.unusedVariables false
attribute [local go_sem] Oper.semAt_some

/-- A loop that gathers: its variables, and the list that it has so far, in the variable q. -/
structure Going (w W : World) (q : Nat) (bs : List (Nat × TypeId × Array Value)) (out : List Ar) : Prop where
  bag : Bag w W bs
  out : ∃ v, Whole W q 22 #[v] ∧ Mine w.heap.size W v out
  new : w.heap.size ≤ q
  kinds : ∀ x ∈ bs, x.2.1 ≠ 74 ∧ x.1 ≠ q

theorem whole_grown {W W' : World} {row : Option Nat} {b : Nat} {t : TypeId} {cs : Array Value} (h : Whole W b t cs) (hg : W.grownBy W' row) (hr : ∀ r, row = some r → ∃ o : Obj, W.heap[r]? = some o ∧ o.isCells = false) : Whole W' b t cs :=
  h.grown hg (fun e' => by obtain ⟨o, ho, hc⟩ := hr b e'.symm; rw [show W.heap[b]? = _ from h] at ho; cases ho; cases hc)
theorem mine_grown {B : Nat} {W W' : World} {row : Option Nat} {v : Value} {l : List Ar} (h : Mine B W v l) (hg : W.grownBy W' row) (hr : ∀ r, row = some r → ∃ o : Obj, W.heap[r]? = some o ∧ o.isCells = false) : Mine B W' v l := by
  refine World.ownsRow.kept h hg ?_
  rcases h.2 with ⟨rfl, _⟩ | ⟨g, cap, cur, rfl, _, hgb, _⟩
  · exact .inl rfl
  · refine .inr fun e' => ?_
    obtain ⟨o, ho, hc⟩ := hr g (by simpa [Value.ownBlock] using e'.symm)
    rw [hgb] at ho; cases ho; cases hc
theorem going_own {β : Type} {B : Nat} {w : World} {q : Nat} {bs : List (Nat × TypeId × Array Value)} (f : β → List Ar) (hB : w.heap.size ≤ B) : OwnFrom B (fun s W => Going w W q bs (f s)) := by
  rintro s X Y row ⟨⟨hb, hbel⟩, ⟨v, hv, hm⟩, hq, hk⟩ hg hr
  have hr' : ∀ r, row = some r → ∃ o : Obj, X.heap[r]? = some o ∧ o.isCells = false := fun r e => (hr r e).2
  exact ⟨⟨fun x hx => whole_grown (hb x hx) hg hr', hbel.grown hg hbel.size (fun k e => Nat.le_trans hB (hr k e).1)⟩, ⟨v, whole_grown hv hg hr', mine_grown hm hg hr'⟩, hq, hk⟩
/-- The variable of a round: it isn't the list's own memory. -/
def RoundVar (q : Nat) (W : World) (Bx : Nat) (x : Ar) : Prop := ArIn W Bx x ∧ ∃ v, Whole W q 22 #[v] ∧ v.ownBlock ≠ some Bx
theorem round_own {q : Nat} {X Y : World} {row : Option Nat} {Bx : Nat} {x : Ar} (h : RoundVar q X Bx x) (hg : X.grownBy Y row) (hr : ∀ r, row = some r → ∃ o : Obj, X.heap[r]? = some o ∧ o.isCells = false) : RoundVar q Y Bx x :=
  ⟨whole_grown h.1 hg hr, by obtain ⟨v, h1, h2⟩ := h.2; exact ⟨v, whole_grown h1 hg hr, h2⟩⟩
theorem whole_eq {W : World} {q : Nat} {t : TypeId} {v v' : Value} (h : Whole W q t #[v]) (h' : Whole W q t #[v']) : v = v' := by
  unfold Whole at h h'; rw [h] at h'; injection h' with h'; injection h' with h1; simpa using h1
section
variable {w W W1 : World} {q : Nat} {bs : List (Nat × TypeId × Array Value)} {out out' : List Ar} {v v' : Value}
theorem Going.alloc (h : Going w W q bs out) (o : Obj) : Going w (W.alloc o) q bs out := by
  obtain ⟨⟨hb, hbel⟩, ⟨v, hv, hm⟩, hq, hk⟩ := h
  exact ⟨⟨fun x hx => (hb x hx).alloc o, hbel.alloc hbel.size _⟩, ⟨v, hv.alloc o, World.ownsRow.alloc hm o⟩, hq, hk⟩
theorem Going.still (h : Going w W q bs out) (hb : Below W.heap.size W W1) : Going w W1 q bs out := by
  obtain ⟨hbag, ⟨v, hv, hm⟩, hq, hk⟩ := h
  exact ⟨hbag.still hb, ⟨v, hv.below hb hv.lt, hm.still hb⟩, hq, hk⟩
theorem Going.var (h : Going w W q bs out) (x : Ar) : RoundVar q (W.alloc (.cells x.cells 74)) W.heap.size x := by
  obtain ⟨_, ⟨v, hv, hm⟩, _, _⟩ := h
  refine ⟨Whole.new _ _ _, v, hv.alloc _, fun e => ?_⟩
  have := (hm.lt _ e).2
  omega
/-- What is left alone when the list turned. -/
theorem Going.apart (h : Going w W q bs out) (hv : Whole W q 22 #[v]) (ho : Only (fun k => v.ownBlock = some k) W W1) : Whole W1 q 22 #[v] ∧ (∀ x ∈ bs, Whole W1 x.1 x.2.1 x.2.2) ∧ Below w.heap.size W W1 ∧ KeepsOthers W W1 := by
  obtain ⟨⟨hb, hbel⟩, ⟨v2, hv2, hm⟩, hq, hk⟩ := h
  obtain rfl := whole_eq hv hv2
  refine ⟨hv.only ho (own_apart hm hv (by decide)), fun x hx => (hb x hx).only ho (own_apart hm (hb x hx) (Ne.symm (hk x hx).1)), ho.below (fun k hk => (hm.lt k hk).1) hbel.size, ⟨ho.size, fun k o hk hc => ?_⟩⟩
  refine (ho.block k (Array.getElem?_eq_some_iff.1 hk).1 (fun e => ?_)).trans hk
  rcases hm.2 with ⟨rfl, _⟩ | ⟨g, cap, cur, rfl, _, hgb, _⟩
  · simp [Value.ownBlock] at e
  · obtain rfl : g = k := by simpa [Value.ownBlock] using e
    rw [hgb] at hk; cases hk; cases hc
/-- The list is stored back. -/
theorem Going.put (h : Going w W q bs out) (hv : Whole W q 22 #[v]) (ho : Only (fun k => v.ownBlock = some k) W W1) (hm : Mine w.heap.size W1 v' out') :
    Going w (W1.setCell ⟨q, 0, none⟩ v') q bs out' ∧ KeepsOthers W (W1.setCell ⟨q, 0, none⟩ v') ∧ Below w.heap.size W (W1.setCell ⟨q, 0, none⟩ v') := by
  obtain ⟨h1, h2, h3, h4⟩ := h.apart hv ho
  refine ⟨⟨⟨fun x hx => (h2 x hx).far (h.kinds x hx).2 _, (h.bag.bel.trans h3).setCell (p := ⟨q, 0, none⟩) h.new _⟩, ⟨v', h1.put 0 v', own_far hm (own_apart hm h1 (by decide)) _⟩, h.new, h.kinds⟩, h4.trans (KeepsOthers.setCell _ _ _), h3.setCell (p := ⟨q, 0, none⟩) h.new _⟩
end

theorem inside_len (lo hi : Int) (l : List Ar) : (insideL lo hi l).length ≤ l.length := by
  induction l with
  | nil => simp [insideL]
  | cons a l ih =>
    have h1 : insideL lo hi (a :: l) = partL a lo hi ++ insideL lo hi l := by simp [insideL]
    have h2 : (partL a lo hi).length ≤ 1 := by unfold partL; split <;> simp
    rw [h1, List.length_append, List.length_cons]; omega

end Go.Proofs.Ytejkhnphplpkeaa

/-
  Layer 7: what stays of a list: a contract for the call.
-/
namespace Go.Proofs.Ytejkhnphplpkeaa
open Go.ChangeShapes Go.WideShapes Go.ChangeAt Go.RowKit Go.Shelf
set_option linter.unusedVariables false
attribute [local go_sem] Oper.semAt_some

theorem outA_len (lo hi : Int) (a : Ar) : (outA lo hi a).length ≤ 2 := by
  have h : ∀ x y, (partL a x y).length ≤ 1 := fun x y => by unfold partL; split <;> simp
  unfold outA
  split
  · have := h a.s (a.part lo hi).s; have := h (a.part lo hi).e a.e; rw [List.length_append]; omega
  · simp
theorem outside_len (lo hi : Int) (l : List Ar) : (outsideL lo hi l).length ≤ 2 * l.length := by
  induction l with
  | nil => simp [outsideL]
  | cons a l ih =>
    have h1 : outsideL lo hi (a :: l) = outA lo hi a ++ outsideL lo hi l := by simp [outsideL]
    have h2 := outA_len lo hi a
    rw [h1, List.length_append, List.length_cons]; omega
theorem keeps_below {W W' : World} (h : Below W.heap.size W W') : KeepsOthers W W' := ⟨h.size, fun k o hk _ => (h.block k (Array.getElem?_eq_some_iff.1 hk).1).trans hk⟩

/-- A round, when the part is known. -/
structure Start (w W W2 : World) (q Bx qb : Nat) (bs : List (Nat × TypeId × Array Value)) (out : List Ar) (v : Value) (x b : Ar) : Prop where
  g : Going w W2 q bs out
  fv : Whole W2 q 22 #[v]
  fm : Mine w.heap.size W2 v out
  fx : ArIn W2 Bx x
  fb : ArIn W2 qb b
  nx : v.ownBlock ≠ some Bx
  nb : v.ownBlock ≠ some qb
  bel : Below W.heap.size W W2
theorem out_start {w W W1 : World} {q Bx : Nat} {bs : List (Nat × TypeId × Array Value)} {out : List Ar} {v : Value} {x : Ar} (h : Going w W q bs out) (hv : Whole W q 22 #[v]) (hm : Mine w.heap.size W v out) (hr : RoundVar q W Bx x) (hn : v.ownBlock ≠ some Bx) (hb : Below W.heap.size W W1) (b : Ar) :
    Start w W (W1.alloc (.cells b.cells 74)) q Bx W1.heap.size bs out v x b :=
  ⟨(h.still hb).alloc _, (hv.below hb hv.lt).alloc _, World.ownsRow.alloc (hm.still hb) _, Whole.alloc (hr.1.still hb (Whole.lt hr.1)) _, Whole.new _ _ _, hn, fun e => by have h1 := (hm.lt _ e).2; have h2 := hb.size; omega, hb.alloc hb.size _⟩
/-- The first piece is there, and stored. -/
theorem Start.next {w W W2 W3 : World} {q Bx qb : Nat} {bs : List (Nat × TypeId × Array Value)} {out out' : List Ar} {v v' : Value} {x b : Ar} (h : Start w W W2 q Bx qb bs out v x b) (hw : w.heap.size ≤ W.heap.size) (ho : Only (fun k => v.ownBlock = some k) W2 W3) (hm : Mine w.heap.size W3 v' out') :
    Whole W3 q 22 #[v] ∧ Going w (W3.setCell ⟨q, 0, none⟩ v') q bs out' ∧ KeepsOthers W (W3.setCell ⟨q, 0, none⟩ v') ∧ Below w.heap.size W (W3.setCell ⟨q, 0, none⟩ v') ∧ Whole (W3.setCell ⟨q, 0, none⟩ v') q 22 #[v'] ∧ Mine w.heap.size (W3.setCell ⟨q, 0, none⟩ v') v' out' ∧ ArIn (W3.setCell ⟨q, 0, none⟩ v') Bx x ∧ ArIn (W3.setCell ⟨q, 0, none⟩ v') qb b := by
  obtain ⟨g1, g2, g3⟩ := h.g.put h.fv ho hm
  obtain ⟨a1, a2, a3, a4⟩ := h.g.apart h.fv ho
  have hx : ArIn W3 Bx x := Whole.only h.fx ho h.nx
  have hb : ArIn W3 qb b := Whole.only h.fb ho h.nb
  exact ⟨a1, g1, (keeps_below h.bel).trans g2, (h.bel.mono hw).trans g3, a1.put 0 v', own_far hm (own_apart hm a1 (by decide)) _, Whole.far hx (Whole.apart hx a1 (by decide)) _, Whole.far hb (Whole.apart hb a1 (by decide)) _⟩

end Go.Proofs.Ytejkhnphplpkeaa

/-
  Layer 7: the list of pages, page by page; areas that are put one by one; how many areas there are at most. No program is asked.
-/
namespace Go.Proofs.Ytejkhnphplpkeaa
set_option linter.unusedVariables false

/-- What a page of an area may have. -/
def Good (x : At) : Prop := 0 ≤ x.p ∧ x.p ≤ 7 ∧ 0 ≤ x.bk ∧ x.bk ≤ 9 ∧ 0 ≤ x.off ∧ x.off % 4096 = 0 ∧ (x.bk = 0 → x.off = 0) ∧ x.off + 4096 ≤ 1099511627776
/-- A page, as an area. -/
def pageAr (n : Nat) (x : At) : Ar := ⟨4096 * n, 4096 * (n + 1), x.p, x.sh, x.bk, x.off⟩
theorem page_formed {n : Nat} {x : At} (hx : Good x) (h0 : 16 ≤ n) (h1 : n < 512) : Formed (pageAr n x) := by
  unfold Good at hx
  refine (formed_iff _).2 ?_
  simp only [pageAr]; omega
theorem page_cov (n : Nat) (x : At) (p : Int) : Cov (pageAr n x) p ↔ p = n := by unfold Cov pageAr; simp only; omega
theorem page_at {n : Nat} {x : At} (hx : Good x) : (pageAr n x).at n = x := by
  unfold Good at hx
  obtain ⟨a, b, c, d⟩ := x
  unfold Ar.at pageAr
  simp only at *
  congr 1
  split <;> omega
/-- The pages ahead of one, in order. -/
def pagesTo (s : Nat → Option At) : Nat → List Ar
  | 0 => []
  | n + 1 => pagesTo s n ++ (if 16 ≤ n then (match s n with | some x => [pageAr n x] | none => []) else [])
/-- All that is mapped is as it may be. -/
def GoodS (s : Nat → Option At) : Prop := ∀ p x, s p = some x → Good x
section
variable {s : Nat → Option At}
theorem pages_mem {n : Nat} {a : Ar} (h : a ∈ pagesTo s n) : ∃ p x, p < n ∧ 16 ≤ p ∧ s p = some x ∧ a = pageAr p x := by
  induction n with
  | zero => cases h
  | succ n ih =>
    unfold pagesTo at h
    rcases List.mem_append.1 h with h | h
    · obtain ⟨p, x, h1, h2⟩ := ih h
      exact ⟨p, x, by omega, h2⟩
    · by_cases h16 : 16 ≤ n
      · rw [if_pos h16] at h
        cases hs : s n with
        | none => rw [hs] at h; cases h
        | some x =>
          rw [hs] at h
          exact ⟨n, x, by omega, h16, hs, by simpa using h⟩
      · rw [if_neg h16] at h; cases h
theorem mem_pages {n p : Nat} {x : At} (h1 : p < n) (h2 : 16 ≤ p) (h3 : s p = some x) : pageAr p x ∈ pagesTo s n := by
  induction n with
  | zero => omega
  | succ n ih =>
    unfold pagesTo
    by_cases hp : p < n
    · exact List.mem_append.2 (.inl (ih hp))
    · obtain rfl : p = n := by omega
      refine List.mem_append.2 (.inr ?_)
      rw [if_pos h2, h3]; simp
theorem pages_sorted (n : Nat) : Sorted (pagesTo s n) := by
  induction n with
  | zero => exact .nil
  | succ n ih =>
    unfold pagesTo
    refine List.pairwise_append.2 ⟨ih, ?_, fun a ha b hb => ?_⟩
    · by_cases h16 : 16 ≤ n
      · rw [if_pos h16]; cases s n <;> simp
      · rw [if_neg h16]; exact .nil
    · obtain ⟨p, x, h1, h2, h3, rfl⟩ := pages_mem ha
      by_cases h16 : 16 ≤ n
      · rw [if_pos h16] at hb
        cases hs : s n with
        | none => rw [hs] at hb; cases hb
        | some y =>
          rw [hs] at hb
          obtain rfl : b = pageAr n y := by simpa using hb
          simp only [pageAr]; omega
      · rw [if_neg h16] at hb; cases hb
theorem pages_formed (hg : GoodS s) {n : Nat} (hn : n ≤ 512) : ∀ a ∈ pagesTo s n, Formed a := fun a ha => by
  obtain ⟨p, x, h1, h2, h3, rfl⟩ := pages_mem ha
  exact page_formed (hg p x h3) h2 (by omega)
def listTo (s : Nat → Option At) (n : Nat) : List Ar := joinL (pagesTo s n)
theorem listTo_joined (hg : GoodS s) {n : Nat} (hn : n ≤ 512) : Joined (listTo s n) (pagesTo s n) := joined_all (pages_formed hg hn) (pages_sorted n)
theorem listTo_skip {n : Nat} (h : s n = none ∨ n < 16) : listTo s (n + 1) = listTo s n := by
  show joinL (pagesTo s (n + 1)) = joinL (pagesTo s n)
  rw [pagesTo]
  rcases h with h | h
  · rw [h]; simp
  · rw [if_neg (by omega), List.append_nil]
theorem listTo_next {n : Nat} {x : At} (h16 : 16 ≤ n) (hs : s n = some x) : listTo s (n + 1) = joinF (listTo s n) (pageAr n x) := by
  unfold listTo
  rw [pagesTo, if_pos h16, hs]
  simp [joinL]
theorem sorted_disj {l : List Ar} (h : Sorted l) : l.Pairwise Disj := h.imp (fun h => disj_of_le h)
theorem pages_tab (hg : GoodS s) {n p : Nat} (hp : p < n) (h16 : 16 ≤ p) : tab (pagesTo s n) p = s p := by
  cases hs : s p with
  | none =>
    refine tab_none fun a ha hc => ?_
    obtain ⟨q, x, h1, h2, h3, rfl⟩ := pages_mem ha
    have := (page_cov q x p).1 hc
    obtain rfl : p = q := by omega
    rw [hs] at h3; cases h3
  | some x =>
    rw [tab_of (sorted_disj (pages_sorted n)) (mem_pages hp h16 hs) ((page_cov p x p).2 rfl), page_at (hg p x hs)]
theorem pages_tab_out {n : Nat} {p : Int} (h : p < 16 ∨ (n : Int) ≤ p) : tab (pagesTo s n) p = none := tab_none fun a ha hc => by
  obtain ⟨q, x, h1, h2, h3, rfl⟩ := pages_mem ha
  have := (page_cov q x p).1 hc
  omega
/-- What a list's last area is joined by: what the page ahead has, and what this one has. -/
def AfterA (x y : At) : Prop := x.p = y.p ∧ x.sh = y.sh ∧ x.bk = y.bk ∧ y.off = if 0 < x.bk then x.off + 4096 else x.off
instance (x y : At) : Decidable (AfterA x y) := by unfold AfterA; infer_instance
theorem after_goes {z a : Ar} (hz : Formed z) (ha : Formed a) (he : z.e = a.s) : AfterA (z.at (a.s / 4096 - 1)) (a.at (a.s / 4096)) ↔ GoesA z a := by
  have nz := formed_num hz
  have na := formed_num ha
  unfold AfterA Ar.at
  simp only
  constructor
  · rintro ⟨h1, h2, h3, h4⟩
    refine ⟨hz, ha, he, h1, h2, h3, fun hne => ?_⟩
    rw [if_pos (by omega), if_pos (by omega), if_pos (by omega)] at h4
    omega
  · intro g
    refine ⟨g.p, g.sh, g.bk, ?_⟩
    have h3 := g.bk
    by_cases hb : 0 < z.bk
    · have := g.off (by omega)
      rw [if_pos (by omega), if_pos hb, if_pos hb]; omega
    · rw [if_neg (by omega), if_neg hb, if_neg hb]
/-- The last area of the list so far. -/
theorem last_page (hg : GoodS s) {n : Nat} (hn : n < 512) (h16 : 16 ≤ n) {z : Ar} (hl : (listTo s n).getLast? = some z) (he : z.e = 4096 * n) : ∃ m x, n = m + 1 ∧ s m = some x ∧ z.at (m : Int) = x := by
  have hj := listTo_joined hg (n := n) (by omega)
  have hzm : z ∈ listTo s n := by rw [last_split hl]; simp
  have nz := formed_num (right_formed hj.right z hzm)
  obtain ⟨m, rfl⟩ : ∃ m, n = m + 1 := ⟨n - 1, by omega⟩
  have hc : Cov z (m : Int) := by unfold Cov; omega
  have ht := tab_of (right_disj hj.right) hzm hc
  rw [hj.tab] at ht
  have h17 : 16 ≤ m := by unfold Cov at hc; omega
  rw [pages_tab hg (by omega) h17] at ht
  exact ⟨m, _, rfl, ht, rfl⟩
theorem listTo_len (n : Nat) : (listTo s n).length ≤ n := by
  have key : ∀ (r out : List Ar), (r.foldl joinF out).length ≤ out.length + r.length := by
    intro r
    induction r with
    | nil => intro out; simp
    | cons a r ih =>
      intro out
      have := ih (joinF out a)
      have h2 : (joinF out a).length ≤ out.length + 1 := by
        unfold joinF
        cases h : out.getLast? with
        | none => simp
        | some z =>
          simp only
          split
          · rw [List.length_append, List.length_dropLast]; simp
          · simp
      simp only [List.foldl_cons, List.length_cons]; omega
  have h1 : (listTo s n).length ≤ (pagesTo s n).length := by simpa [listTo, joinL] using key (pagesTo s n) []
  have h2 : (pagesTo s n).length ≤ n := by
    clear h1 key
    induction n with
    | zero => simp [pagesTo]
    | succ n ih =>
      unfold pagesTo
      rw [List.length_append]
      by_cases h16 : 16 ≤ n
      · rw [if_pos h16]; cases s n <;> simp <;> omega
      · rw [if_neg h16]; simp; omega
  omega
end

/-! Areas that are put one by one. -/
def putS (s : Nat → Option At) (a : Ar) : Nat → Option At := if Formed a then (fun p => if Cov a p then some (a.at p) else s p) else s
def madeS (l : List Ar) : Nat → Option At := l.foldl putS (fun _ => none)
theorem at_good {a : Ar} (h : Formed a) {p : Int} (hc : Cov a p) : Good (a.at p) := by
  have := formed_num h
  unfold Cov at hc
  unfold Good Ar.at
  simp only
  split <;> omega
theorem putS_good {s : Nat → Option At} (hs : GoodS s) (a : Ar) : GoodS (putS s a) := by
  intro p x hx
  unfold putS at hx
  by_cases hf : Formed a
  · rw [if_pos hf] at hx
    by_cases hc : Cov a p
    · simp only [if_pos hc] at hx; injection hx with hx; subst hx; exact at_good hf hc
    · simp only [if_neg hc] at hx; exact hs p x hx
  · rw [if_neg hf] at hx; exact hs p x hx
theorem madeS_snoc (l : List Ar) (a : Ar) : madeS (l ++ [a]) = putS (madeS l) a := by simp [madeS]
theorem madeS_good (l : List Ar) : GoodS (madeS l) := by
  have key : ∀ (l : List Ar) (s : Nat → Option At), GoodS s → GoodS (l.foldl putS s) := by
    intro l
    induction l with
    | nil => intro s h; exact h
    | cons a l ih => intro s h; exact ih _ (putS_good h a)
  exact key l _ (fun p x h => by cases h)
/-- The number of pages. -/
@[irreducible] def top : Nat := 512
theorem top_eq : top = 512 := by unfold top; rfl
/-- What Made answers. -/
def madeL (l : List Ar) : List Ar := listTo (madeS l) top
theorem madeL_right (l : List Ar) : RightL (madeL l) := (listTo_joined (s := madeS l) (n := top) (madeS_good l) (by rw [top_eq]; exact Nat.le_refl _)).right
theorem madeS_low (l : List Ar) (p : Nat) (h : p < 16 ∨ 512 ≤ p) : madeS l p = none := by
  have key : ∀ (l : List Ar) (s : Nat → Option At), s p = none → l.foldl putS s p = none := by
    intro l
    induction l with
    | nil => intro s h; exact h
    | cons a l ih =>
      intro s hs
      refine ih _ ?_
      unfold putS
      by_cases hf : Formed a
      · have := formed_num hf
        rw [if_pos hf]
        show (if Cov a p then some (a.at p) else s p) = none
        rw [if_neg (by unfold Cov; omega)]; exact hs
      · rw [if_neg hf]; exact hs
  exact key l _ rfl
theorem madeL_tab (l : List Ar) (p : Nat) : tab (madeL l) p = madeS l p := by
  unfold madeL
  rw [(listTo_joined (n := top) (madeS_good l) (by rw [top_eq]; exact Nat.le_refl _)).tab]
  have ht := top_eq
  by_cases h : p < 16 ∨ 512 ≤ p
  · rw [madeS_low l p h, pages_tab_out (by omega)]
  · exact pages_tab (madeS_good l) (by omega) (by omega)
theorem tab_neg {l : List Ar} (h : ∀ a ∈ l, Formed a) {p : Int} (hp : p < 0) : tab l p = none := tab_none fun a ha hc => by
  have := formed_num (h a ha); unfold Cov at hc; omega
/-- Right lists are the same if they have the same pages. -/
theorem right_same {l l' : List Ar} (h : RightL l) (h' : RightL l') (ht : ∀ p : Nat, tab l p = tab l' p) : l = l' := by
  refine right_unique h h' fun p => ?_
  rcases Int.lt_or_le p 0 with hp | hp
  · rw [tab_neg (right_formed h) hp, tab_neg (right_formed h') hp]
  · obtain ⟨n, rfl⟩ := Int.eq_ofNat_of_zero_le hp
    exact ht n
/-- A right list, put one by one, is itself. -/
theorem madeS_right {l : List Ar} (h : RightL l) (p : Nat) : madeS l p = tab l p := by
  have key : ∀ (l : List Ar) (s : Nat → Option At), (∀ a ∈ l, Formed a) → l.Pairwise Disj → l.foldl putS s p = (tab l p).or (s p) := by
    intro l
    induction l with
    | nil => intro s _ _; simp [tab]
    | cons a l ih =>
      intro s hf hd
      obtain ⟨d1, d2⟩ := List.pairwise_cons.1 hd
      rw [List.foldl_cons, ih _ (fun b hb => hf b (by simp [hb])) d2]
      have hfa := hf a (by simp)
      unfold putS
      rw [if_pos hfa]
      by_cases hc : Cov a p
      · have hn : tab l p = none := tab_none fun b hb hb' => d1 b hb p hc hb'
        rw [hn]
        simp [tab, hc]
      · simp [tab, hc]
  have := key l (fun _ => none) (right_formed h) (right_disj h)
  unfold madeS
  rw [this]; simp

/-! How many areas there are at most. -/
/-- Where an area must begin. -/
def Begins (s : Nat → Option At) (p : Nat) : Prop := ∃ y, s p = some y ∧ ∀ m x, p = m + 1 → s m = some x → ¬ AfterA x y
theorem at_after {a : Ar} (hf : Formed a) {m : Nat} (h1 : Cov a m) (h2 : Cov a (m + 1 : Nat)) : AfterA (a.at m) (a.at (m + 1 : Nat)) := by
  have := formed_num hf
  unfold Cov at h1
  unfold AfterA Ar.at
  refine ⟨rfl, rfl, rfl, ?_⟩
  simp only
  by_cases hb : 0 < a.bk
  · rw [if_pos hb, if_pos hb, if_pos hb]; push_cast; omega
  · rw [if_neg hb, if_neg hb, if_neg hb]
theorem begins_put {s : Nat → Option At} {a : Ar} (hf : Formed a) {p : Nat} (h : Begins (putS s a) p) : Begins s p ∨ (p : Int) = a.s / 4096 ∨ (p : Int) = a.e / 4096 := by
  have hn := formed_num hf
  obtain ⟨y, hy, hno⟩ := h
  unfold putS at hy hno
  rw [if_pos hf] at hy
  simp only [if_pos hf] at hno
  by_cases hc : Cov a p
  · rw [if_pos hc] at hy
    injection hy with hy
    by_cases hs : (p : Int) = a.s / 4096
    · exact .inr (.inl hs)
    · exfalso
      obtain ⟨m, rfl⟩ : ∃ m, p = m + 1 := ⟨p - 1, by unfold Cov at hc; omega⟩
      have hcm : Cov a (m : Int) := by unfold Cov at hc ⊢; omega
      refine hno m (a.at m) rfl (by rw [if_pos hcm]) ?_
      rw [← hy]; exact at_after hf hcm hc
  · rw [if_neg hc] at hy
    by_cases he : (p : Int) = a.e / 4096
    · exact .inr (.inr he)
    · left
      refine ⟨y, hy, fun m x hm hx => ?_⟩
      refine hno m x hm ?_
      rw [if_neg (by unfold Cov at hc ⊢; omega)]; exact hx
/-- The places where areas may begin. -/
theorem begins_made (l : List Ar) : ∃ B : List Int, B.length ≤ 2 * l.length - 1 ∧ ∀ p, Begins (madeS l) p → (p : Int) ∈ B := by
  have key : ∀ (l : List Ar) (s : Nat → Option At) (B : List Int), (∀ p, Begins s p → (p : Int) ∈ B) → ∃ B' : List Int, B'.length ≤ B.length + 2 * l.length ∧ ∀ p, Begins (l.foldl putS s) p → (p : Int) ∈ B' := by
    intro l
    induction l with
    | nil => intro s B h; exact ⟨B, by simp, h⟩
    | cons a l ih =>
      intro s B h
      by_cases hf : Formed a
      · obtain ⟨B', h1, h2⟩ := ih (putS s a) (a.s / 4096 :: a.e / 4096 :: B) (fun p hp => by
          rcases begins_put hf hp with h' | h' | h'
          · simp [h p h']
          · simp [h']
          · simp [h'])
        exact ⟨B', by simp only [List.length_cons] at *; omega, h2⟩
      · have e : putS s a = s := by unfold putS; rw [if_neg hf]
        obtain ⟨B', h1, h2⟩ := ih s B h
        exact ⟨B', by simp only [List.length_cons]; omega, by rw [List.foldl_cons, e]; exact h2⟩
  have first : ∀ (l : List Ar), ∃ B : List Int, B.length ≤ 2 * l.length - 1 ∧ ∀ p, Begins (l.foldl putS (fun _ => none)) p → (p : Int) ∈ B := by
    intro l
    induction l with
    | nil => exact ⟨[], by simp, fun p ⟨y, hy, _⟩ => by cases hy⟩
    | cons a l ih =>
      by_cases hf : Formed a
      · have hn := formed_num hf
        obtain ⟨B', h1, h2⟩ := key l (putS (fun _ => none) a) [a.s / 4096] (fun p hp => by
          rcases begins_put hf hp with ⟨y, hy, _⟩ | h' | h'
          · cases hy
          · simp [h']
          · exfalso
            obtain ⟨y, hy, _⟩ := hp
            unfold putS at hy
            rw [if_pos hf, if_neg (by unfold Cov; omega)] at hy
            cases hy)
        exact ⟨B', by simp only [List.length_cons, List.length_nil] at *; omega, h2⟩
      · have e : putS (fun _ => none) a = fun _ => none := by unfold putS; rw [if_neg hf]
        obtain ⟨B', h1, h2⟩ := ih
        exact ⟨B', by simp only [List.length_cons]; omega, by rw [List.foldl_cons, e]; exact h2⟩
  exact first l
theorem pigeon : ∀ (l m : List Int), l.Nodup → (∀ x ∈ l, x ∈ m) → l.length ≤ m.length
  | [], m, _, _ => Nat.zero_le _
  | x :: l, m, hn, hs => by
    obtain ⟨h1, h2⟩ := List.nodup_cons.1 hn
    have hx := hs x (by simp)
    have := pigeon l (m.erase x) h2 (fun y hy => by
      refine (List.mem_erase_of_ne (fun e => ?_)).2 (hs y (by simp [hy]))
      subst e; exact h1 hy)
    rw [List.length_erase_of_mem hx] at this
    have : 0 < m.length := List.length_pos_of_mem hx
    simp only [List.length_cons]; omega
/-- Where each area of a right list begins. -/
theorem after_begins : ∀ {l : List Ar} {z : Ar}, After' z l → ∀ (pre : List Ar), (∀ b ∈ pre, b.e ≤ z.e ∧ (b.e = z.e → b = z)) → ∀ a ∈ l, ∀ (m : Nat) (x : At), a.s = 4096 * ((m + 1 : Nat) : Int) → tab (pre ++ l) m = some x → (∀ b ∈ pre ++ l, Formed b) → ¬ AfterA x (a.at (m + 1 : Nat))
  | b :: l, z, h, pre, hpre, a, ha, m, x, hs, ht, hf => by
    have hbf := h.1.1
    have nb := formed_num hbf
    rcases List.mem_cons.1 ha with rfl | ha
    · obtain ⟨c, hc, hcc, rfl⟩ := tab_some ht
      have nc := formed_num (hf c hc)
      rcases List.mem_append.1 hc with hc | hc
      · have hce : c.e = a.s := by
          have := (hpre c hc).1; have := h.1.2.1; unfold Cov at hcc; omega
        have hcz : c = z := (hpre c hc).2 (by have := (hpre c hc).1; have := h.1.2.1; omega)
        subst hcz
        intro hA
        refine h.1.2.2 ((after_goes (hf c (by simp [hc])) hbf hce).1 ?_)
        rw [show a.s / 4096 - 1 = (m : Int) by omega, show a.s / 4096 = ((m + 1 : Nat) : Int) by omega]
        exact hA
      · exfalso
        rcases List.mem_cons.1 hc with rfl | hc
        · unfold Cov at hcc; omega
        · have := after_from h.2 c hc; unfold Cov at hcc; omega
    · have e : pre ++ b :: l = (pre ++ [b]) ++ l := by simp
      rw [e] at ht hf
      refine after_begins h.2 (pre ++ [b]) (fun c hc => ?_) a ha m x hs ht hf
      rcases List.mem_append.1 hc with hc | hc
      · have h1 := (hpre c hc).1
        have h2 := h.1.2.1
        exact ⟨by omega, fun he => by omega⟩
      · obtain rfl : c = b := by simpa using hc
        exact ⟨Int.le_refl _, fun _ => rfl⟩
theorem madeL_len (l : List Ar) (hl : l.length ≤ 20) : (madeL l).length ≤ 39 := by
  obtain ⟨B, hB, hb⟩ := begins_made l
  have hr := madeL_right l
  have hf := right_formed hr
  have hlen : ((madeL l).map (fun a => a.s / 4096)).length ≤ B.length := by
    refine pigeon _ _ ?_ ?_
    · have hp := after_pair hr
      rw [List.Nodup, List.pairwise_map]
      refine (List.Pairwise.and_mem.1 hp).imp ?_
      rintro a b ⟨ha, hb, hab⟩
      have := formed_num (hf a ha)
      have := formed_num (hf b hb)
      omega
    · intro x hx
      obtain ⟨a, ha, rfl⟩ := List.mem_map.1 hx
      have na := formed_num (hf a ha)
      obtain ⟨p, hp⟩ : ∃ p : Nat, a.s / 4096 = p := ⟨(a.s / 4096).toNat, by omega⟩
      rw [hp]
      refine hb p ⟨a.at p, ?_, fun m x hm hx => ?_⟩
      · rw [← madeL_tab]; exact tab_of (right_disj hr) ha (by unfold Cov; omega)
      · subst hm
        rw [← madeL_tab] at hx
        exact after_begins (l := madeL l) (z := Ar.nil) hr [] (fun b hb => by cases hb) a ha m x (by omega) (by rw [List.nil_append]; exact hx) (by rw [List.nil_append]; exact hf)
  rw [List.length_map] at hlen
  omega
end Go.Proofs.Ytejkhnphplpkeaa
