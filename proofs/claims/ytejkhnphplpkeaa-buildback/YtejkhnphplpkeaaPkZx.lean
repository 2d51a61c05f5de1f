/-
  Texts of our own, one behind the other (BdEnts, BdSpan): what the laws' proofs rest on; each says at its head what it holds. No conditions.
-/
import Derived.Test.YtejkhnphplpkeaaPkZh
import Derived.Test.YtejkhnphplpkeaaPkZo
import Derived.Test.YtejkhnphplpkeaaPkLa
import Derived.Test.YtejkhnphplpkeaaPkZc
/-
  Layer 18, pure: a list's entries; the greatest gap of a tree.
-/
namespace Go.Proofs.Ytejkhnphplpkeaa
open Go.RowKit
set_option linter.unusedVariables false

/-- The entries of areas with handles, from an address on. -/
def entsFrom : Int → List (Ar × Int) → List En
  | at_, [] => if at_ < 2097152 then [⟨at_, 2097152, 0⟩] else []
  | at_, (a, h) :: l => (if at_ < a.s then [⟨at_, a.s, 0⟩] else []) ++ ⟨a.s, a.e, h⟩ :: entsFrom a.e l
theorem ents_len (at_ : Int) (l : List (Ar × Int)) : (entsFrom at_ l).length ≤ 2 * l.length + 1 ∧ l.length ≤ (entsFrom at_ l).length := by
  induction l generalizing at_ with
  | nil => unfold entsFrom; split <;> simp
  | cons q l ih =>
    obtain ⟨a, h⟩ := q
    unfold entsFrom
    have := ih a.e
    split <;> (simp only [List.length_append, List.length_cons, List.length_nil]; omega)
/-- One entry ahead of others. -/
theorem Chain.cons {e : En} {l : List En} (h : Chain l) (h0 : 0 ≤ e.h ∧ 65536 ≤ e.lo ∧ e.hi ≤ 2097152 ∧ e.lo < e.hi ∧ e.lo.tmod 4096 = 0 ∧ e.hi.tmod 4096 = 0) (hn : 0 < l.length → e.hi = (enAt l 0).lo) : Chain (e :: l) := by
  refine ⟨fun i hi => ?_, fun i hi => ?_⟩
  · match i with
    | 0 => exact h0
    | i + 1 => exact h.one i (by simpa using hi)
  · match i with
    | 0 => exact hn (by simpa using hi)
    | i + 1 => exact h.next i (by simpa using hi)
theorem Chain.nil : Chain [] := ⟨fun i hi => absurd hi (by simp), fun i hi => absurd hi (by simp)⟩
/-- Where they begin. -/
theorem ents_first (at_ : Int) (l : List (Ar × Int)) (hl : ∀ q ∈ l, at_ ≤ q.1.s) (h0 : 0 < (entsFrom at_ l).length) : (enAt (entsFrom at_ l) 0).lo = at_ := by
  cases l with
  | nil =>
    unfold entsFrom at h0 ⊢
    split
    · rfl
    · rename_i h; rw [if_neg h] at h0; simp at h0
  | cons q l =>
    obtain ⟨a, h⟩ := q
    have := hl (a, h) (by simp)
    unfold entsFrom
    split
    · rfl
    · rename_i hlt
      show a.s = at_
      simp only at this
      omega
theorem ents_chain {z : Ar} {l : List Ar} (hz : After' z l) : ∀ (hs : List Int) (at_ : Int), (∀ h ∈ hs, 0 < h) → 65536 ≤ at_ → at_ ≤ 2097152 → at_.tmod 4096 = 0 → (∀ a ∈ l, at_ ≤ a.s) → Chain (entsFrom at_ (l.zip hs)) := by
  induction l generalizing z with
  | nil =>
    intro hs at_ _ h1 h2 h3 _
    simp only [List.zip_nil_left]
    unfold entsFrom
    split
    · rename_i h
      exact Chain.nil.cons ⟨by simp, h1, by simp, h, h3, (by decide : (2097152 : Int).tmod 4096 = 0)⟩ (fun h => absurd h (by simp))
    · exact Chain.nil
  | cons a l ih =>
    intro hs at_ hh h1 h2 h3 hl
    cases hs with
    | nil =>
      simp only [List.zip_nil_right]
      unfold entsFrom
      split
      · rename_i h
        exact Chain.nil.cons ⟨by simp, h1, by simp, h, h3, (by decide : (2097152 : Int).tmod 4096 = 0)⟩ (fun h => absurd h (by simp))
      · exact Chain.nil
    | cons h hs =>
      have hok : Ok z a := hz.1
      have hF := formed_num hok.1
      have hla := hl a (by simp)
      have hfrom := after_from hz.2
      have c := ih hz.2 hs a.e (fun x hx => hh x (by simp [hx])) (by omega) (by omega) (by rw [Int.tmod_eq_emod_of_nonneg (by omega)]; omega) hfrom
      have hq : ∀ q ∈ l.zip hs, a.e ≤ q.1.s := fun q hq => hfrom q.1 (List.of_mem_zip hq).1
      have e1 : Chain (⟨a.s, a.e, h⟩ :: entsFrom a.e (l.zip hs)) := c.cons ⟨Int.le_of_lt (hh h (by simp)), hF.1, hF.2.2.1, hF.2.1, by simp only; rw [Int.tmod_eq_emod_of_nonneg (by omega)]; omega, by simp only; rw [Int.tmod_eq_emod_of_nonneg (by omega)]; omega⟩ (fun h0 => (ents_first _ _ hq h0).symm)
      simp only [List.zip_cons_cons]
      unfold entsFrom
      split
      · rename_i hlt
        exact e1.cons ⟨by simp, h1, by simp only; omega, hlt, h3, by simp only; rw [Int.tmod_eq_emod_of_nonneg (by omega)]; omega⟩ (fun _ => rfl)
      · exact e1

/-! The greatest gap. -/

theorem foldl_max (l : List Int) (b : Int) : l.foldl max b = max b (l.foldl max b) := by
  have := most0_ge l b
  omega
theorem foldl_max2 (l : List Int) (b c : Int) : l.foldl max (max b c) = max b (l.foldl max c) := by
  induction l generalizing c with
  | nil => rfl
  | cons a l ih =>
    simp only [List.foldl_cons]
    rw [show max (max b c) a = max b (max c a) by omega, ih]
theorem most0_app (l l' : List Int) : most0 (l ++ l') = max (most0 l) (most0 l') := by
  unfold most0
  rw [List.foldl_append]
  have h := most0_ge l 0
  rw [show l.foldl max 0 = max (l.foldl max 0) 0 by omega, foldl_max2]
  omega
theorem most0_up {es : List En} {hd : Nat → Int} (h1 : 1 ≤ es.length) : most0 (innerN (ups es hd)).gaps = most0 (es.map gapE) := by
  have key : ∀ k, k ≤ pcs es.length → most0 ((List.range k).map fun i => (upOf (piece es i) (hd i)).g) = most0 ((es.take (pcAt es.length k)).map gapE) := by
    intro k
    induction k with
    | zero => intro _; rw [pcAt_zero]; rfl
    | succ k ih =>
      intro hk
      rw [List.range_succ, List.map_append, most0_app, ih (by omega), ← take_piece h1 (show k < pcs es.length by omega), List.map_append, most0_app]
      congr 1
      show max 0 (most0 (leafN (piece es k)).gaps) = most0 ((piece es k).map gapE)
      have := most0_ge ((piece es k).map gapE) 0
      show max 0 (List.foldl max 0 ((piece es k).map gapE)) = List.foldl max 0 ((piece es k).map gapE)
      omega
  have := key (pcs es.length) (Nat.le_refl _)
  rw [pcAt_end h1, List.take_length] at this
  rw [← this]
  show most0 ((ups es hd).map Up.g) = _
  unfold ups
  rw [List.map_map]
  rfl
end Go.Proofs.Ytejkhnphplpkeaa

/-
  Layer 18: a list's entries, one area at a time; build.Entries.
-/
namespace Go.Proofs.Ytejkhnphplpkeaa
open Go.ChangeShapes Go.WideShapes Go.ChangeAt Go.RowKit Go.Shelf
set_option linter.unusedVariables false

/-- The gap between two addresses, if there is one. -/
def gapL (lo hi : Int) : List En := if lo < hi then [⟨lo, hi, 0⟩] else []
theorem gapL_len (lo hi : Int) : (gapL lo hi).length ≤ 1 := by unfold gapL; split <;> simp
def arAt (X : List Ar) (i : Nat) : Ar := X.getD i Ar.nil
/-- The entries of the first k, and where they end. -/
def enTo (X : List Ar) (hs : List Int) : Nat → List En × Int
  | 0 => ([], 65536)
  | k + 1 => (((enTo X hs k).1 ++ gapL (enTo X hs k).2 (arAt X k).s) ++ [⟨(arAt X k).s, (arAt X k).e, nth hs k⟩], (arAt X k).e)
theorem enTo_len (X : List Ar) (hs : List Int) (k : Nat) : (enTo X hs k).1.length ≤ 2 * k := by
  induction k with
  | zero => exact Nat.le_refl _
  | succ k ih =>
    unfold enTo
    have := gapL_len (enTo X hs k).2 (arAt X k).s
    simp only [List.length_append, List.length_cons, List.length_nil]
    omega
theorem enTo_from (X : List Ar) (hs : List Int) (hl : hs.length = X.length) (k : Nat) (hk : k ≤ X.length) : entsFrom 65536 (X.zip hs) = (enTo X hs k).1 ++ entsFrom (enTo X hs k).2 ((X.zip hs).drop k) := by
  induction k with
  | zero => rfl
  | succ k ih =>
    rw [ih (by omega)]
    have hz : k < (X.zip hs).length := by simp; omega
    have e : (X.zip hs).drop k = (arAt X k, nth hs k) :: (X.zip hs).drop (k + 1) := by
      rw [List.drop_eq_getElem_cons hz, List.getElem_zip]
      unfold arAt nth
      rw [List.getD_eq_getElem?_getD, List.getElem?_eq_getElem (by omega), List.getD_eq_getElem?_getD, List.getElem?_eq_getElem (by omega)]
      rfl
    rw [e]
    show _ ++ ((if _ then _ else _) ++ _) = ((_ ++ gapL _ _) ++ _) ++ _
    unfold gapL
    simp only [List.append_assoc, List.cons_append, List.nil_append]
    rfl
theorem enTo_end (X : List Ar) (hs : List Int) (hl : hs.length = X.length) : (enTo X hs X.length).1 ++ gapL (enTo X hs X.length).2 2097152 = entsFrom 65536 (X.zip hs) := by
  rw [enTo_from X hs hl X.length (Nat.le_refl _)]
  rw [List.drop_of_length_le (by simp; omega)]
  rfl
set_option maxHeartbeats 4000000 in
theorem gapped_c {base : Nat} {w : World} {v : Value} {l : List En} (h : Mes base w v l) (hl : l.length ≤ 5000) (hB : base ≤ w.heap.size) (lo hi : Int) : Calls Try.prog 38 #[v, .int .i64 lo, .int .i64 hi] w fun e w' => ∃ v', e = .returned v' ∧ Mes base w' v' (l ++ gapL lo hi) ∧ Only (fun k => v.ownBlock = some k) w w' := by
  obtain ⟨j0, hj0, hjz0, hjz1, hjz2⟩ := wentry_info'
  obtain ⟨R, hR⟩ : ∃ R : Ending → World → Prop, (fun e w' => ∃ v', e = .returned v' ∧ Mes base w' v' (l ++ gapL lo hi) ∧ Only (fun k => v.ownBlock = some k) w w') = R := ⟨_, rfl⟩
  rw [hR]
  have FIN : Hid (∀ v' W, Mes base W v' (l ++ gapL lo hi) → Only (fun k => v.ownBlock = some k) w W → R (.returned v') W) := Lib.hid (fun v' W a b => by rw [← hR]; exact ⟨v', rfl, a, b⟩)
  clear hR
  obtain ⟨A, c, rfl⟩ := own_slice h
  have HM := Lib.hid h
  have O := Lib.hid h
  unfold Mes at O
  obtain ⟨n, hn⟩ : ∃ n, l.length = n := ⟨_, rfl⟩
  rw [hn] at hl O FIN HM ⊢
  have HN := Lib.hid hn
  clear h hn
  by_cases hlt : lo < hi
  · have GL : Hid (gapL lo hi = [⟨lo, hi, 0⟩]) := Lib.hid (by unfold gapL; rw [if_pos hlt])
    go_enter Try.func38, Try.ntmps38
    go_wp2_with (at_builtin; refine wpList_append_lies _ rfl (.tmp 10) (.tmp 14) _ rfl base 44 j0 _ 3 24 Try.underlying25 hj0 hjz0 hjz1 hjz2 rfl (by omega) _ n _ rfl (O.out.alloc _) ⟨w.heap.size, 0, none⟩ 1 1 [.int .i64 lo, .int .i64 hi, .int .i64 0] rfl rfl (World.news_of_block (cs := #[.int .i64 lo, .int .i64 hi, .int .i64 0]) (t := 44) (fr := (0, 0)) (heap_alloc_new w _)) (by simp [Value.oneCell']) (by omega) (by simp only [maxLen]; omega) (by omega) (by simp; omega) (w.heap.size + 1) (by simp) ?_; intro gg cap w3 hown hgrow hat hlt3)
    have FX : Hid (R (.returned (.slice (some ⟨gg, 0, none⟩) (n + 1) cap)) w3) := Lib.hid (FIN.out _ _ (by
      rw [GL.out]
      unfold Mes
      rw [List.length_append, HN.out, enCells_app]
      exact hown) (((Only.refl _ w).alloc _).grown hgrow (fun k hk => .inl hk)))
    clear FIN hown hgrow hat hlt3 O HM
    go_wp2_with fail
    exact FX.out
  · have GL : Hid (gapL lo hi = []) := Lib.hid (by unfold gapL; rw [if_neg hlt])
    have FX : Hid (R (.returned (.slice A n c)) w) := Lib.hid (FIN.out _ _ (by rw [GL.out, List.append_nil]; exact HM.out) (Only.refl _ w))
    clear FIN O HM
    go_enter Try.func38, Try.ntmps38
    go_wp2_with fail
    exact FX.out
end Go.Proofs.Ytejkhnphplpkeaa
