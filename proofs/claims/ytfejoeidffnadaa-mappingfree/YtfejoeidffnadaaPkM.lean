/-
  Texts of our own, one behind the other (MapSmall, MapPlace, MapKept): what the laws' proofs rest on; each says at its head what it holds. No conditions.
-/
import Derived.Test.YtfejoeidffnadaaPkLa
import Derived.Test.YtfejoeidffnadaaPkC
import Derived.Deep.LoopGhost
import Derived.Lib.SliceRun
import Derived.Test.YtfejoeidffnadaaPkG
import Derived.Deep.RegionHeld3
/-
  Layer 10: the small calls: a contract for each.
-/
namespace Go.Proofs.Ytfejoeidffnadaa
open Go.ChangeShapes Go.WideShapes Go.ChangeAt Go.RowKit Go.Shelf
set_option linter.unusedVariables false

/-- An answer: its error, and its value; it has no attributes. -/
def ansC (e x : Int) : Array Value := #[.int .i64 e, .int .i64 x, .int .i64 0, .bool false, .int .i64 0, .int .i64 0]
def ansV (e x : Int) : Value := .agg (ansC e x)

/-! A copy. -/
set_option maxRecDepth 100000 in
set_option maxHeartbeats 2000000 in
theorem clone_c {w : World} {v : Value} {X : List Ar} (h : Holds w v X) (hl : X.length ≤ 10000) : Calls Try.prog 52 #[v] w fun e w' => ∃ v', e = .returned v' ∧ Mine w.heap.size w' v' X ∧ Below w.heap.size w w' := by
  obtain ⟨i0, hi0, hz0, hz1, hz2⟩ := info_parts area_info
  have HI0 : Hid (Try.prog.info? 48 = some i0) := Lib.hid hi0
  have H0 : Hid (i0.zero = some Ar.nil.v) := Lib.hid hz0
  have H1 : Hid (i0.size = 6) := Lib.hid hz1
  have H2 : Hid (i0.bytes = 48) := Lib.hid hz2
  clear hi0 hz0 hz1 hz2
  have q22 : ∀ (w : World) (a : Option Addr) (n c n' c' : Nat), (binOp .eql 22 (.slice a n c) (.slice none n' c')).run Try.prog w = .ok (.bool a.isNone) w := fun w a n c n' c' => Lib.run_eql_slice_nil w _ _ a n c n' c' Try.underlying22
  obtain ⟨A, c, rfl, hc, hA⟩ := h
  cases A with
  | none =>
    obtain rfl : X = [] := by
      rcases hA with h | ⟨b, off, h, _⟩
      · exact h
      · cases h
    clear hA
    simp only [List.length_nil] at *
    go_enter Try.func52, Try.ntmps52
    go_wp2_with fail
    go_ret
    exact ⟨_, rfl, Mine.nil _ _, Below.refl _ _⟩
  | some ad =>
    have HC : Hid (∀ (o : Obj) (j : Nat) (u : Value), (cls X)[j]? = some u → (w.alloc o).cell? (ad.add j) = some u) := Lib.hid (fun o j u hu => by
      rcases hA with h | ⟨b, off, h, hb, hcs⟩
      · subst h; simp [cls] at hu
      · injection h with h
        subst h
        have hj : j < X.length * 6 := by
          have := (List.getElem?_eq_some_iff.1 hu).1
          rwa [cls_len] at this
        have hat := cls_at X (j / 6) (by omega) (j % 6) (by omega)
        rw [show j / 6 * 6 + j % 6 = j by omega, hu] at hat
        have hA := hcs (j / 6) (by omega)
        rw [Addr.add_lit]
        refine Lib.cell?_alloc_some _ ?_
        have e6 : off + j = off + j / 6 * 6 + j % 6 := by omega
        rw [e6]
        generalize j % 6 = r at *
        have hr : r < 6 := by
          rcases Nat.lt_or_ge r 6 with h | h
          · exact h
          · rw [List.getElem?_eq_none (by simp [Ar.cl]; omega)] at hat; cases hat
        rcases (show r = 0 ∨ r = 1 ∨ r = 2 ∨ r = 3 ∨ r = 4 ∨ r = 5 by omega) with rfl | rfl | rfl | rfl | rfl | rfl
        · rw [hat]; exact hA.c0
        · rw [hat]; exact hA.c1
        · rw [hat]; exact hA.c2
        · rw [hat]; exact hA.c3
        · rw [hat]; exact hA.c4
        · rw [hat]; exact hA.c5)
    have HL := Lib.hid (cls_len X)
    have HO := Lib.hid (cls_one X)
    have HM : Hid (∀ W v', World.ownsRow W w.heap.size 48 6 v' (0 + X.length) ([] ++ cls X) → Mine w.heap.size W v' X) := Lib.hid (fun W v' h => by simpa [Mine] using h)
    clear hA
    generalize X.length = n at *
    go_enter Try.func52, Try.ntmps52
    go_wp2_with (at_builtin; refine wpList_append_own _ rfl _ _ 22 rfl w.heap.size 48 i0 _ 6 48 Try.underlying22 HI0.out H0.out H1.out H2.out rfl (by decide) _ 0 [] rfl (World.ownsRow_made w #[] 0 (Nat.le_refl _) (Nat.zero_le _) rfl) ad n c (cls X) rfl HL.out (HC.out _) HO.out (by simp only [maxLen]; omega) (by omega) (by simp) ?_; intro v' w2 hown' hg' _hnil; have HW := Lib.hid (HM.out _ _ hown'); have HGR := Lib.hid hg'; clear hown' hg' _hnil)
    go_ret
    exact ⟨_, rfl, HW.out, ((Below.refl _ w).alloc (Nat.le_refl _) _).grown HGR.out (by simp) (by intro k hk; have hk : some w.heap.size = some k := hk; injection hk with hk; omega)⟩

/-! The first error. -/
/-- The first one that isn't 0. -/
def firstE : List Int → Int
  | [] => 0
  | e :: r => if e = 0 then firstE r else e
theorem firstE_drop {es : List Int} {k : Nat} (h : k < es.length) : firstE (es.drop k) = if nth es k = 0 then firstE (es.drop (k + 1)) else nth es k := by
  rw [List.drop_eq_getElem_cons h, firstE]
  simp [nth, List.getElem?_eq_getElem h]
set_option maxHeartbeats 2000000 in
theorem or_any (es : List Int) (hl : es.length ≤ 100) (g c : Nat) (w : World) (hc : ∀ i, i < es.length → w.cell? ⟨g, i, none⟩ = some (.int .i64 (nth es i))) :
    Calls Try.prog 31 #[.slice (some ⟨g, 0, none⟩) es.length c] w fun e w' => e = .returned (.int .i64 (firstE es)) ∧ w' = w := by
  have HC := Lib.hid hc
  have HF := Lib.hid (fun k h => firstE_drop (es := es) (k := k) h)
  have HE : Hid (firstE (es.drop es.length) = 0) := Lib.hid (by simp [firstE])
  clear hc
  generalize hn : es.length = n at *
  clear hn
  obtain ⟨F, hF⟩ : ∃ F : Nat → Int, F = fun k => firstE (es.drop k) := ⟨_, rfl⟩
  have e0 : firstE es = F 0 := by rw [hF]; simp
  have HF2 : Hid (∀ k, k < n → F k = if nth es k = 0 then F (k + 1) else nth es k) := Lib.hid (fun k h => by rw [hF]; exact HF.out k h)
  have HE2 : Hid (F n = 0) := Lib.hid (by rw [hF]; exact HE.out)
  rw [e0]
  clear e0 hF HF HE
  generalize hr : F 0 = r at *
  have HR := Lib.hid hr
  clear hr
  go_enter Try.func31, Try.ntmps31
  go_wp2_with fail
  go_loopg [5, 8] n (fun g _ s8 wr => ∃ k : Nat, k ≤ n ∧ n - k ≤ g ∧ s8 = .int .i64 k ∧ wr = w ∧ Hid (F k = r))
  case atStart => exact ⟨0, by omega, by omega, rfl, rfl, HR⟩
  case round =>
    obtain ⟨k, hk, hg, rfl, rfl, HK⟩ := hrel
    by_cases hlt : k < n
    · have hz1 : (k : Int) < (n : Int) := by omega
      have hz0 : (0 : Int) ≤ (k : Int) := by omega
      have c0 := HC.out k hlt
      have hs := HF2.out k hlt
      generalize nth es k = x at *
      by_cases hx : x = 0
      · rw [if_pos hx] at hs
        subst hx
        have HK2 : Hid (F (k + 1) = r) := Lib.hid (by rw [← hs]; exact HK.out)
        clear hs
        go_wp2_with fail
        go_roundg (n - (k + 1))
        case measure => omega
        case rel => exact ⟨k + 1, by omega, by omega, by go_num, rfl, HK2⟩
      · rw [if_neg hx] at hs
        have HK2 : Hid (x = r) := Lib.hid (by rw [← hs]; exact HK.out)
        have hx' : (x != 0) = true := by simpa using hx
        clear hs
        go_wp2_with fail
        go_ret
        exact ⟨by rw [HK2.out]; rfl, rfl⟩
    · obtain rfl : k = n := by omega
      have HK2 : Hid (0 = r) := Lib.hid (by rw [← HE2.out]; exact HK.out)
      go_wp2_with fail
      go_ret
      exact ⟨by rw [← HK2.out]; rfl, rfl⟩

/-! Flags. -/
/-- Whether a flag is set. -/
def bitF (f k : Int) : Bool := bits .and .i64 f k != 0
/-- What is wrong with a map's flags. -/
def fgE (f : Int) : Int := if bitF f 2 = true ∧ bitF f 1 = false then 1 else flE f 15
theorem flagsE_any (f : Int) : Says 50 #[.int .i64 f] (.int .i64 (fgE f)) := by
  intro w
  have X := Lib.hid (flags_any f 15)
  unfold fgE
  cases h2 : bitF f 2 with
  | false =>
    rw [if_neg (by simp)]
    have k2 : (bits .and .i64 f 2 != 0) = false := h2
    generalize flE f 15 = r at *
    clear h2
    go_enter Try.func50, Try.ntmps50
    go_wp2_with fail
    refine (X.out _).mono ?_
    rintro e w1 ⟨rfl, hb⟩
    go_wp2_with fail
    go_ret
    exact ⟨rfl, hb⟩
  | true =>
    have k2 : (bits .and .i64 f 2 != 0) = true := h2
    cases h1 : bitF f 1 with
    | false =>
      rw [if_pos (by simp)]
      have k1 : (bits .and .i64 f 1 == 0) = true := by simpa [bitF] using h1
      clear h2 h1
      go_enter Try.func50, Try.ntmps50
      go_wp2_with fail
      go_ret
      exact ⟨rfl, Below.refl _ _⟩
    | true =>
      rw [if_neg (by simp)]
      have k1 : (bits .and .i64 f 1 == 0) = false := by simpa [bitF] using h1
      generalize flE f 15 = r at *
      clear h2 h1
      go_enter Try.func50, Try.ntmps50
      go_wp2_with fail
      refine (X.out _).mono ?_
      rintro e w1 ⟨rfl, hb⟩
      go_wp2_with fail
      go_ret
      exact ⟨rfl, hb⟩

/-! A gap's place. -/
theorem found_any (a : Int) (ok : Bool) : Says 38 #[.int .i64 a, .bool ok] (.tuple #[.int .i64 (if ok then a else 0), .int .i64 (if ok then 0 else 5)]) := by
  intro w
  cases ok with
  | true =>
    go_enter Try.func38, Try.ntmps38
    go_wp2_with fail
    go_ret2
    exact ⟨rfl, Below.refl _ _⟩
  | false =>
    go_enter Try.func38, Try.ntmps38
    go_wp2_with fail
    go_ret2
    exact ⟨rfl, Below.refl _ _⟩

/-! Whether a list may come. -/
/-- It is right, and has at most 24 areas. -/
def MayL (X : List Ar) : Prop := RightL X ∧ X.length ≤ 24
instance (X : List Ar) : Decidable (MayL X) := inferInstanceAs (Decidable (_ ∧ _))
def liE (X : List Ar) : Int := if MayL X then 0 else 1
set_option maxHeartbeats 1000000 in
theorem listE_c {w : World} {v : Value} {X : List Ar} (h : Holds w v X) (hl : X.length ≤ 10000) : Calls Try.prog 32 #[v] w fun e w' => e = .returned (.int .i64 (liE X)) ∧ Below w.heap.size w w' := by
  obtain ⟨A, c, rfl, hc, hA⟩ := h
  have CR := Lib.hid (right_any A X c (by omega) w hA)
  unfold liE
  clear hA
  by_cases hm : X.length ≤ 24
  · have hz : ¬ (24 : Int) < (X.length : Int) := by omega
    by_cases hr : RightL X
    · rw [if_pos (show MayL X from ⟨hr, hm⟩)]
      rw [decide_eq_true hr] at CR
      generalize X.length = n at *
      go_enter Try.func32, Try.ntmps32
      go_wp2_with fail
      refine CR.out.mono ?_
      rintro e w1 ⟨rfl, hb⟩
      go_wp2_with fail
      go_ret
      exact ⟨rfl, hb⟩
    · rw [if_neg (fun h : MayL X => hr h.1)]
      rw [decide_eq_false hr] at CR
      generalize X.length = n at *
      go_enter Try.func32, Try.ntmps32
      go_wp2_with fail
      refine CR.out.mono ?_
      rintro e w1 ⟨rfl, hb⟩
      go_wp2_with fail
      go_ret
      exact ⟨rfl, hb⟩
  · have hz : (24 : Int) < (X.length : Int) := by omega
    rw [if_neg (fun h : MayL X => hm h.2)]
    clear CR
    generalize X.length = n at *
    go_enter Try.func32, Try.ntmps32
    go_wp2_with fail
    go_ret
    exact ⟨rfl, Below.refl _ _⟩
end Go.Proofs.Ytfejoeidffnadaa

/-
  Layer 10: where something is mapped: a contract for the call; and what is kept.
-/
namespace Go.Proofs.Ytfejoeidffnadaa
open Go.ChangeShapes Go.WideShapes Go.ChangeAt Go.RowKit Go.Shelf
set_option linter.unusedVariables false

/-! What lies in a range. -/
set_option maxHeartbeats 1000000 in
theorem within_c {w : World} {v : Value} {X : List Ar} (h : Holds w v X) (hX : RightL X) (lo hi : Int) : Calls Try.prog 36 #[v, .int .i64 lo, .int .i64 hi] w fun e w' => ∃ v', e = .returned v' ∧ Holds w' v' (insideL lo hi X) ∧ Below w.heap.size w w' := by
  have hl := right_len hX
  obtain ⟨A, c, rfl, hc, hA⟩ := h
  have CR := Lib.hid (right_any A X c (by omega) w hA)
  rw [decide_eq_true hX] at CR
  have CI := Lib.hid (fun w1 h => inside_any A X c lo hi (by omega) w1 h)
  have HA := Lib.hid hA
  clear hA hX
  generalize X.length = n at *
  go_enter Try.func36, Try.ntmps36
  go_wp2_with fail
  refine CR.out.mono ?_
  rintro e w1 ⟨rfl, hb⟩
  have B1 := Lib.hid hb
  have A1 := Lib.hid ((HA.out.below hb).mono hb.size)
  clear hb CR
  go_wp2_with fail
  refine (CI.out w1 A1.out).mono ?_
  rintro e w2 ⟨v2, rfl, hm, hb⟩
  have B2 := Lib.hid (below_then B1.out hb (Nat.le_refl _))
  have M2 := Lib.hid hm.holds
  clear hb hm CI
  go_wp2_with fail
  go_ret
  exact ⟨v2, rfl, M2.out, B2.out⟩

/-! The place. -/
open Classical in
/-- Where something of a size is mapped, and its error. -/
noncomputable def plR (X : List Ar) (a s f : Int) : Int × Int :=
  if bitF f 1 = true then (if rgE a s ≠ 0 then (0, rgE a s) else if bitF f 2 = true ∧ insideL (rgA a s) (rgB a s) X ≠ [] then (0, 6) else (a, 0))
  else if FitsAt X a s then (a, 0)
  else if bitF f 8 = true then (if (lowOf (roomsL 65536 2097152 s X)).2 then (lowOf (roomsL 65536 2097152 s X)).1 else 0, if (lowOf (roomsL 65536 2097152 s X)).2 then 0 else 5)
  else (if (highOf s (roomsL 65536 2097152 s X)).2 then (highOf s (roomsL 65536 2097152 s X)).1 else 0, if (highOf s (roomsL 65536 2097152 s X)).2 then 0 else 5)

/-- What is answered. -/
def plV (r : Int × Int) : Value := .tuple #[.int .i64 r.1, .int .i64 r.2]

section
variable {w : World} {v : Value} {X : List Ar}
set_option maxHeartbeats 2000000 in
theorem place_wrong (h : Holds w v X) (hl : X.length ≤ 10000) (hX : ¬ MayL X) (a s f : Int) : Calls Try.prog 16 #[v, .int .i64 a, .int .i64 s, .int .i64 f] w fun e w' => e = .returned (plV (0, 1)) ∧ Below w.heap.size w w' := by
  have CL := Lib.hid (listE_c h hl)
  unfold liE at CL
  rw [if_neg hX] at CL
  clear hX hl
  obtain ⟨A, c, rfl⟩ := h.is
  clear h
  generalize X.length = n at *
  go_enter Try.func16, Try.ntmps16
  go_wp2_with fail
  refine CL.out.mono ?_
  rintro e w1 ⟨rfl, hb⟩
  have B := Lib.hid hb
  clear hb CL
  go_wp2_with fail
  go_ret2
  exact ⟨rfl, B.out⟩

set_option maxRecDepth 4000 in
set_option maxHeartbeats 4000000 in
theorem place_range (h : Holds w v X) (hX : MayL X) (a s f : Int) (hs : s ≤ 9223372036854775807) (hf : bitF f 1 = true) (he : rgE a s ≠ 0) : Calls Try.prog 16 #[v, .int .i64 a, .int .i64 s, .int .i64 f] w fun e w' => e = .returned (plV (0, rgE a s)) ∧ Below w.heap.size w w' := by
  have CL : Hid (∀ w' u, Holds w' u X → Calls Try.prog 32 #[u] w' fun e w'' => e = .returned (.int .i64 0) ∧ Below w'.heap.size w' w'') := Lib.hid (fun w' u h => by
    have := listE_c h (by have := hX.2; omega)
    unfold liE at this
    rwa [if_pos hX] at this)
  have CR := Lib.hid (range_any a s)
  have hXl : X.length ≤ 10000 := by have := hX.2; omega
  have k1 : (bits .and .i64 f 1 != 0) = true := hf
  have he' : (rgE a s != 0) = true := by simpa using he
  generalize rgE a s = er at *
  generalize rgA a s = ra at *
  generalize rgB a s = rb at *
  clear hf
  have KX := Lib.hid h
  have B := Lib.hid (Below.refl w.heap.size w)
  clear hX hXl
  obtain ⟨A, c, rfl⟩ := h.is
  clear h
  generalize hn : X.length = n at *
  clear hn
  go_enter Try.func16, Try.ntmps16
  go_wp2_with fail
  refine (CL.out _ _ KX.out).mono ?_
  rintro e w1 ⟨rfl, hb⟩
  have B := Lib.hid (below_then B.out hb (Nat.le_refl _))
  have KX := Lib.hid (KX.out.still hb)
  clear hb CL
  go_wp2_with fail
  refine (CR.out _).mono ?_
  rintro e w2 ⟨rfl, hb⟩
  have B := Lib.hid (below_then B.out hb (Nat.le_refl _))
  have KX := Lib.hid (KX.out.still hb)
  clear hb CR
  go_wp2_with fail
  go_ret2
  exact ⟨rfl, B.out⟩

set_option maxRecDepth 4000 in
set_option maxHeartbeats 4000000 in
theorem place_fixed (h : Holds w v X) (hX : MayL X) (a s f : Int) (hs : s ≤ 9223372036854775807) (hf : bitF f 1 = true) (he : rgE a s = 0) (h2 : bitF f 2 = false) : Calls Try.prog 16 #[v, .int .i64 a, .int .i64 s, .int .i64 f] w fun e w' => e = .returned (plV (a, 0)) ∧ Below w.heap.size w w' := by
  have CL : Hid (∀ w' u, Holds w' u X → Calls Try.prog 32 #[u] w' fun e w'' => e = .returned (.int .i64 0) ∧ Below w'.heap.size w' w'') := Lib.hid (fun w' u h => by
    have := listE_c h (by have := hX.2; omega)
    unfold liE at this
    rwa [if_pos hX] at this)
  have CR := Lib.hid (range_any a s)
  have hXl : X.length ≤ 10000 := by have := hX.2; omega
  have k1 : (bits .and .i64 f 1 != 0) = true := hf
  have k2 : (bits .and .i64 f 2 != 0) = false := h2
  rw [he] at CR
  generalize rgA a s = ra at *
  generalize rgB a s = rb at *
  clear hf h2 he
  have KX := Lib.hid h
  have B := Lib.hid (Below.refl w.heap.size w)
  clear hX hXl
  obtain ⟨A, c, rfl⟩ := h.is
  clear h
  generalize hn : X.length = n at *
  clear hn
  go_enter Try.func16, Try.ntmps16
  go_wp2_with fail
  refine (CL.out _ _ KX.out).mono ?_
  rintro e w1 ⟨rfl, hb⟩
  have B := Lib.hid (below_then B.out hb (Nat.le_refl _))
  have KX := Lib.hid (KX.out.still hb)
  clear hb CL
  go_wp2_with fail
  refine (CR.out _).mono ?_
  rintro e w2 ⟨rfl, hb⟩
  have B := Lib.hid (below_then B.out hb (Nat.le_refl _))
  have KX := Lib.hid (KX.out.still hb)
  clear hb CR
  go_wp2_with fail
  go_ret2
  exact ⟨rfl, B.out⟩

set_option maxRecDepth 4000 in
set_option maxHeartbeats 4000000 in
theorem place_exists (h : Holds w v X) (hX : MayL X) (a s f : Int) (hs : s ≤ 9223372036854775807) (hf : bitF f 1 = true) (he : rgE a s = 0) (h2 : bitF f 2 = true) (hi : insideL (rgA a s) (rgB a s) X ≠ []) : Calls Try.prog 16 #[v, .int .i64 a, .int .i64 s, .int .i64 f] w fun e w' => e = .returned (plV (0, 6)) ∧ Below w.heap.size w w' := by
  have CL : Hid (∀ w' u, Holds w' u X → Calls Try.prog 32 #[u] w' fun e w'' => e = .returned (.int .i64 0) ∧ Below w'.heap.size w' w'') := Lib.hid (fun w' u h => by
    have := listE_c h (by have := hX.2; omega)
    unfold liE at this
    rwa [if_pos hX] at this)
  have CR := Lib.hid (range_any a s)
  have hXl : X.length ≤ 10000 := by have := hX.2; omega
  have k1 : (bits .and .i64 f 1 != 0) = true := hf
  have k2 : (bits .and .i64 f 2 != 0) = true := h2
  have CW : Hid (∀ w' u, Holds w' u X → Calls Try.prog 36 #[u, .int .i64 (rgA a s), .int .i64 (rgB a s)] w' fun e w'' => ∃ A c, e = .returned (.slice A (insideL (rgA a s) (rgB a s) X).length c) ∧ Below w'.heap.size w' w'') := Lib.hid (fun w' u h => (within_c h hX.1 _ _).mono fun e w'' ⟨v', he, hh, hb⟩ => by
    obtain ⟨A, c, rfl⟩ := hh.is
    exact ⟨A, c, he, hb⟩)
  have hlen : 0 < (insideL (rgA a s) (rgB a s) X).length := List.length_pos_iff.2 hi
  rw [he] at CR
  generalize insideL (rgA a s) (rgB a s) X = I at *
  generalize I.length = m at *
  have hm : (0 : Int) < (m : Int) := by omega
  generalize rgA a s = ra at *
  generalize rgB a s = rb at *
  clear hf h2 he hi hlen
  have KX := Lib.hid h
  have B := Lib.hid (Below.refl w.heap.size w)
  clear hX hXl
  obtain ⟨A, c, rfl⟩ := h.is
  clear h
  generalize hn : X.length = n at *
  clear hn
  go_enter Try.func16, Try.ntmps16
  go_wp2_with fail
  refine (CL.out _ _ KX.out).mono ?_
  rintro e w1 ⟨rfl, hb⟩
  have B := Lib.hid (below_then B.out hb (Nat.le_refl _))
  have KX := Lib.hid (KX.out.still hb)
  clear hb CL
  go_wp2_with fail
  refine (CR.out _).mono ?_
  rintro e w2 ⟨rfl, hb⟩
  have B := Lib.hid (below_then B.out hb (Nat.le_refl _))
  have KX := Lib.hid (KX.out.still hb)
  clear hb CR
  go_wp2_with fail
  refine (CW.out _ _ KX.out).mono ?_
  rintro e w3 ⟨A3, c3, rfl, hb⟩
  have B := Lib.hid (below_then B.out hb (Nat.le_refl _))
  clear hb CW KX
  go_wp2_with fail
  go_ret2
  exact ⟨rfl, B.out⟩

set_option maxRecDepth 4000 in
set_option maxHeartbeats 4000000 in
theorem place_free (h : Holds w v X) (hX : MayL X) (a s f : Int) (hs : s ≤ 9223372036854775807) (hf : bitF f 1 = true) (he : rgE a s = 0) (h2 : bitF f 2 = true) (hi : insideL (rgA a s) (rgB a s) X = []) : Calls Try.prog 16 #[v, .int .i64 a, .int .i64 s, .int .i64 f] w fun e w' => e = .returned (plV (a, 0)) ∧ Below w.heap.size w w' := by
  have CL : Hid (∀ w' u, Holds w' u X → Calls Try.prog 32 #[u] w' fun e w'' => e = .returned (.int .i64 0) ∧ Below w'.heap.size w' w'') := Lib.hid (fun w' u h => by
    have := listE_c h (by have := hX.2; omega)
    unfold liE at this
    rwa [if_pos hX] at this)
  have CR := Lib.hid (range_any a s)
  have hXl : X.length ≤ 10000 := by have := hX.2; omega
  have k1 : (bits .and .i64 f 1 != 0) = true := hf
  have k2 : (bits .and .i64 f 2 != 0) = true := h2
  have CW : Hid (∀ w' u, Holds w' u X → Calls Try.prog 36 #[u, .int .i64 (rgA a s), .int .i64 (rgB a s)] w' fun e w'' => ∃ A c, e = .returned (.slice A (insideL (rgA a s) (rgB a s) X).length c) ∧ Below w'.heap.size w' w'') := Lib.hid (fun w' u h => (within_c h hX.1 _ _).mono fun e w'' ⟨v', he, hh, hb⟩ => by
    obtain ⟨A, c, rfl⟩ := hh.is
    exact ⟨A, c, he, hb⟩)
  rw [hi] at CW
  simp only [List.length_nil] at CW
  rw [he] at CR
  generalize rgA a s = ra at *
  generalize rgB a s = rb at *
  clear hf h2 he hi
  have KX := Lib.hid h
  have B := Lib.hid (Below.refl w.heap.size w)
  clear hX hXl
  obtain ⟨A, c, rfl⟩ := h.is
  clear h
  generalize hn : X.length = n at *
  clear hn
  go_enter Try.func16, Try.ntmps16
  go_wp2_with fail
  refine (CL.out _ _ KX.out).mono ?_
  rintro e w1 ⟨rfl, hb⟩
  have B := Lib.hid (below_then B.out hb (Nat.le_refl _))
  have KX := Lib.hid (KX.out.still hb)
  clear hb CL
  go_wp2_with fail
  refine (CR.out _).mono ?_
  rintro e w2 ⟨rfl, hb⟩
  have B := Lib.hid (below_then B.out hb (Nat.le_refl _))
  have KX := Lib.hid (KX.out.still hb)
  clear hb CR
  go_wp2_with fail
  refine (CW.out _ _ KX.out).mono ?_
  rintro e w3 ⟨A3, c3, rfl, hb⟩
  have B := Lib.hid (below_then B.out hb (Nat.le_refl _))
  clear hb CW KX
  go_wp2_with fail
  go_ret2
  exact ⟨rfl, B.out⟩

set_option maxRecDepth 4000 in
set_option maxHeartbeats 4000000 in
theorem place_hint (h : Holds w v X) (hX : MayL X) (a s f : Int) (hs : s ≤ 9223372036854775807) (hf : bitF f 1 = false) (hfit : FitsAt X a s) : Calls Try.prog 16 #[v, .int .i64 a, .int .i64 s, .int .i64 f] w fun e w' => e = .returned (plV (a, 0)) ∧ Below w.heap.size w w' := by
  have CL : Hid (∀ w' u, Holds w' u X → Calls Try.prog 32 #[u] w' fun e w'' => e = .returned (.int .i64 0) ∧ Below w'.heap.size w' w'') := Lib.hid (fun w' u h => by
    have := listE_c h (by have := hX.2; omega)
    unfold liE at this
    rwa [if_pos hX] at this)
  have CR := Lib.hid (range_any a s)
  have hXl : X.length ≤ 10000 := by have := hX.2; omega
  have k1 : (bits .and .i64 f 1 != 0) = false := hf
  have CF : Hid (∀ w' u, Holds w' u X → Calls Try.prog 37 #[u, .int .i64 a, .int .i64 s] w' fun e w'' => e = .returned (.bool true) ∧ Below w'.heap.size w' w'') := Lib.hid (fun w' u h => fits_yes h hXl hfit)
  generalize rgE a s = er at *
  generalize rgA a s = ra at *
  generalize rgB a s = rb at *
  clear hf hfit
  have KX := Lib.hid h
  have B := Lib.hid (Below.refl w.heap.size w)
  clear hX hXl
  obtain ⟨A, c, rfl⟩ := h.is
  clear h
  generalize hn : X.length = n at *
  clear hn
  go_enter Try.func16, Try.ntmps16
  go_wp2_with fail
  refine (CL.out _ _ KX.out).mono ?_
  rintro e w1 ⟨rfl, hb⟩
  have B := Lib.hid (below_then B.out hb (Nat.le_refl _))
  have KX := Lib.hid (KX.out.still hb)
  clear hb CL
  go_wp2_with fail
  refine (CR.out _).mono ?_
  rintro e w2 ⟨rfl, hb⟩
  have B := Lib.hid (below_then B.out hb (Nat.le_refl _))
  have KX := Lib.hid (KX.out.still hb)
  clear hb CR
  go_wp2_with fail
  refine (CF.out _ _ KX.out).mono ?_
  rintro e w3 ⟨rfl, hb⟩
  have B := Lib.hid (below_then B.out hb (Nat.le_refl _))
  have KX := Lib.hid (KX.out.still hb)
  clear hb CF
  go_wp2_with fail
  go_ret2
  exact ⟨rfl, B.out⟩

set_option maxRecDepth 4000 in
set_option maxHeartbeats 4000000 in
theorem place_low (h : Holds w v X) (hX : MayL X) (a s f : Int) (hs : s ≤ 9223372036854775807) (hf : bitF f 1 = false) (hfit : ¬ FitsAt X a s) (h8 : bitF f 8 = true) : Calls Try.prog 16 #[v, .int .i64 a, .int .i64 s, .int .i64 f] w fun e w' => e = .returned (plV (if (lowOf (roomsL 65536 2097152 s X)).2 then (lowOf (roomsL 65536 2097152 s X)).1 else 0, if (lowOf (roomsL 65536 2097152 s X)).2 then 0 else 5)) ∧ Below w.heap.size w w' := by
  have CL : Hid (∀ w' u, Holds w' u X → Calls Try.prog 32 #[u] w' fun e w'' => e = .returned (.int .i64 0) ∧ Below w'.heap.size w' w'') := Lib.hid (fun w' u h => by
    have := listE_c h (by have := hX.2; omega)
    unfold liE at this
    rwa [if_pos hX] at this)
  have CR := Lib.hid (range_any a s)
  have hXl : X.length ≤ 10000 := by have := hX.2; omega
  have k1 : (bits .and .i64 f 1 != 0) = false := hf
  have k8 : (bits .and .i64 f 8 != 0) = true := h8
  have CF : Hid (∀ w' u, Holds w' u X → Calls Try.prog 37 #[u, .int .i64 a, .int .i64 s] w' fun e w'' => e = .returned (.bool false) ∧ Below w'.heap.size w' w'') := Lib.hid (fun w' u h => fits_no h hXl hfit)
  have CG : Hid (∀ w' u, Holds w' u X → Calls Try.prog 39 #[u, .int .i64 65536, .int .i64 2097152, .int .i64 s] w' fun e w'' => e = .returned (.tuple #[.int .i64 (lowOf (roomsL 65536 2097152 s X)).1, .bool (lowOf (roomsL 65536 2097152 s X)).2]) ∧ Below w'.heap.size w' w'') := Lib.hid (fun w' u h => lowest_c h hXl 65536 2097152 s)
  generalize (lowOf (roomsL 65536 2097152 s X)) = r at *
  obtain ⟨r1, r2⟩ := r
  simp only at CG ⊢
  have CD := Lib.hid (found_any r1 r2)
  generalize (if r2 = true then r1 else 0) = x1 at *
  generalize (if r2 = true then (0 : Int) else 5) = x2 at *
  generalize rgE a s = er at *
  generalize rgA a s = ra at *
  generalize rgB a s = rb at *
  clear hf hfit h8
  have KX := Lib.hid h
  have B := Lib.hid (Below.refl w.heap.size w)
  clear hX hXl
  obtain ⟨A, c, rfl⟩ := h.is
  clear h
  generalize hn : X.length = n at *
  clear hn
  go_enter Try.func16, Try.ntmps16
  go_wp2_with fail
  refine (CL.out _ _ KX.out).mono ?_
  rintro e w1 ⟨rfl, hb⟩
  have B := Lib.hid (below_then B.out hb (Nat.le_refl _))
  have KX := Lib.hid (KX.out.still hb)
  clear hb CL
  go_wp2_with fail
  refine (CR.out _).mono ?_
  rintro e w2 ⟨rfl, hb⟩
  have B := Lib.hid (below_then B.out hb (Nat.le_refl _))
  have KX := Lib.hid (KX.out.still hb)
  clear hb CR
  go_wp2_with fail
  refine (CF.out _ _ KX.out).mono ?_
  rintro e w3 ⟨rfl, hb⟩
  have B := Lib.hid (below_then B.out hb (Nat.le_refl _))
  have KX := Lib.hid (KX.out.still hb)
  clear hb CF
  go_wp2_with fail
  refine (CG.out _ _ KX.out).mono ?_
  rintro e w4 ⟨rfl, hb⟩
  have B := Lib.hid (below_then B.out hb (Nat.le_refl _))
  have KX := Lib.hid (KX.out.still hb)
  clear hb CG
  go_wp2_with fail
  refine (CD.out _).mono ?_
  rintro e w5 ⟨rfl, hb⟩
  have B := Lib.hid (below_then B.out hb (Nat.le_refl _))
  have KX := Lib.hid (KX.out.still hb)
  clear hb CD
  go_wp2_with fail
  go_ret2
  exact ⟨rfl, B.out⟩

set_option maxRecDepth 4000 in
set_option maxHeartbeats 4000000 in
theorem place_high (h : Holds w v X) (hX : MayL X) (a s f : Int) (hs : s ≤ 9223372036854775807) (hf : bitF f 1 = false) (hfit : ¬ FitsAt X a s) (h8 : bitF f 8 = false) : Calls Try.prog 16 #[v, .int .i64 a, .int .i64 s, .int .i64 f] w fun e w' => e = .returned (plV (if (highOf s (roomsL 65536 2097152 s X)).2 then (highOf s (roomsL 65536 2097152 s X)).1 else 0, if (highOf s (roomsL 65536 2097152 s X)).2 then 0 else 5)) ∧ Below w.heap.size w w' := by
  have CL : Hid (∀ w' u, Holds w' u X → Calls Try.prog 32 #[u] w' fun e w'' => e = .returned (.int .i64 0) ∧ Below w'.heap.size w' w'') := Lib.hid (fun w' u h => by
    have := listE_c h (by have := hX.2; omega)
    unfold liE at this
    rwa [if_pos hX] at this)
  have CR := Lib.hid (range_any a s)
  have hXl : X.length ≤ 10000 := by have := hX.2; omega
  have k1 : (bits .and .i64 f 1 != 0) = false := hf
  have k8 : (bits .and .i64 f 8 != 0) = false := h8
  have CF : Hid (∀ w' u, Holds w' u X → Calls Try.prog 37 #[u, .int .i64 a, .int .i64 s] w' fun e w'' => e = .returned (.bool false) ∧ Below w'.heap.size w' w'') := Lib.hid (fun w' u h => fits_no h hXl hfit)
  have CG : Hid (∀ w' u, Holds w' u X → Calls Try.prog 40 #[u, .int .i64 65536, .int .i64 2097152, .int .i64 s] w' fun e w'' => e = .returned (.tuple #[.int .i64 (highOf s (roomsL 65536 2097152 s X)).1, .bool (highOf s (roomsL 65536 2097152 s X)).2]) ∧ Below w'.heap.size w' w'') := Lib.hid (fun w' u h => highest_c h hXl 65536 2097152 s hs)
  generalize (highOf s (roomsL 65536 2097152 s X)) = r at *
  obtain ⟨r1, r2⟩ := r
  simp only at CG ⊢
  have CD := Lib.hid (found_any r1 r2)
  generalize (if r2 = true then r1 else 0) = x1 at *
  generalize (if r2 = true then (0 : Int) else 5) = x2 at *
  generalize rgE a s = er at *
  generalize rgA a s = ra at *
  generalize rgB a s = rb at *
  clear hf hfit h8
  have KX := Lib.hid h
  have B := Lib.hid (Below.refl w.heap.size w)
  clear hX hXl
  obtain ⟨A, c, rfl⟩ := h.is
  clear h
  generalize hn : X.length = n at *
  clear hn
  go_enter Try.func16, Try.ntmps16
  go_wp2_with fail
  refine (CL.out _ _ KX.out).mono ?_
  rintro e w1 ⟨rfl, hb⟩
  have B := Lib.hid (below_then B.out hb (Nat.le_refl _))
  have KX := Lib.hid (KX.out.still hb)
  clear hb CL
  go_wp2_with fail
  refine (CR.out _).mono ?_
  rintro e w2 ⟨rfl, hb⟩
  have B := Lib.hid (below_then B.out hb (Nat.le_refl _))
  have KX := Lib.hid (KX.out.still hb)
  clear hb CR
  go_wp2_with fail
  refine (CF.out _ _ KX.out).mono ?_
  rintro e w3 ⟨rfl, hb⟩
  have B := Lib.hid (below_then B.out hb (Nat.le_refl _))
  have KX := Lib.hid (KX.out.still hb)
  clear hb CF
  go_wp2_with fail
  refine (CG.out _ _ KX.out).mono ?_
  rintro e w4 ⟨rfl, hb⟩
  have B := Lib.hid (below_then B.out hb (Nat.le_refl _))
  have KX := Lib.hid (KX.out.still hb)
  clear hb CG
  go_wp2_with fail
  refine (CD.out _).mono ?_
  rintro e w5 ⟨rfl, hb⟩
  have B := Lib.hid (below_then B.out hb (Nat.le_refl _))
  have KX := Lib.hid (KX.out.still hb)
  clear hb CD
  go_wp2_with fail
  go_ret2
  exact ⟨rfl, B.out⟩

open Classical in
theorem place_c (h : Holds w v X) (hX : MayL X) (a s f : Int) (hs : s ≤ 9223372036854775807) : Calls Try.prog 16 #[v, .int .i64 a, .int .i64 s, .int .i64 f] w fun e w' => e = .returned (plV (plR X a s f)) ∧ Below w.heap.size w w' := by
  unfold plR
  cases hf : bitF f 1 with
  | true =>
    rw [if_pos rfl]
    by_cases he : rgE a s = 0
    · rw [if_neg (fun h => h he)]
      cases h2 : bitF f 2 with
      | true =>
        by_cases hi : insideL (rgA a s) (rgB a s) X = []
        · rw [if_neg (fun h => h.2 hi)]; exact place_free h hX a s f hs hf he h2 hi
        · rw [if_pos ⟨rfl, hi⟩]; exact place_exists h hX a s f hs hf he h2 hi
      | false => rw [if_neg (by simp)]; exact place_fixed h hX a s f hs hf he h2
    · rw [if_pos he]; exact place_range h hX a s f hs hf he
  | false =>
    rw [if_neg (by simp)]
    by_cases hfit : FitsAt X a s
    · rw [if_pos hfit]; exact place_hint h hX a s f hs hf hfit
    · rw [if_neg hfit]
      cases h8 : bitF f 8 with
      | true => rw [if_pos rfl]; exact place_low h hX a s f hs hf hfit h8
      | false => rw [if_neg (by simp)]; exact place_high h hX a s f hs hf hfit h8
end

/-! What is kept. -/
theorem results_tmp_row {P : Program} {fn : Func} {p u : Tmp} {ty : TypeId} (h : fn.results = #[.tmp u, .cell p ty]) (tmps : Array Value) (w : World) (g : Nat) (t : TypeId) (cs : Array Value) (fr : Nat × Nat) (d : TypeDesc)
    (hp : tmps.getD p undef = .pointer (some ⟨g, 0, none⟩)) (hg : w.heap[g]? = some (.cells cs t fr))
    (hu : P.underlying ty = some d) (hd : (match d with | .struct _ | .array _ _ => true | _ => false) = true) (hi : (P.info? ty).map (·.size) = some cs.size) :
    (results fn tmps).run P w = .ok (.tuple #[tmps.getD u undef, .agg cs]) w := by
  have e : (results fn tmps).run P w = ((asAddr (tmps.getD p undef)).run P w).andThen fun a w₁ => ((loadVar ty a).run P w₁).andThen fun v w₂ => .ok (.tuple #[tmps.getD u undef, v]) w₂ := by
    simp only [results, h]
    simp [Sem.run_bind, Result.andThen]
  rw [e, hp]
  simp [asAddr, Result.andThen, run_loadVar_row w g t ty cs fr d hg hu hd hi]

end Go.Proofs.Ytfejoeidffnadaa

/-
  Layer 10: what is refused, and what is kept; what a map asks for: a contract for each call.
-/
namespace Go.Proofs.Ytfejoeidffnadaa
open Go.ChangeShapes Go.WideShapes Go.ChangeAt Go.RowKit Go.Shelf
set_option linter.unusedVariables false

/-- A list of its own, and an answer. -/
def Gives (w : World) (Y : List Ar) (e x : Int) (r : Ending) (w' : World) : Prop := ∃ v', r = .returned (.tuple #[v', ansV e x]) ∧ Mine w.heap.size w' v' Y ∧ Below w.heap.size w w'
/-- Six cells are written. -/
def set6 (w : World) (q : Nat) (x0 x1 x2 x3 x4 x5 : Value) : World := (((((w.setCell ⟨q, 0, none⟩ x0).setCell ⟨q, 1, none⟩ x1).setCell ⟨q, 2, none⟩ x2).setCell ⟨q, 3, none⟩ x3).setCell ⟨q, 4, none⟩ x4).setCell ⟨q, 5, none⟩ x5
theorem six_put {w : World} {q : Nat} {t : TypeId} {a b c d e f : Value} (h : Whole w q t #[a, b, c, d, e, f]) (x0 x1 x2 x3 x4 x5 : Value) : Whole (set6 w q x0 x1 x2 x3 x4 x5) q t #[x0, x1, x2, x3, x4, x5] :=
  (((((Whole.put h 0 _).put 1 _).put 2 _).put 3 _).put 4 _).put 5 _
theorem six_only (w : World) (q : Nat) (x0 x1 x2 x3 x4 x5 : Value) : Only (fun k => k = q) w (set6 w q x0 x1 x2 x3 x4 x5) :=
  ((((((Only.refl (fun k => k = q) w).setCell (p := ⟨q, 0, none⟩) (.inl rfl) _).setCell (p := ⟨q, 1, none⟩) (.inl rfl) _).setCell (p := ⟨q, 2, none⟩) (.inl rfl) _).setCell (p := ⟨q, 3, none⟩) (.inl rfl) _).setCell (p := ⟨q, 4, none⟩) (.inl rfl) _).setCell (p := ⟨q, 5, none⟩) (.inl rfl) _
/-- Six cells, to be read and written. -/
structure Six (w : World) (q : Nat) (a b c d e f : Value) : Prop where
  c : (w.cell? ⟨q, 0, none⟩ = some a ∧ w.cell? ⟨q, 1, none⟩ = some b ∧ w.cell? ⟨q, 2, none⟩ = some c ∧ w.cell? ⟨q, 3, none⟩ = some d ∧ w.cell? ⟨q, 4, none⟩ = some e ∧ w.cell? ⟨q, 5, none⟩ = some f)
  fr : w.frozen? ⟨q, 0, none⟩ = false ∧ w.frozen? ⟨q, 1, none⟩ = false ∧ w.frozen? ⟨q, 2, none⟩ = false ∧ w.frozen? ⟨q, 3, none⟩ = false ∧ w.frozen? ⟨q, 4, none⟩ = false ∧ w.frozen? ⟨q, 5, none⟩ = false
theorem six_of {w : World} {q : Nat} {t : TypeId} {a b c d e f : Value} (h : Whole w q t #[a, b, c, d, e, f]) : Six w q a b c d e f :=
  ⟨row6 h, ⟨h.frozen 0, h.frozen 1, h.frozen 2, h.frozen 3, h.frozen 4, h.frozen 5⟩⟩
/-- The list beside the answer's cells, while they are written. -/
theorem mine_far {B : Nat} {w : World} {v : Value} {l : List Ar} {q : Nat} {cs : Array Value} (h : Mine B w v l) (hq : Whole w q 31 cs) (x0 x1 x2 x3 x4 x5 : Value) : Mine B (set6 w q x0 x1 x2 x3 x4 x5) v l :=
  h.only (six_only w q _ _ _ _ _ _) (fun k hk e => own_apart h hq (by decide) (by rw [hk, e]))
/-- What is left when an answer has been laid into its cells. -/
theorem gives_end {w w1 : World} {v1 : Value} {Y : List Ar} {bag : List (Nat × TypeId × Array Value)} {cs : Array Value} {q : Nat} (G : Bag w w1 ((q, 31, cs) :: bag)) (hq : w.heap.size ≤ q) {B : Nat} (M : Mine B w1 v1 Y) (hB : w.heap.size ≤ B) (e x : Int) :
    Gives w Y e x (.returned (.tuple #[v1, ansV e x])) (set6 w1 q (.int .i64 e) (.int .i64 x) (.int .i64 0) (.bool false) (.int .i64 0) (.int .i64 0)) :=
  ⟨v1, rfl, mine_far (M.base hB) G.v0 _ _ _ _ _ _, G.bel.trans ((six_only w1 q _ _ _ _ _ _).below (fun k hk => by omega) G.bel.size)⟩

section
variable {w : World} {v v' : Value} {X Y : List Ar}
set_option maxHeartbeats 1000000 in
theorem refused_c (h : Holds w v X) (hl : X.length ≤ 10000) (e : Int) : Calls Try.prog 23 #[v, .int .i64 e] w (Gives w X e 0) := by
  have G := Lib.hid ((Bag.new w).add 31 (ansC 0 0))
  have CC := Lib.hid (clone_c (h.still G.out.bel) hl)
  obtain ⟨A, c, rfl⟩ := h.is
  clear h
  generalize hn : X.length = n at *
  clear hn
  go_enter Try.func23, Try.ntmps23
  go_wp2_with fail
  refine CC.out.mono ?_
  rintro r w1 ⟨v1, rfl, hm, hb⟩
  have G := Lib.hid (G.out.still hb)
  rw [World.size_alloc] at hm
  have M := Lib.hid hm
  clear hm hb CC
  obtain ⟨⟨c0, c1, c2, c3, c4, c5⟩, ⟨f0, f1, f2, f3, f4, f5⟩⟩ := six_of (G.out.v0)
  go_wp2_with fail
  refine bodyPost_ret (results_tmp_row rfl _ _ w.heap.size 31 (ansC e 0) (0, 0) _ rfl (six_put G.out.v0 _ _ _ _ _ _) Try.underlying31 rfl (by kernel_rfl)) rfl ?_
  exact gives_end G.out (Nat.le_refl _) M.out (by omega) e 0

set_option maxHeartbeats 1000000 in
theorem kept_many (h : Holds w v X) (hl : X.length ≤ 10000) (h' : Holds w v' Y) (hm : 24 < Y.length) (x : Int) : Calls Try.prog 24 #[v, v', .int .i64 x] w (Gives w X 9 0) := by
  have G := Lib.hid ((Bag.new w).add 31 (ansC 0 0))
  have CC := Lib.hid (refused_c (h.still G.out.bel) hl 9)
  obtain ⟨A, c, rfl⟩ := h.is
  obtain ⟨A', c', rfl⟩ := h'.is
  clear h h'
  have hz : (24 : Int) < (Y.length : Int) := by omega
  generalize hn : X.length = n at *
  clear hn
  generalize hn : Y.length = m at *
  clear hn
  go_enter Try.func24, Try.ntmps24
  go_wp2_with fail
  refine CC.out.mono ?_
  rintro r w1 ⟨v1, rfl, hm, hb⟩
  have G := Lib.hid (G.out.still hb)
  rw [World.size_alloc] at hm
  have M := Lib.hid hm
  clear hm hb CC
  obtain ⟨⟨c0, c1, c2, c3, c4, c5⟩, ⟨f0, f1, f2, f3, f4, f5⟩⟩ := six_of (G.out.v0)
  unfold ansV ansC
  go_wp2_with fail
  refine bodyPost_ret (results_tmp_row rfl _ _ w.heap.size 31 (ansC 9 0) (0, 0) _ rfl (six_put G.out.v0 _ _ _ _ _ _) Try.underlying31 rfl (by kernel_rfl)) rfl ?_
  exact gives_end G.out (Nat.le_refl _) M.out (by omega) 9 0

set_option maxHeartbeats 1000000 in
theorem kept_few (h : Holds w v X) (h' : Holds w v' Y) (hm : Y.length ≤ 24) (x : Int) : Calls Try.prog 24 #[v, v', .int .i64 x] w (Gives w Y 0 x) := by
  have G := Lib.hid ((Bag.new w).add 31 (ansC 0 0))
  have CC := Lib.hid (clone_c (h'.still G.out.bel) (by omega))
  obtain ⟨A, c, rfl⟩ := h.is
  obtain ⟨A', c', rfl⟩ := h'.is
  clear h h'
  have hz : ¬ (24 : Int) < (Y.length : Int) := by omega
  generalize hn : X.length = n at *
  clear hn
  generalize hn : Y.length = m at *
  clear hn
  go_enter Try.func24, Try.ntmps24
  go_wp2_with fail
  refine CC.out.mono ?_
  rintro r w1 ⟨v1, rfl, hm, hb⟩
  have G := Lib.hid (G.out.still hb)
  rw [World.size_alloc] at hm
  have M := Lib.hid hm
  clear hm hb CC
  obtain ⟨⟨c0, c1, c2, c3, c4, c5⟩, ⟨f0, f1, f2, f3, f4, f5⟩⟩ := six_of (G.out.v0)
  go_wp2_with fail
  refine bodyPost_ret (results_tmp_row rfl _ _ w.heap.size 31 (ansC 0 x) (0, 0) _ rfl (six_put G.out.v0 _ _ _ _ _ _) Try.underlying31 rfl (by kernel_rfl)) rfl ?_
  exact gives_end G.out (Nat.le_refl _) M.out (by omega) 0 x
end

/-! What a map asks for. -/
/-- A call: its kind, Addr, Len, New, To, Prot, Flags, Back, Off. -/
structure Cl where
  k : Int
  a : Int
  n : Int
  nw : Int
  tw : Int
  p : Int
  f : Int
  b : Int
  o : Int
def Cl.cells (c : Cl) : Array Value := #[.int .i64 c.k, .int .i64 c.a, .int .i64 c.n, .int .i64 c.nw, .int .i64 c.tw, .int .i64 c.p, .int .i64 c.f, .int .i64 c.b, .int .i64 c.o]
def Cl.v (c : Cl) : Value := .agg c.cells
/-- All its numbers are of 64 bits. -/
def i64 (x : Int) : Prop := -9223372036854775808 ≤ x ∧ x ≤ 9223372036854775807
/-- Its place, and the place's error. -/
noncomputable def plE (X : List Ar) (c : Cl) : Int × Int := if MayL X then plR X c.a (szV c.n) c.f else (0, 1)
/-- What is wrong with it, and the area that it asks for. -/
noncomputable def wtE (X : List Ar) (c : Cl) : Int := firstE [liE X, szE c.n, prE c.p, fgE c.f, bkE c.b c.o (szV c.n), (plE X c).2]
noncomputable def wtA (X : List Ar) (c : Cl) : Ar := ⟨(plE X c).1, (plE X c).1 + szV c.n, c.p, bitF c.f 4, c.b, c.o⟩

theorem fits_in {X : List Ar} {a s : Int} (h : FitsAt X a s) : 65536 ≤ a ∧ a % 4096 = 0 ∧ a + s ≤ 2097152 := by
  obtain ⟨h1, h2, h3, g, hg, h4, h5⟩ := h
  have := (gapsL_good g hg).lo; have := (gapsL_good g hg).hi
  omega
theorem sz_sz {n : Int} (h : szE n = 0) : szV (szV n) = szV n ∧ szE (szV n) = 0 := by
  have hp := sz_pages h
  generalize szV n = s at *
  rcases sz_is s with ⟨h1, _⟩ | ⟨h1, _⟩ | ⟨h1, h2, h3⟩
  · omega
  · omega
  · exact ⟨by omega, h2⟩
open Classical in
/-- A place that is told lies in the space, in whole pages. -/
theorem plR_num {X : List Ar} {a n f : Int} (hn : szE n = 0) (h : (plR X a (szV n) f).2 = 0) : 65536 ≤ (plR X a (szV n) f).1 ∧ (plR X a (szV n) f).1 % 4096 = 0 ∧ (plR X a (szV n) f).1 + szV n ≤ 2097152 := by
  have hs := sz_sz hn
  have hp := sz_pages hn
  unfold plR at h ⊢
  by_cases h1 : bitF f 1 = true
  · rw [if_pos h1] at h ⊢
    by_cases he : rgE a (szV n) = 0
    · rw [if_neg (fun k => k he)] at h ⊢
      by_cases h2 : bitF f 2 = true ∧ insideL (rgA a (szV n)) (rgB a (szV n)) X ≠ []
      · rw [if_pos h2] at h; simp at h
      · rw [if_neg h2]
        have := rg_ok he
        rw [hs.1] at this
        simp only; omega
    · rw [if_pos he] at h; exact absurd h he
  · rw [if_neg h1] at h ⊢
    by_cases hf : FitsAt X a (szV n)
    · rw [if_pos hf]; exact fits_in hf
    · rw [if_neg hf] at h ⊢
      by_cases h8 : bitF f 8 = true
      · rw [if_pos h8] at h ⊢
        rcases low_is X 65536 2097152 (szV n) with ⟨e, _⟩ | ⟨b, e, hb, _⟩
        · rw [e] at h; simp at h
        · rw [e]; simp only [if_true]; exact fits_in hb.1
      · rw [if_neg h8] at h ⊢
        rcases high_is X 65536 2097152 (szV n) with ⟨e, _⟩ | ⟨b, e, hb, _⟩
        · rw [e] at h; simp at h
        · rw [e]; simp only [if_true]; exact fits_in hb.1
theorem first_zero : ∀ {es : List Int}, firstE es = 0 ↔ ∀ e ∈ es, e = 0
  | [] => by simp [firstE]
  | e :: r => by
    unfold firstE
    by_cases h : e = 0
    · rw [if_pos h, first_zero]; simp [h]
    · rw [if_neg h]; simp [h]
structure Asks (X : List Ar) (c : Cl) : Prop where
  may : MayL X
  n : szE c.n = 0
  p : prE c.p = 0
  f : fgE c.f = 0
  b : bkE c.b c.o (szV c.n) = 0
  e : plE X c = plR X c.a (szV c.n) c.f
  pl : (plE X c).2 = 0
theorem wt_zero {X : List Ar} {c : Cl} : wtE X c = 0 ↔ Asks X c := by
  unfold wtE
  rw [first_zero]
  constructor
  · intro h
    have hm : MayL X := by
      have := h (liE X) (by simp)
      unfold liE at this
      by_cases hm : MayL X
      · exact hm
      · rw [if_neg hm] at this; cases this
    exact ⟨hm, h _ (by simp), h _ (by simp), h _ (by simp), h _ (by simp), by unfold plE; rw [if_pos hm], h _ (by simp)⟩
  · rintro ⟨h1, h2, h3, h4, h5, h6, h7⟩ e he
    simp only [List.mem_cons, List.not_mem_nil, or_false] at he
    rcases he with rfl | rfl | rfl | rfl | rfl | rfl
    · unfold liE; rw [if_pos h1]
    · exact h2
    · exact h3
    · exact h4
    · exact h5
    · exact h7
theorem Asks.num {X : List Ar} {c : Cl} (h : Asks X c) : 65536 ≤ (plE X c).1 ∧ (plE X c).1 % 4096 = 0 ∧ (plE X c).1 + szV c.n ≤ 2097152 := by
  have := h.pl
  rw [h.e] at this ⊢
  exact plR_num h.n this
theorem Asks.formed {X : List Ar} {c : Cl} (h : Asks X c) : Formed (wtA X c) := by
  have hp := sz_pages h.n
  have hn := h.num
  have hb := bk_is c.b c.o (szV c.n)
  have hbz := h.b
  have hpr := h.p
  unfold prE at hpr
  refine (formed_iff _).2 ?_
  simp only [wtA]
  by_cases hq : 0 ≤ c.p ∧ c.p ≤ 7
  · omega
  · rw [if_neg hq] at hpr; cases hpr

theorem or_six (W : World) (t : TypeId) (e0 e1 e2 e3 e4 e5 : Int) : Calls Try.prog 31 #[.slice (some ⟨W.heap.size, 0, none⟩) 6 6] (W.alloc (.cells #[.int .i64 e0, .int .i64 e1, .int .i64 e2, .int .i64 e3, .int .i64 e4, .int .i64 e5] t)) fun e w' =>
    e = .returned (.int .i64 (firstE [e0, e1, e2, e3, e4, e5])) ∧ w' = W.alloc (.cells #[.int .i64 e0, .int .i64 e1, .int .i64 e2, .int .i64 e3, .int .i64 e4, .int .i64 e5] t) := by
  have hw := Whole.new W t #[.int .i64 e0, .int .i64 e1, .int .i64 e2, .int .i64 e3, .int .i64 e4, .int .i64 e5]
  refine or_any [e0, e1, e2, e3, e4, e5] (by simp) W.heap.size 6 _ fun i hi => ?_
  rw [hw.cell]
  simp at hi
  rcases (show i = 0 ∨ i = 1 ∨ i = 2 ∨ i = 3 ∨ i = 4 ∨ i = 5 by omega) with rfl | rfl | rfl | rfl | rfl | rfl <;> rfl
theorem or_two (W : World) (t : TypeId) (e0 e1 : Int) : Calls Try.prog 31 #[.slice (some ⟨W.heap.size, 0, none⟩) 2 2] (W.alloc (.cells #[.int .i64 e0, .int .i64 e1] t)) fun e w' =>
    e = .returned (.int .i64 (firstE [e0, e1])) ∧ w' = W.alloc (.cells #[.int .i64 e0, .int .i64 e1] t) := by
  have hw := Whole.new W t #[.int .i64 e0, .int .i64 e1]
  refine or_any [e0, e1] (by simp) W.heap.size 2 _ fun i hi => ?_
  rw [hw.cell]
  simp at hi
  rcases (show i = 0 ∨ i = 1 by omega) with rfl | rfl <;> rfl

/-- What is answered: an area and an error. -/
noncomputable def wtV (X : List Ar) (c : Cl) : Value := .tuple #[(if wtE X c = 0 then wtA X c else Ar.nil).v, .int .i64 (wtE X c)]
theorem row9 {w : World} {q : Nat} {t : TypeId} {c : Cl} (h : Whole w q t c.cells) : w.cell? ⟨q, 0, none⟩ = some (.int .i64 c.k) ∧ w.cell? ⟨q, 1, none⟩ = some (.int .i64 c.a) ∧ w.cell? ⟨q, 2, none⟩ = some (.int .i64 c.n) ∧ w.cell? ⟨q, 3, none⟩ = some (.int .i64 c.nw) ∧ w.cell? ⟨q, 4, none⟩ = some (.int .i64 c.tw) ∧ w.cell? ⟨q, 5, none⟩ = some (.int .i64 c.p) ∧ w.cell? ⟨q, 6, none⟩ = some (.int .i64 c.f) ∧ w.cell? ⟨q, 7, none⟩ = some (.int .i64 c.b) ∧ w.cell? ⟨q, 8, none⟩ = some (.int .i64 c.o) :=
  ⟨h.cell 0, h.cell 1, h.cell 2, h.cell 3, h.cell 4, h.cell 5, h.cell 6, h.cell 7, h.cell 8⟩
set_option maxRecDepth 4000 in
set_option maxHeartbeats 8000000 in
theorem wanted_c {w : World} {v : Value} {X : List Ar} (h : Holds w v X) (hl : X.length ≤ 10000) (c : Cl) (ho : i64 c.o) : Calls Try.prog 22 #[v, c.v] w fun e w' => e = .returned (wtV X c) ∧ Below w.heap.size w w' := by
  have G := Lib.hid (((Bag.new w).add 24 c.cells).add 48 Ar.nil.cells)
  have KX := Lib.hid (h.still G.out.bel)
  have CS := Lib.hid (size_any c.n)
  have CP : Hid (∀ w' u, Holds w' u X → Calls Try.prog 16 #[u, .int .i64 c.a, .int .i64 (szV c.n), .int .i64 c.f] w' fun e w'' => e = .returned (plV (plE X c)) ∧ Below w'.heap.size w' w'') := Lib.hid (fun w' u h => by
    unfold plE
    by_cases hm : MayL X
    · rw [if_pos hm]
      refine place_c h hm _ _ _ ?_
      rcases sz_is c.n with ⟨_, _, h3⟩ | ⟨_, _, h3⟩ | ⟨h1, _, h3⟩ <;> omega
    · rw [if_neg hm]; exact place_wrong h hl hm _ _ _)
  have CL : Hid (∀ w' u, Holds w' u X → Calls Try.prog 32 #[u] w' fun e w'' => e = .returned (.int .i64 (liE X)) ∧ Below w'.heap.size w' w'') := Lib.hid (fun w' u h => listE_c h hl)
  have CR := Lib.hid (prot_any c.p)
  have CF := Lib.hid (flagsE_any c.f)
  have hs0 : 0 ≤ szV c.n ∧ szV c.n ≤ 2031616 := by rcases sz_is c.n with ⟨_, _, h3⟩ | ⟨_, _, h3⟩ | ⟨h1, _, h3⟩ <;> omega
  have CB := Lib.hid (backing_any c.b c.o (szV c.n) hs0.1 (by omega) ho)
  have HZ : Hid (wtE X c = 0 → 65536 ≤ (plE X c).1 ∧ (plE X c).1 + szV c.n ≤ 2097152) := Lib.hid (fun h => by have := (wt_zero.1 h).num; omega)
  unfold wtV wtA
  have HE : Hid (firstE [liE X, szE c.n, prE c.p, fgE c.f, bkE c.b c.o (szV c.n), (plE X c).2] = wtE X c) := Lib.hid rfl
  generalize wtE X c = we at *
  generalize plE X c = pl at *
  obtain ⟨p1, p2⟩ := pl
  unfold plV at CP
  simp only at CP HE HZ ⊢
  generalize liE X = le at *
  generalize szE c.n = se at *
  generalize prE c.p = pe at *
  generalize fgE c.f = fe at *
  generalize bkE c.b c.o (szV c.n) = be at *
  generalize szV c.n = sv at *
  obtain ⟨A, cc, rfl⟩ := h.is
  clear h ho hl
  generalize hn : X.length = n at *
  clear hn
  have CO : Hid (∀ W : World, Calls Try.prog 31 #[.slice (some ⟨W.heap.size, 0, none⟩) 6 6] (W.alloc (.cells #[.int .i64 le, .int .i64 se, .int .i64 pe, .int .i64 fe, .int .i64 be, .int .i64 p2] 27)) fun e w' => e = .returned (.int .i64 we) ∧ w' = W.alloc (.cells #[.int .i64 le, .int .i64 se, .int .i64 pe, .int .i64 fe, .int .i64 be, .int .i64 p2] 27)) := Lib.hid (fun W => by
    have := or_six W 27 le se pe fe be p2
    rwa [HE.out] at this)
  clear HE
  obtain ⟨ck, ca, cn, cnw, ctw, cp, cf, cb, co⟩ := c
  rw [World.size_alloc] at G
  unfold Cl.v
  simp only [Cl.cells] at *
  go_enter Try.func22, Try.ntmps22
  go_wp2_with fail
  refine (CS.out _).mono ?_
  rintro e w1 ⟨rfl, hb⟩
  have G := Lib.hid (G.out.still hb)
  have KX := Lib.hid (KX.out.still hb)
  clear hb CS
  obtain ⟨c0, c1, c2, c3, c4, c5, c6, c7, c8⟩ := row9 (c := ⟨ck, ca, cn, cnw, ctw, cp, cf, cb, co⟩) (G.out.v1)
  simp only at c0 c1 c2 c3 c4 c5 c6 c7 c8
  go_wp2_with fail
  refine (CP.out _ _ KX.out).mono ?_
  rintro e w2 ⟨rfl, hb⟩
  have G := Lib.hid (G.out.still hb)
  have KX := Lib.hid ((KX.out.still hb).still (below_drew (Below.refl _ w2)))
  have BB := Lib.hid (below_drew (Below.refl w2.heap.size w2))
  clear hb CP c0 c1 c2 c3 c4 c5 c6 c7 c8
  have HG := Lib.hid (fun W h => G.out.still (w' := W) h)
  have HK : Hid (∀ W, Below w2.heap.size w2 W → (W.cell? ⟨w.heap.size, 5, none⟩ = some (.int .i64 cp) ∧ W.cell? ⟨w.heap.size, 6, none⟩ = some (.int .i64 cf) ∧ W.cell? ⟨w.heap.size, 7, none⟩ = some (.int .i64 cb) ∧ W.cell? ⟨w.heap.size, 8, none⟩ = some (.int .i64 co))) := Lib.hid (fun W h => by
    obtain ⟨c0, c1, c2, c3, c4, c5, c6, c7, c8⟩ := row9 (c := ⟨ck, ca, cn, cnw, ctw, cp, cf, cb, co⟩) ((HG.out W h).v1)
    exact ⟨c5, c6, c7, c8⟩)
  clear G
  go_wp2_with fail
  go_region_held3 (fun W => W.cell? ⟨w.heap.size, 5, none⟩ = some (.int .i64 cp) ∧ W.cell? ⟨w.heap.size, 6, none⟩ = some (.int .i64 cf) ∧ W.cell? ⟨w.heap.size, 7, none⟩ = some (.int .i64 cb) ∧ W.cell? ⟨w.heap.size, 8, none⟩ = some (.int .i64 co))
    (first | exact HK.out _ BB.out | exact HK.out _ (BB.out.alloc BB.out.size _))
    (first
    | (go_at_call 32; refine (CL.out _ _ KX.out).mono ?_; rintro e wn ⟨rfl, hb⟩; have BB := Lib.hid (below_then BB.out hb (Nat.le_refl _)); clear hb CL KX)
    | (go_at_call 49; refine (CR.out _).mono ?_; rintro e wn ⟨rfl, hb⟩; have BB := Lib.hid (below_then BB.out hb (Nat.le_refl _)); clear hb CR)
    | (go_at_call 50; refine (CF.out _).mono ?_; rintro e wn ⟨rfl, hb⟩; have BB := Lib.hid (below_then BB.out hb (Nat.le_refl _)); clear hb CF)
    | (go_at_call 51; refine (CB.out _).mono ?_; rintro e wn ⟨rfl, hb⟩; have BB := Lib.hid (below_then BB.out hb (Nat.le_refl _)); clear hb CB)
    | (go_at_call 31; refine (CO.out _).mono ?_; rintro e wo ⟨rfl, hw⟩; have BB : Hid (Below w2.heap.size w2 wo) := Lib.hid (by rw [hw]; exact BB.out.alloc BB.out.size _); clear hw CO)
    | fail)
  all_goals
    have G := Lib.hid (HG.out _ BB.out)
    obtain ⟨⟨d0, d1, d2, d3, d4, d5⟩, ⟨f0, f1, f2, f3, f4, f5⟩⟩ := six_of (G.out.v0)
    obtain ⟨c5, c6, c7, c8⟩ := HK.out _ BB.out
    by_cases hw : we = 0
    · obtain ⟨z1, z2⟩ := HZ.out hw
      have HR : Hid (∀ (x y : Ar), (if we = 0 then x else y) = x) := Lib.hid (fun x y => if_pos hw)
      subst hw
      clear HZ HK HG
      go_wp2_with fail
      refine bodyPost_ret (results_row_tmp rfl _ _ (w.heap.size + 1) 48 _ (0, 0) _ rfl (six_put G.out.v0 _ _ _ _ _ _) Try.underlying48 rfl (by kernel_rfl)) rfl ?_
      exact ⟨(by first | rfl | (rw [HR.out]; rfl)), G.out.bel.trans ((six_only _ (w.heap.size + 1) _ _ _ _ _ _).below (fun k hk => by omega) G.out.bel.size)⟩
    · have hw' : (we != 0) = true := by simpa using hw
      have HR : Hid (∀ (x y : Ar), (if we = 0 then x else y) = y) := Lib.hid (fun x y => if_neg hw)
      clear HZ HK HG
      go_wp2_with fail
      refine bodyPost_ret (results_row_tmp rfl _ _ (w.heap.size + 1) 48 _ (0, 0) _ rfl (six_put G.out.v0 _ _ _ _ _ _) Try.underlying48 rfl (by kernel_rfl)) rfl ?_
      exact ⟨(by first | rfl | (rw [HR.out]; rfl)), G.out.bel.trans ((six_only _ (w.heap.size + 1) _ _ _ _ _ _).below (fun k hk => by omega) G.out.bel.size)⟩
end Go.Proofs.Ytfejoeidffnadaa
