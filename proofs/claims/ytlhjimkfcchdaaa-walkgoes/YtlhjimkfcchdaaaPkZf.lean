/-
  Texts of our own, one behind the other (WkRef, WkCame): what the laws' proofs rest on; each says at its head what it holds. No conditions.
-/
import Derived.Test.YtlhjimkfcchdaaaPkZe
import Derived.Test.YtlhjimkfcchdaaaPkYd
import Derived.Test.YtlhjimkfcchdaaaPkWh
import Derived.Test.YtlhjimkfcchdaaaPkYc
import Derived.Deep.Slices
import Derived.OpenShut
/-
  Layer 17: the reference: a handle's words; finding.
-/
namespace Go.Proofs.Ytlhjimkfcchdaaa
open Go.ChangeShapes Go.WideShapes Go.ChangeAt Go.RowKit
set_option linter.unusedVariables false

section
variable {w0 : World} {A : Option Addr} {n c : Nat} {ls : List (List Int)}
/-- What of a handle is told. -/
def ofA (ls : List (List Int)) (h : Int) (W : World) (e : Ending) : Prop :=
  match wordsAt ls h with
  | none => e = .returned (.tuple #[.slice none 0 0, .bool false])
  | some x => ∃ B d, e = .returned (.tuple #[.slice B x.length d, .bool true]) ∧ Wds W (.slice B x.length d) x
set_option maxHeartbeats 4000000 in
theorem of_c (H : Wss w0 (.slice A n c) ls) (hn : ls.length = n) (h8 : n ≤ 8) (h : Int) (h1 : -9223372036854775808 ≤ h) (h2 : h ≤ 9223372036854775807) (W : World) (hb : Below w0.heap.size w0 W) :
    Calls Try.prog 28 #[.slice A n c, .int .i64 h] W fun e w' => ofA ls h W e ∧ W = w' := by
  have RD := Lib.hid (H.row hn W hb)
  obtain ⟨R, hR⟩ : ∃ R : Ending → World → Prop, (fun e w' => ofA ls h W e ∧ W = w') = R := ⟨_, rfl⟩
  rw [hR]
  clear H
  by_cases hneg : h < 0
  · have NO : Hid (R (.returned (.tuple #[.slice none 0 0, .bool false])) W) := Lib.hid (by
      rw [← hR]
      refine ⟨?_, rfl⟩
      unfold ofA wordsAt
      rw [if_pos (.inl hneg)])
    clear RD hR
    go_enter Try.func28, Try.ntmps28
    go_wp2_with fail
    exact NO.out
  · have hm : h.tmod 65536 = h % 65536 := Int.tmod_eq_emod_of_nonneg (by omega)
    obtain ⟨j, hj⟩ : ∃ j : Nat, h % 65536 = (j : Int) := ⟨(h % 65536).toNat, by omega⟩
    have hj2 : j < 65536 := by omega
    rw [hj] at hm
    have hwr : IntKind.i64.wrap (j : Int) = (j : Int) := by rw [IntKind.wrap_i64]; omega
    by_cases hlow : j < 1
    · have NO : Hid (R (.returned (.tuple #[.slice none 0 0, .bool false])) W) := Lib.hid (by
        rw [← hR]
        refine ⟨?_, rfl⟩
        unfold ofA wordsAt
        rw [hj, if_pos (.inr (.inl (by omega)))])
      have d1 : (j : Int) < 1 := by omega
      clear RD hR
      go_enter Try.func28, Try.ntmps28
      go_wp2_with fail
      exact NO.out
    · by_cases hhi : n < j
      · have NO : Hid (R (.returned (.tuple #[.slice none 0 0, .bool false])) W) := Lib.hid (by
          rw [← hR]
          refine ⟨?_, rfl⟩
          unfold ofA wordsAt
          rw [hj, if_pos (.inr (.inr (by omega)))])
        have d1 : ¬ (j : Int) < 1 := by omega
        have d2 : (n : Int) < (j : Int) := by omega
        clear RD hR
        go_enter Try.func28, Try.ntmps28
        go_wp2_with fail
        exact NO.out
      · obtain ⟨i, rfl⟩ : ∃ i, j = i + 1 := ⟨j - 1, by omega⟩
        obtain ⟨b, off, B, d, rfl, hc, hw⟩ := RD.out i (by omega)
        have YES : Hid (R (.returned (.tuple #[.slice B (ls.getD i []).length d, .bool true])) W) := Lib.hid (by
          rw [← hR]
          refine ⟨?_, rfl⟩
          unfold ofA wordsAt
          rw [hj, if_neg (by omega), show (((i + 1 : Nat) : Int) - 1).toNat = i by omega]
          exact ⟨B, d, rfl, hw⟩)
        rw [show ((i + 1 : Nat) : Int) = (i : Int) + 1 by omega] at hm hwr
        have d1 : ¬ (i : Int) + 1 < 1 := by omega
        have d2 : ¬ (n : Int) < (i : Int) + 1 := by omega
        have d3 : (i : Int) < (n : Int) := by omega
        have i8 : (i : Int) ≤ 8 := by omega
        clear RD hR hw
        generalize (ls.getD i []).length = L at *
        go_enter Try.func28, Try.ntmps28
        go_wp2_with fail
        exact YES.out
theorem lookFromW_fit {x : List Int} (hx : Fits x) (addr : Int) (inn : Bool) (m i : Nat) : -9223372036854775808 ≤ (lookFromW x addr inn m i).1.1 ∧ (lookFromW x addr inn m i).1.1 ≤ 9223372036854775807 := by
  induction m generalizing i with
  | zero => simp [lookFromW]
  | succ m ih =>
    unfold lookFromW
    split
    · exact ih _
    · exact fits_nth hx _
theorem lookW_fit {x : List Int} (hx : Fits x) (addr : Int) : -9223372036854775808 ≤ (lookW x addr).1.1 ∧ (lookW x addr).1.1 ≤ 9223372036854775807 := by
  unfold lookW
  split
  · exact lookFromW_fit hx _ _ _ _
  · simp
theorem words_row {h : Int} {x : List Int} (e : wordsAt ls h = some x) (h28 : All28 ls) (hf : ∀ i, i < ls.length → Fits (ls.getD i [])) : x.length = 28 ∧ Fits x := by
  obtain ⟨i, hi, _, rfl⟩ := wordsAt_some e
  exact ⟨h28 i hi, hf i hi⟩
def FindWRel (W : World) (ls : List (List Int)) (addr : Int) (FR : (Int × Bool) × Nat) (hv nv iv : Value) (wr : World) : Prop :=
  ∃ (r : Nat) (h : Int) (k : Nat), r ≤ 8 ∧ hv = .int .i64 h ∧ nv = .int .i64 k ∧ iv = .int .i64 r ∧ (-9223372036854775808 ≤ h ∧ h ≤ 9223372036854775807) ∧ k ≤ 10 * r ∧ Below W.heap.size W wr ∧ FR = ((findW ls addr (8 - r) h).1, k + (findW ls addr (8 - r) h).2)
set_option maxHeartbeats 8000000 in
theorem refFind_c (H : Wss w0 (.slice A n c) ls) (hn : ls.length = n) (h8 : n ≤ 8) (h28 : All28 ls) (hf : ∀ i, i < ls.length → Fits (ls.getD i [])) (root addr : Int) (h1 : -9223372036854775808 ≤ root) (h2 : root ≤ 9223372036854775807) (W : World) (hb : Below w0.heap.size w0 W) :
    Calls Try.prog 12 #[.slice A n c, .int .i64 root, .int .i64 addr] W fun e w' => e = .returned (.tuple #[.int .i64 (findW ls addr 8 root).1.1, .bool (findW ls addr 8 root).1.2, .int .i64 ((findW ls addr 8 root).2 : Int)]) ∧ Below W.heap.size W w' := by
  have hnot : ∀ (x : Bool) (w : World), (Op.unary .not (.bool x)).run Try.prog w = .ok (.bool (!x)) w := fun _ _ => rfl
  have OF : Hid (∀ h, -9223372036854775808 ≤ h → h ≤ 9223372036854775807 → ∀ W', Below W.heap.size W W' → Calls Try.prog 28 #[.slice A n c, .int .i64 h] W' fun e w' => ofA ls h W' e ∧ W' = w') := Lib.hid (fun h a1 a2 W' hb' => of_c H hn h8 h a1 a2 W' (below_then hb hb' (Nat.le_refl _)))
  obtain ⟨FR, hFR⟩ : ∃ FR, findW ls addr 8 root = FR := ⟨_, rfl⟩
  rw [hFR]
  obtain ⟨R, hR⟩ : ∃ R : Ending → World → Prop, (fun e w' => e = .returned (.tuple #[.int .i64 FR.1.1, .bool FR.1.2, .int .i64 (FR.2 : Int)]) ∧ Below W.heap.size W w') = R := ⟨_, rfl⟩
  rw [hR]
  have FIN : Hid (∀ (a : Int) (b : Bool) (k : Nat) w', FR = ((a, b), k) → Below W.heap.size W w' → R (.returned (.tuple #[.int .i64 a, .bool b, .int .i64 (k : Int)])) w') := Lib.hid (fun a b k w' e hb => by
    rw [← hR, e]
    exact ⟨rfl, hb⟩)
  have L0 : Hid (FindWRel W ls addr FR (.int .i64 root) (.int .i64 0) (.int .i64 0) W) := Lib.hid ⟨0, root, 0, by omega, rfl, rfl, rfl, ⟨h1, h2⟩, by omega, Below.refl _ _, by rw [← hFR]; simp⟩
  have ROW := Lib.hid (fun h x (e : wordsAt ls h = some x) => words_row e h28 hf)
  clear hR H hb h28 hf h1 h2 hFR
  go_enter Try.func12, Try.ntmps12
  go_wp2_with fail
  go_loopw [1, 9, 10] (fun hv nv iv wr => FindWRel W ls addr FR hv nv iv wr) (fun _ _ iv _ => 8 - (intOf iv).toNat)
  case atStart => exact L0.out
  case round =>
    obtain ⟨r, h, k, hr, rfl, rfl, rfl, hh, hk, hbl, e2⟩ := hrel
    clear L0
    by_cases hlt : r < 8
    · have hr8 : (r : Int) < 8 := by omega
      have hk8 : (k : Int) ≤ 80 := by omega
      rw [show 8 - r = (8 - (r + 1)) + 1 by omega] at e2
      unfold findW at e2
      have C := Lib.hid (OF.out h hh.1 hh.2 wr hbl)
      have HB := Lib.hid hbl
      go_wp2_with fail
      refine C.out.mono ?_
      rintro e w3 ⟨ho, rfl⟩
      clear C OF
      unfold ofA at ho
      cases hw : wordsAt ls h with
      | none =>
        rw [hw] at ho e2
        simp only at ho e2
        subst ho
        have FX := Lib.hid (FIN.out 0 false (k + 1) wr e2 HB.out)
        rw [show ((k + 1 : Nat) : Int) = (k : Int) + 1 by omega] at FX
        clear FIN HB ROW e2
        go_wp2_with fail
        go_ret3
        exact FX.out
      | some x =>
        rw [hw] at ho e2
        simp only at ho e2
        obtain ⟨B, d, rfl, hx⟩ := ho
        obtain ⟨hl, hfx⟩ := ROW.out h x hw
        rw [hl] at hx ⊢
        have CL := Lib.hid (refLook_c hx hl hfx addr)
        have hm := lookW_most x addr
        have hft := lookW_fit hfx addr
        clear hx hl hfx
        generalize lookW x addr = q at *
        obtain ⟨⟨f, inn, ok⟩, kk⟩ := q
        unfold lookWV at CL
        simp only at hm hft e2 CL
        have hkk : (kk : Int) ≤ 10 := by omega
        have E2 := Lib.hid e2
        have HM := Lib.hid hm
        have HFT := Lib.hid hft
        have hs1 : wrap64 ((k : Int) + (kk : Int)) = (k : Int) + (kk : Int) := by unfold wrap64; omega
        have HK := Lib.hid hk
        clear e2 hm hft hw hk
        go_wp2_with fail
        refine CL.out.mono ?_
        rintro e w5 ⟨rfl, hb5⟩
        have HB5 := Lib.hid (below_then HB.out hb5 (Nat.le_refl _))
        clear hb5 CL HB
        cases ok with
        | false =>
          have FX := Lib.hid (FIN.out 0 false (k + kk) w5 E2.out HB5.out)
          rw [show ((k + kk : Nat) : Int) = (k : Int) + (kk : Int) by omega] at FX
          clear FIN HB5 ROW E2
          go_wp2_with fail
          go_ret3
          exact FX.out
        | true =>
          cases inn with
          | false =>
            have FX := Lib.hid (FIN.out f true (k + kk) w5 E2.out HB5.out)
            rw [show ((k + kk : Nat) : Int) = (k : Int) + (kk : Int) by omega] at FX
            clear FIN HB5 ROW E2
            go_wp2_with fail
            go_ret3
            exact FX.out
          | true =>
            have NX : Hid (FindWRel W ls addr FR (.int .i64 f) (.int .i64 ((k : Int) + (kk : Int))) (.int .i64 ((r : Int) + 1)) w5) := Lib.hid
              ⟨r + 1, f, k + kk, by omega, rfl, by rw [show ((k + kk : Nat) : Int) = (k : Int) + (kk : Int) by omega], by go_num, HFT.out, by have := HM.out; have := HK.out; omega, HB5.out, by rw [E2.out]; simp only [if_true]; rw [Nat.add_assoc]⟩
            clear FIN HB5 ROW E2
            go_wp2_with fail
            go_roundw
            case rel => exact NX.out
            case measure => simp [intOf]; omega
    · have hr8 : r = 8 := by omega
      subst hr8
      have FX := Lib.hid (FIN.out 0 false k wr e2 hbl)
      clear FIN hbl ROW e2 OF
      go_wp2_with fail
      go_ret3
      exact FX.out
end
end Go.Proofs.Ytlhjimkfcchdaaa

/-
  Layer 17: rows of words that came in.
-/
namespace Go.Proofs.Ytlhjimkfcchdaaa
open Go.ChangeShapes Go.WideShapes Go.RowKit Go.Deep
set_option linter.unusedVariables false
section
variable {H : Type} {enc : TypeId × Value → H} {w : World} {base base' : Nat} {spare : Nat → Bool} {held : Bool}
/-- Rows that came in. -/
structure RowsCame (w : World) (v : Value) (ls : List (List Int)) : Prop where
  is : Wss w v ls
  fit : ∀ i, i < ls.length → Fits (ls.getD i []) ∧ (ls.getD i []).length ≤ 9223372036854775807
  len : ls.length ≤ 9223372036854775807
theorem rows_cells {x : Value} {fuel : Nat} {y : DataW H × List MemPlace} (h : DataW.trod enc Try.prog w base' spare held fuel 22 [x] = some y) : ∃ ls, RowsCame w x ls := by
  rcases open_slice Try.underlying22 h with ⟨hcs, _⟩ | ⟨a, len, cap, m, n, D, Pl, hcs, hb, hl, hm, hmm, hx, hi⟩
  · simp only [List.cons.injEq, and_true] at hcs
    subst hcs
    exact ⟨[], ⟨⟨none, 0, rfl, by simp, fun h => absurd h (by simp)⟩, fun i hi => absurd hi (by simp), by simp⟩⟩
  · simp only [List.cons.injEq, and_true] at hcs
    subst hcs
    have hlm : len ≤ m := by rw [hmm]; split <;> omega
    have hC : Try.prog.cellsOf 31 = 1 := by kernel_rfl
    have main : ∀ k, k < len → ∃ (u : Value) (l : List Int), w.cell? (a.add k) = some u ∧ Wds w u l ∧ Fits l ∧ l.length ≤ 9223372036854775807 := by
      intro k hk
      obtain ⟨cs', hc, ht'⟩ := hi k (by omega)
      rw [hC] at hc
      obtain ⟨_, hcl, hat⟩ := World.cells?_some hc
      have h0 := hat 0 (by omega)
      match cs', hcl with
      | [v], _ =>
        obtain ⟨l, h1, h2, h3⟩ := words_cells ht'
        rw [add_add] at h0
        exact ⟨v, l, by simpa using h0, h1, h2, h3⟩
    obtain ⟨f, hf⟩ : ∃ f : Nat → List Int, ∀ k, k < len → ∃ u, w.cell? (a.add k) = some u ∧ Wds w u (f k) ∧ Fits (f k) ∧ (f k).length ≤ 9223372036854775807 :=
      ⟨fun k => if h : k < len then (main k h).choose_spec.choose else [], fun k hk => by
        simp only [dif_pos hk]
        exact ⟨_, (main k hk).choose_spec.choose_spec⟩⟩
    have hlen : ((List.range len).map f).length = len := by simp
    have hat : ∀ i, i < len → ((List.range len).map f).getD i [] = f i := fun i hi => by
      rw [List.getD_eq_getElem?_getD, List.getElem?_map, List.getElem?_range hi]
      rfl
    have hmx : maxLen = 9223372036854775807 := rfl
    refine ⟨(List.range len).map f, ⟨⟨some a, cap, by rw [hlen], by rw [hlen]; exact hl, fun h0 => ?_⟩, fun i hi' => ?_, by rw [hlen]; omega⟩⟩
    · rw [hlen] at h0 ⊢
      obtain ⟨b, off, spot⟩ := a
      obtain ⟨u0, hu0, _⟩ := hf 0 h0
      have hspot : spot = none := by simpa [Addr.add] using World.cell?_spot hu0
      subst hspot
      refine ⟨b, off, rfl, fun k hk => ?_⟩
      obtain ⟨u, hu, hw, _⟩ := hf k hk
      rw [hat k hk]
      rw [add_plain] at hu
      exact ⟨u, hu, hw⟩
    · rw [hlen] at hi'
      rw [hat i hi']
      obtain ⟨u, _, _, h2, h3⟩ := hf i hi'
      exact ⟨h2, h3⟩
set_option maxRecDepth 100000 in
theorem rows_came {v : Value} {d : DataW H} {p : List MemPlace} (ok : Value.okWide Try.prog w .any base 22 v) (h : DataW.Trod enc Try.prog w base' spare held 22 v d p) : ∃ ls, RowsCame w v ls := by
  obtain ⟨A, n, c, rfl⟩ := okWide_slice Try.underlying22 ok
  obtain ⟨fuel, hf⟩ := h
  exact rows_cells hf
end
end Go.Proofs.Ytlhjimkfcchdaaa
