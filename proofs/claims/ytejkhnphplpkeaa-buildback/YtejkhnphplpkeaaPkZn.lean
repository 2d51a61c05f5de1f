/-
  Texts of our own, one behind the other (BdSmall): what the laws' proofs rest on; each says at its head what it holds. No conditions.
-/
import Derived.Test.YtejkhnphplpkeaaPkZm
/-
  Layer 18: the small calls: handles that are given, entries that are a tree's, a node's greatest gap.
-/
namespace Go.Proofs.Ytejkhnphplpkeaa
open Go.ChangeShapes Go.WideShapes Go.ChangeAt Go.RowKit
set_option linter.unusedVariables false

/-- Can all be a slot's? -/
def Given (hs : List Int) : Prop := ∀ i, i < hs.length → 0 < nth hs i
theorem given1_c (h : Int) (w : World) : Calls Try.prog 62 #[.int .i64 h] w fun e w' => e = .returned (.bool (decide (h ≤ 0))) ∧ w' = w := by
  go_enter Try.func62, Try.ntmps62
  go_wp2_with fail
  go_ret
  exact ⟨rfl, rfl⟩
set_option maxHeartbeats 4000000 in
theorem given2_c {w : World} {v : Value} {hs : List Int} (h : Wds w v hs) (hl : hs.length ≤ 1000) : Calls Try.prog 76 #[v, .func (.func 62) #[] #[]] w fun e w' => ∃ r : Int, e = .returned (.int .i64 r) ∧ (r < 0 ↔ Given hs) ∧ w' = w := by
  obtain ⟨A, c, rfl, _, hA⟩ := h
  obtain ⟨R, hR⟩ : ∃ R : Ending → World → Prop, (fun e w' => ∃ r : Int, e = .returned (.int .i64 r) ∧ (r < 0 ↔ Given hs) ∧ w' = w) = R := ⟨_, rfl⟩
  rw [hR]
  have YES : Hid (Given hs → R (.returned (.int .i64 (-1))) w) := Lib.hid (fun h => by rw [← hR]; exact ⟨_, rfl, ⟨fun _ => h, fun _ => by omega⟩, rfl⟩)
  have NO : Hid (∀ i : Nat, i < hs.length → nth hs i ≤ 0 → R (.returned (.int .i64 (i : Int))) w) := Lib.hid (fun i hi h => by rw [← hR]; exact ⟨_, rfl, ⟨fun h => by omega, fun g => by have := g i hi; omega⟩, rfl⟩)
  unfold Given at YES
  clear hR
  have CA := Lib.hid hA
  clear hA
  generalize hs.length = n at *
  go_enter Try.func76, Try.ntmps76
  go_wp2_with fail
  go_loopw [5, 8] (fun _ iv wr => ∃ i : Nat, i ≤ n ∧ iv = .int .i64 i ∧ wr = w ∧ ∀ j, j < i → 0 < nth hs j) (fun _ iv _ => n - (intOf iv).toNat)
  case atStart => exact ⟨0, by omega, rfl, rfl, fun j hj => by omega⟩
  case round =>
    obtain ⟨i, hi, rfl, rfl, hj⟩ := hrel
    have HJ := Lib.hid hj
    clear hj
    by_cases hlt : i < n
    · have j1 : (i : Int) < (n : Int) := by omega
      obtain ⟨b, off, rfl, ca⟩ := CA.out (by omega)
      have c0 := ca i hlt
      have NI := Lib.hid (fun h => NO.out i hlt h)
      have NX : Hid (0 < nth hs i → ∀ j, j < i + 1 → 0 < nth hs j) := Lib.hid (fun h j hj => by
        by_cases e : j = i
        · subst e; exact h
        · exact HJ.out j (by omega))
      clear ca CA YES NO HJ
      generalize nth hs i = x at *
      go_wp2_with fail
      refine (given1_c _ _).mono ?_
      rintro e w1 ⟨rfl, rfl⟩
      by_cases hx : x ≤ 0
      · have FX := Lib.hid (NI.out hx)
        have d1 : decide (x ≤ 0) = true := decide_eq_true hx
        rw [d1]
        clear NX NI d1
        go_wp2_with fail
        exact FX.out
      · have FX := Lib.hid (NX.out (by omega))
        have d1 : decide (x ≤ 0) = false := decide_eq_false hx
        rw [d1]
        clear NX NI d1
        go_wp2_with fail
        go_roundw
        case rel => exact ⟨i + 1, by omega, by go_num, trivial, FX.out⟩
        case measure => simp [intOf]; omega
    · have e : i = n := by omega
      subst e
      have j1 : ¬ (i : Int) < (i : Int) := by omega
      have FX := Lib.hid (YES.out HJ.out)
      clear YES NO HJ CA
      go_wp2_with fail
      exact FX.out
set_option maxHeartbeats 4000000 in
theorem given_c {w : World} {v : Value} {hs : List Int} (h : Wds w v hs) (hl : hs.length ≤ 1000) {r : Bool} (hr : Tells r (Given hs)) : Calls Try.prog 37 #[v] w fun e w' => e = .returned (.bool r) ∧ w' = w := by
  have hnot : ∀ (x : Bool) (w : World), (Op.unary .not (.bool x)).run Try.prog w = .ok (.bool (!x)) w := fun _ _ => rfl
  have C0 := Lib.hid (fun h => given2_c (w := w) (v := v) (hs := hs) h hl)
  have C : Hid (Calls Try.prog 63 #[v, .func (.func 62) #[] #[]] w fun e w' => e = .returned (.bool (!r)) ∧ w' = w) := Lib.hid (by
    have C1 := Lib.hid (C0.out h)
    clear C0
    obtain ⟨A, c, rfl, _, hA⟩ := h
    clear hA
    obtain ⟨r', hr'⟩ : ∃ r', (!r) = r' := ⟨_, rfl⟩
    rw [hr']
    go_enter Try.func63, Try.ntmps63
    go_wp2_with fail
    refine C1.out.mono ?_
    rintro e w1 ⟨x, rfl, hx, rfl⟩
    have fx : r' = decide (0 ≤ x) := (by
      rw [← hr']
      cases r with
      | true => have : x < 0 := hx.2 (hr.1 rfl); simp; omega
      | false =>
        have : ¬ x < 0 := fun h => by
          have := hr.2 (hx.1 h)
          cases this
        simp; omega)
    subst fx
    clear hr' hx C1
    go_wp2_with fail
    go_ret
    exact ⟨rfl, rfl⟩)
  clear C0
  obtain ⟨A, c, rfl, _, hA⟩ := h
  clear hA hr
  go_enter Try.func37, Try.ntmps37
  go_wp2_with fail
  refine C.out.mono ?_
  rintro e w1 ⟨rfl, rfl⟩
  clear C
  cases r with
  | true =>
    go_wp2_with fail
    go_ret
    exact ⟨rfl, rfl⟩
  | false =>
    go_wp2_with fail
    go_ret
    exact ⟨rfl, rfl⟩

/-! A node's greatest gap. -/
theorem mx_most (l : List Int) (k : Nat) (hk : k ≤ l.length) : mx l k = most0 (l.take k) := by
  induction k with
  | zero => rfl
  | succ k ih =>
    have hlt : k < l.length := by omega
    have e : l.take (k + 1) = l.take k ++ [nth l k] := take_one hlt
    have ih := ih (by omega)
    unfold most0 at ih ⊢
    rw [e, List.foldl_append, ← ih]
    show (if mx l k < nth l k then nth l k else mx l k) = max (mx l k) (nth l k)
    split <;> omega
theorem mx_all (l : List Int) : mx l l.length = most0 l := by
  have := mx_most l l.length (Nat.le_refl _)
  rwa [List.take_length] at this
theorem gap_ge {n : Nd} (h : NdF n) : 0 ≤ nth n.gaps 0 := by
  have e := h.ent 0 (by have := h.cnt.one; omega)
  have ok := e.ok
  have up := e.up
  unfold holdsE at ok
  split at ok
  · exact ok.2.1
  · split at ok
    · rw [ok]; omega
    · rw [ok.2]; exact Int.le_refl _
set_option maxHeartbeats 4000000 in
theorem largestN_c {n : Nd} {w : World} {e s g : Value} (h : NdIn w n e s g) (hF : NdF n) : Calls Try.prog 65 #[n.val e s g] w fun e w' => e = .returned (.int .i64 (most0 n.gaps)) ∧ Below w.heap.size w w' := by
  obtain ⟨R, hR⟩ : ∃ R : Ending → World → Prop, (fun e w' => e = .returned (.int .i64 (most0 n.gaps)) ∧ Below w.heap.size w w') = R := ⟨_, rfl⟩
  rw [hR]
  have FIN : Hid (∀ W, Below w.heap.size w W → R (.returned (.int .i64 (most0 n.gaps))) W) := Lib.hid (fun W hb => by rw [← hR]; exact ⟨rfl, hb⟩)
  clear hR
  have hnot : ∀ (x : Bool) (w : World), (Op.unary .not (.bool x)).run Try.prog w = .ok (.bool (!x)) w := fun _ _ => rfl
  have B0 := below_new w (.cells (n.cells e s g) 34)
  have P0 := Whole.new w 34 (n.cells e s g)
  have h0 := h.still B0
  have CF := Lib.hid (formed_c (r := true) h0 ⟨fun _ => hF, fun _ => rfl⟩)
  have HH := Lib.hid h0
  have BB := Lib.hid B0
  have PP := Lib.hid P0
  have HF := Lib.hid hF
  have h1 := hF.cnt.one
  have h8 := hF.cnt.few
  have hgl := Lib.hid hF.cnt.gl
  have HM : Hid (mx n.gaps n.gaps.length = most0 n.gaps) := Lib.hid (mx_all _)
  have H0 := Lib.hid (gap_ge hF)
  obtain ⟨A, c, rfl⟩ := h.we.is
  obtain ⟨A', c', rfl⟩ := h.ws.is
  obtain ⟨A'', c'', rfl⟩ := h.wg.is
  clear h h0 B0 P0 hF
  obtain ⟨inner, lo, ends, slots, gaps⟩ := n
  simp only [Nd.val, Nd.cells] at *
  go_enter Try.func65, Try.ntmps65
  go_wp2_with fail
  refine CF.out.mono ?_
  rintro e w1 ⟨rfl, hb1⟩
  have P1 := Lib.hid (PP.out.below hb1 PP.out.lt)
  have B1 := Lib.hid (below_then BB.out hb1 (Nat.le_refl _))
  have CM := Lib.hid (max_c (HH.out.still hb1).wg (by have := hgl.out; simp only at this ⊢; omega) (by have := hgl.out; simp only at this ⊢; omega) H0.out)
  rw [HM.out] at CM
  obtain ⟨d0, d1, d2, d3, d4⟩ := row5 P1.out
  clear hb1 PP BB CF HH
  go_wp2_with fail
  refine CM.out.mono ?_
  rintro e w2 ⟨rfl, rfl⟩
  have FX := Lib.hid (FIN.out _ B1.out)
  clear CM FIN
  go_wp2_with fail
  exact FX.out
end Go.Proofs.Ytejkhnphplpkeaa
