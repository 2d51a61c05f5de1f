/-
  Texts of our own, one behind the other (ProtSmall, ProtDo): what the laws' proofs rest on; each says at its head what it holds. No conditions.
-/
import Derived.Test.YtholpgcghpikgaaGreatPkPa
import Derived.Test.YtholpgcghpikgaaGreatPkLb
import Derived.Test.YtholpgcghpikgaaGreatPkLc
/-
  Layer 11: the small calls: a contract for each.
-/
namespace Go.Proofs.YtholpgcghpikgaaGreat
open Go.ChangeShapes Go.WideShapes Go.ChangeAt Go.RowKit Go.Shelf
set_option linter.unusedVariables false

/-! Whether a list may come. -/
set_option maxHeartbeats 1000000 in
theorem plistE_c {w : World} {v : Value} {X : List Ar} (h : Holds w v X) (hl : X.length ≤ 10000) : Calls Tryz.prog 51 #[v] w fun e w' => e = .returned (.int .i64 (liE X)) ∧ Below w.heap.size w w' := by
  obtain ⟨A, c, rfl, hc, hA⟩ := h
  have CR := Lib.hid (right_any A X c (by omega) w hA)
  unfold liE
  clear hA
  by_cases hm : X.length ≤ 24
  · have hz : ¬ (24 : Int) < (X.length : Int) := by omega
    by_cases hr : RightL X
    · rw [if_pos (show MayL X from ⟨hr, hm⟩)]
      rw [decide_eq_true hr] at CR
      generalize X.length = n at *
      go_enter Tryz.func51, Tryz.ntmps51
      go_wp2_with fail
      refine CR.out.mono ?_
      rintro e w1 ⟨rfl, hb⟩
      go_wp2_with fail
      go_ret
      exact ⟨rfl, hb⟩
    · rw [if_neg (fun h : MayL X => hr h.1)]
      rw [decide_eq_false hr] at CR
      generalize X.length = n at *
      go_enter Tryz.func51, Tryz.ntmps51
      go_wp2_with fail
      refine CR.out.mono ?_
      rintro e w1 ⟨rfl, hb⟩
      go_wp2_with fail
      go_ret
      exact ⟨rfl, hb⟩
  · have hz : (24 : Int) < (X.length : Int) := by omega
    rw [if_neg (fun h : MayL X => hm h.2)]
    clear CR
    generalize X.length = n at *
    go_enter Tryz.func51, Tryz.ntmps51
    go_wp2_with fail
    go_ret
    exact ⟨rfl, Below.refl _ _⟩

/-! What is wanted. -/
def wnE (p : Int) : Int := if 1 ≤ p ∧ p ≤ 7 then 0 else 1
theorem wantE_any (p : Int) : Says 52 #[.int .i64 p] (.int .i64 (wnE p)) := by
  intro w
  have X := Lib.hid (prot_any p)
  by_cases hp : p = 0
  · subst hp
    unfold wnE
    rw [if_neg (by omega)]
    go_enter Tryz.func52, Tryz.ntmps52
    go_wp2_with fail
    go_ret
    exact ⟨rfl, Below.refl _ _⟩
  · have hp' : (p == 0) = false := by simpa using hp
    have e : prE p = wnE p := by
      unfold prE wnE
      by_cases h : 0 ≤ p ∧ p ≤ 7
      · rw [if_pos h, if_pos (by omega)]
      · rw [if_neg h, if_neg (by omega)]
    rw [e] at X
    generalize wnE p = r at *
    clear e
    go_enter Tryz.func52, Tryz.ntmps52
    go_wp2_with fail
    refine (X.out _).mono ?_
    rintro e w1 ⟨rfl, hb⟩
    go_wp2_with fail
    go_ret
    exact ⟨rfl, hb⟩

/-! Whether an area allows it. -/
def acE (p : Int) (ok : Bool) (k : Int) : Int := if ok = true then (if mayB p k = true then 0 else 8) else 7
set_option maxHeartbeats 1000000 in
theorem accessE_any (a : Ar) (ok : Bool) (k : Int) : Says 53 #[a.v, .bool ok, .int .i64 k] (.int .i64 (acE a.p ok k)) := by
  intro w
  have X := Lib.hid (may_any a k)
  have B := Lib.hid (below_new w (.cells a.cells 52))
  unfold acE
  cases ok with
  | false =>
    clear X
    obtain ⟨s, t, p, sh, bk, off⟩ := a
    unfold Ar.v Ar.cells at *
    rw [if_neg (by simp)]
    go_enter Tryz.func53, Tryz.ntmps53
    go_wp2_with fail
    go_ret
    exact ⟨rfl, B.out⟩
  | true =>
    rw [if_pos rfl]
    cases hm : mayB a.p k with
    | true =>
      rw [hm] at X
      clear hm
      obtain ⟨s, t, p, sh, bk, off⟩ := a
      unfold Ar.v Ar.cells at *
      rw [if_pos rfl]
      simp only at X B ⊢
      go_enter Tryz.func53, Tryz.ntmps53
      go_wp2_with fail
      refine (X.out _).mono ?_
      rintro e w1 ⟨rfl, hb⟩
      have B := Lib.hid (below_then B.out hb (Nat.le_refl _))
      clear hb
      go_wp2_with fail
      go_ret
      exact ⟨rfl, B.out⟩
    | false =>
      rw [hm] at X
      clear hm
      obtain ⟨s, t, p, sh, bk, off⟩ := a
      unfold Ar.v Ar.cells at *
      rw [if_neg (by simp)]
      simp only at X B ⊢
      go_enter Tryz.func53, Tryz.ntmps53
      go_wp2_with fail
      refine (X.out _).mono ?_
      rintro e w1 ⟨rfl, hb⟩
      have B := Lib.hid (below_then B.out hb (Nat.le_refl _))
      clear hb
      go_wp2_with fail
      go_ret
      exact ⟨rfl, B.out⟩

/-! Whether a range is covered. -/
def cvB (X : List Ar) (lo hi : Int) : Bool := decide (RightL X) && cvL lo hi (insideL lo hi X)
def cvE (X : List Ar) (lo hi : Int) : Int := if cvB X lo hi = true then 0 else 7
theorem covered_c {w : World} {v : Value} {X : List Ar} (h : Holds w v X) (hl : X.length ≤ 10000) (lo hi : Int) : Calls Tryz.prog 116 #[v, .int .i64 lo, .int .i64 hi] w fun e w' => e = .returned (.bool (cvB X lo hi)) ∧ Below w.heap.size w w' := by
  unfold cvB
  by_cases hr : RightL X
  · rw [decide_eq_true hr, Bool.true_and]
    exact covered_any h hr lo hi
  · rw [decide_eq_false hr, Bool.false_and]
    obtain ⟨A, c, rfl, hc, hA⟩ := h
    exact covered_no A X c lo hi hl hr w hA
theorem coverE_c {w : World} {v : Value} {X : List Ar} (h : Holds w v X) (hl : X.length ≤ 10000) (lo hi : Int) : Calls Tryz.prog 79 #[v, .int .i64 lo, .int .i64 hi] w fun e w' => e = .returned (.int .i64 (cvE X lo hi)) ∧ Below w.heap.size w w' := by
  have C := Lib.hid (covered_c h hl lo hi)
  obtain ⟨A, c, rfl⟩ := h.is
  unfold cvE
  clear h hl
  generalize X.length = n at *
  cases hb : cvB X lo hi with
  | true =>
    rw [hb] at C
    rw [if_pos rfl]
    clear hb
    go_enter Tryz.func79, Tryz.ntmps79
    go_wp2_with fail
    refine C.out.mono ?_
    rintro e w1 ⟨rfl, hb⟩
    go_wp2_with fail
    go_ret
    exact ⟨rfl, hb⟩
  | false =>
    rw [hb] at C
    rw [if_neg (by simp)]
    clear hb
    go_enter Tryz.func79, Tryz.ntmps79
    go_wp2_with fail
    refine C.out.mono ?_
    rintro e w1 ⟨rfl, hb⟩
    go_wp2_with fail
    go_ret
    exact ⟨rfl, hb⟩
theorem find_c {w : World} {v : Value} {X : List Ar} (h : Holds w v X) (hl : X.length ≤ 10000) (x : Int) : Calls Tryz.prog 49 #[v, .int .i64 x] w fun e w' => e = .returned (foundV (if RightL X then findL x X else none)) ∧ Below w.heap.size w w' := by
  obtain ⟨A, c, rfl, hc, hA⟩ := h
  by_cases hr : RightL X
  · rw [if_pos hr]; exact find_any A X c x hr w hA
  · rw [if_neg hr]; exact find_no A X c x hl hr w hA

/-! An answer. -/
/-- An answer: its error, and what a page has. -/
def ansT (e : Int) (t : At) : Array Value := #[.int .i64 e, .int .i64 0, .int .i64 t.p, .bool t.sh, .int .i64 t.bk, .int .i64 t.off]
theorem ansT_nil (e : Int) : ansT e At.nil = ansC e 0 := rfl
set_option maxHeartbeats 1000000 in
theorem answer_any (t : At) (e : Int) : Says 45 #[t.v, .int .i64 e] (.agg (ansT e (if e = 0 then t else At.nil))) := by
  intro w
  by_cases he : e = 0
  · rw [if_pos he]
    subst he
    obtain ⟨p, sh, bk, off⟩ := t
    unfold At.v
    go_enter Tryz.func45, Tryz.ntmps45
    go_wp2_with fail
    refine bodyPost_ret (results_cell_row rfl _ _ (w.heap.size + 1) 34 _ (0, 0) _ rfl (heap_alloc2_new _ _ _) Tryz.underlying34 rfl (by kernel_rfl)) rfl ?_
    exact ⟨rfl, below_new2 _ _ _⟩
  · rw [if_neg he]
    have he' : (e != 0) = true := by simpa using he
    obtain ⟨p, sh, bk, off⟩ := t
    unfold At.v
    go_enter Tryz.func45, Tryz.ntmps45
    go_wp2_with fail
    refine bodyPost_ret (results_cell_row rfl _ _ (w.heap.size + 1) 34 _ (0, 0) _ rfl (heap_alloc2_new _ _ _) Tryz.underlying34 rfl (by kernel_rfl)) rfl ?_
    exact ⟨rfl, below_new2 _ _ _⟩

/-! A fault. -/
theorem or_three (W : World) (t : TypeId) (e0 e1 e2 : Int) : Calls Tryz.prog 41 #[.slice (some ⟨W.heap.size, 0, none⟩) 3 3] (W.alloc (.cells #[.int .i64 e0, .int .i64 e1, .int .i64 e2] t)) fun e w' =>
    e = .returned (.int .i64 (firstE [e0, e1, e2])) ∧ w' = W.alloc (.cells #[.int .i64 e0, .int .i64 e1, .int .i64 e2] t) := by
  have hw := Whole.new W t #[.int .i64 e0, .int .i64 e1, .int .i64 e2]
  refine or_any [e0, e1, e2] (by simp) W.heap.size 3 _ fun i hi => ?_
  rw [hw.cell]
  simp at hi
  rcases (show i = 0 ∨ i = 1 ∨ i = 2 by omega) with rfl | rfl | rfl <;> rfl
theorem or_four (W : World) (t : TypeId) (e0 e1 e2 e3 : Int) : Calls Tryz.prog 41 #[.slice (some ⟨W.heap.size, 0, none⟩) 4 4] (W.alloc (.cells #[.int .i64 e0, .int .i64 e1, .int .i64 e2, .int .i64 e3] t)) fun e w' =>
    e = .returned (.int .i64 (firstE [e0, e1, e2, e3])) ∧ w' = W.alloc (.cells #[.int .i64 e0, .int .i64 e1, .int .i64 e2, .int .i64 e3] t) := by
  have hw := Whole.new W t #[.int .i64 e0, .int .i64 e1, .int .i64 e2, .int .i64 e3]
  refine or_any [e0, e1, e2, e3] (by simp) W.heap.size 4 _ fun i hi => ?_
  rw [hw.cell]
  simp at hi
  rcases (show i = 0 ∨ i = 1 ∨ i = 2 ∨ i = 3 by omega) with rfl | rfl | rfl | rfl <;> rfl

/-- What is found, what a page has, and what is wrong with a fault. -/
def fnO (X : List Ar) (x : Int) : Option Ar := if RightL X then findL x X else none
def fnA (X : List Ar) (x : Int) : Ar := (fnO X x).getD Ar.nil
def fnT (X : List Ar) (x : Int) : At := match fnO X x with | some a => a.attr x | none => At.nil
def faE (X : List Ar) (c : Cl) : Int := firstE [liE X, wnE c.p, acE (fnA X c.a).p (fnO X c.a).isSome c.p]
def faT (X : List Ar) (c : Cl) : At := if faE X c = 0 then fnT X c.a else At.nil
theorem fnA_attr (X : List Ar) (x : Int) (w : World) : Calls Tryz.prog 50 #[(fnA X x).v, .int .i64 x] w fun e w' => ∃ b, e = .returned (.tuple #[(fnT X x).v, .bool b]) ∧ Below w.heap.size w w' := by
  unfold fnA fnT
  cases ho : fnO X x with
  | none =>
    have := attr_any Ar.nil x
    rw [if_neg (fun h => not_formed_nil h.formed)] at this
    exact (this w).mono fun e w' ⟨he, hb⟩ => ⟨false, he, hb⟩
  | some a =>
    have hh : HasA a x := by
      unfold fnO at ho
      by_cases hr : RightL X
      · rw [if_pos hr] at ho; exact (find_is ho).2
      · rw [if_neg hr] at ho; cases ho
    have := attr_any a x
    rw [if_pos hh] at this
    exact (this w).mono fun e w' ⟨he, hb⟩ => ⟨true, he, hb⟩

set_option maxRecDepth 4000 in
set_option maxHeartbeats 8000000 in
theorem fault_c {w : World} {v : Value} {X : List Ar} (h : Holds w v X) (hl : X.length ≤ 10000) (c : Cl) : Calls Tryz.prog 24 #[v, c.v] w fun e w' => e = .returned (.agg (ansT (faE X c) (faT X c))) ∧ Below w.heap.size w w' := by
  have G := Lib.hid (((Bag.new w).add 38 c.cells).add 34 (ansC 0 0))
  rw [World.size_alloc] at G
  have KX := Lib.hid (h.still G.out.bel)
  have CF : Hid (∀ w' u, Holds w' u X → Calls Tryz.prog 49 #[u, .int .i64 c.a] w' fun e w'' => e = .returned (.tuple #[(fnA X c.a).v, .bool (fnO X c.a).isSome]) ∧ Below w'.heap.size w' w'') := Lib.hid (fun w' u h => find_c h hl c.a)
  have CA := Lib.hid (fnA_attr X c.a)
  have CL : Hid (∀ w' u, Holds w' u X → Calls Tryz.prog 51 #[u] w' fun e w'' => e = .returned (.int .i64 (liE X)) ∧ Below w'.heap.size w' w'') := Lib.hid (fun w' u h => plistE_c h hl)
  have CW := Lib.hid (wantE_any c.p)
  have CC := Lib.hid (accessE_any (fnA X c.a) (fnO X c.a).isSome c.p)
  have CO : Hid (∀ W : World, Calls Tryz.prog 41 #[.slice (some ⟨W.heap.size, 0, none⟩) 3 3] (W.alloc (.cells #[.int .i64 (liE X), .int .i64 (wnE c.p), .int .i64 (acE (fnA X c.a).p (fnO X c.a).isSome c.p)] 30)) fun e w' => e = .returned (.int .i64 (faE X c)) ∧ w' = W.alloc (.cells #[.int .i64 (liE X), .int .i64 (wnE c.p), .int .i64 (acE (fnA X c.a).p (fnO X c.a).isSome c.p)] 30)) := Lib.hid (fun W => or_three W 30 _ _ _)
  have CN : Hid (Says 45 #[(fnT X c.a).v, .int .i64 (faE X c)] (.agg (ansT (faE X c) (faT X c)))) := Lib.hid (answer_any (fnT X c.a) (faE X c))
  generalize faT X c = ft at *
  generalize faE X c = fe at *
  generalize liE X = le at *
  generalize wnE c.p = we at *
  generalize acE (fnA X c.a).p (fnO X c.a).isSome c.p = ae at *
  generalize fnT X c.a = t at *
  generalize fnA X c.a = a at *
  generalize (fnO X c.a).isSome = ok at *
  obtain ⟨A, cc, rfl⟩ := h.is
  clear h hl
  generalize hn : X.length = n at *
  clear hn
  obtain ⟨ck, ca, cn, cnw, ctw, cp, cf, cb, co⟩ := c
  obtain ⟨a0, a1, a2, a3, a4, a5⟩ := a
  obtain ⟨t0, t1, t2, t3⟩ := t
  obtain ⟨r0, r1, r2, r3⟩ := ft
  unfold Cl.v Ar.v At.v at *
  simp only [Cl.cells, ansC, ansT] at *
  go_enter Tryz.func24, Tryz.ntmps24
  go_wp2_with fail
  refine (CF.out _ _ KX.out).mono ?_
  rintro e w1 ⟨rfl, hb⟩
  have G := Lib.hid ((G.out.still hb).add 52 #[.int .i64 a0, .int .i64 a1, .int .i64 a2, .bool a3, .int .i64 a4, .int .i64 a5])
  have KX := Lib.hid ((KX.out.still hb).still (below_new w1 (.cells #[.int .i64 a0, .int .i64 a1, .int .i64 a2, .bool a3, .int .i64 a4, .int .i64 a5] 52)))
  have c1 : (w1.alloc (.cells #[.int .i64 a0, .int .i64 a1, .int .i64 a2, .bool a3, .int .i64 a4, .int .i64 a5] 52)).cell? ⟨w.heap.size, 1, none⟩ = some (.int .i64 ca) := G.out.v2.cell 1
  clear hb CF
  go_wp2_with fail
  refine (CA.out _).mono ?_
  rintro e w3 ⟨bb, rfl, hb⟩
  have G := Lib.hid ((G.out.still hb).add 32 #[.int .i64 t0, .bool t1, .int .i64 t2, .int .i64 t3])
  have KX := Lib.hid ((KX.out.still hb).still (below_new w3 (.cells #[.int .i64 t0, .bool t1, .int .i64 t2, .int .i64 t3] 32)))
  clear hb CA c1
  go_upto_region 3 with (fail)
  generalize hw4 : World.alloc w3 _ = w4 at *
  clear hw4
  generalize w1.heap.size = q at *
  generalize w3.heap.size = q2 at *
  have HQ : Hid (q ≠ w.heap.size + 1) := Lib.hid (G.out.v1.apart G.out.v2 (by decide))
  have HQ2 : Hid (q2 ≠ w.heap.size + 1) := Lib.hid (G.out.v0.apart G.out.v2 (by decide))
  have BB : Hid (Only (fun k => k = w.heap.size + 1) w4 w4.drew) := Lib.hid (Only.refl _ _).drew
  have BL : Hid (Below w4.heap.size w4 w4.drew) := Lib.hid (below_drew (Below.refl _ _))
  have KX : Hid (Holds w4.drew (.slice A n cc) X) := Lib.hid (KX.out.still (below_drew (Below.refl _ _)))
  have HG := Lib.hid (fun W h => G.out.still (w' := W) h)
  have HK : Hid (∀ W, Only (fun k => k = w.heap.size + 1) w4 W → ((W.cell? ⟨q2, 0, none⟩ = some (.int .i64 t0) ∧ W.cell? ⟨q2, 1, none⟩ = some (.bool t1) ∧ W.cell? ⟨q2, 2, none⟩ = some (.int .i64 t2) ∧ W.cell? ⟨q2, 3, none⟩ = some (.int .i64 t3)) ∧ W.cell? ⟨w.heap.size, 5, none⟩ = some (.int .i64 cp) ∧ W.cell? ⟨q, 0, none⟩ = some (.int .i64 a0) ∧ W.cell? ⟨q, 1, none⟩ = some (.int .i64 a1) ∧ W.cell? ⟨q, 2, none⟩ = some (.int .i64 a2) ∧ W.cell? ⟨q, 3, none⟩ = some (.bool a3) ∧ W.cell? ⟨q, 4, none⟩ = some (.int .i64 a4) ∧ W.cell? ⟨q, 5, none⟩ = some (.int .i64 a5))) := Lib.hid (fun W h => ⟨row4 (G.out.v0.only h HQ2.out), (G.out.v3.only h (by simp)).cell 5, row6 (G.out.v1.only h HQ.out)⟩)
  have S2 := Lib.hid G.out.bel.size
  clear G
  go_region_held3 (fun W => (W.cell? ⟨q2, 0, none⟩ = some (.int .i64 t0) ∧ W.cell? ⟨q2, 1, none⟩ = some (.bool t1) ∧ W.cell? ⟨q2, 2, none⟩ = some (.int .i64 t2) ∧ W.cell? ⟨q2, 3, none⟩ = some (.int .i64 t3)) ∧ W.cell? ⟨w.heap.size, 5, none⟩ = some (.int .i64 cp) ∧ W.cell? ⟨q, 0, none⟩ = some (.int .i64 a0) ∧ W.cell? ⟨q, 1, none⟩ = some (.int .i64 a1) ∧ W.cell? ⟨q, 2, none⟩ = some (.int .i64 a2) ∧ W.cell? ⟨q, 3, none⟩ = some (.bool a3) ∧ W.cell? ⟨q, 4, none⟩ = some (.int .i64 a4) ∧ W.cell? ⟨q, 5, none⟩ = some (.int .i64 a5))
    (first | with_reducible exact HK.out _ BB.out | with_reducible exact HK.out _ (BB.out.alloc _) | exact HK.out _ (BB.out.trans (six_only _ _ _ _ _ _ _ _)))
    (first
    | (go_at_call 51; refine (CL.out _ _ KX.out).mono ?_; rintro e wn ⟨rfl, hb⟩; have BB := Lib.hid (BB.out.trans (Only.of_below hb _)); have BL := Lib.hid (below_then BL.out hb (Nat.le_refl _)); clear hb CL KX)
    | (go_at_call 52; refine (CW.out _).mono ?_; rintro e wn ⟨rfl, hb⟩; have BB := Lib.hid (BB.out.trans (Only.of_below hb _)); have BL := Lib.hid (below_then BL.out hb (Nat.le_refl _)); clear hb CW)
    | (go_at_call 53; refine (CC.out _).mono ?_; rintro e wn ⟨rfl, hb⟩; have BB := Lib.hid (BB.out.trans (Only.of_below hb _)); have BL := Lib.hid (below_then BL.out hb (Nat.le_refl _)); clear hb CC)
    | (go_at_call 41; refine (CO.out _).mono ?_; rintro e wo ⟨rfl, hw⟩; have BB : Hid (Only (fun k => k = w.heap.size + 1) w4 wo) := Lib.hid (by rw [hw]; exact BB.out.alloc _); have BL : Hid (Below w4.heap.size w4 wo) := Lib.hid (by rw [hw]; exact BL.out.alloc BL.out.size _); clear hw CO)
    | (go_at_call 45; refine (CN.out _).mono ?_; rintro e wk ⟨rfl, hb⟩; have BB := Lib.hid (BB.out.trans (Only.of_below hb _)); have BL := Lib.hid (below_then BL.out hb (Nat.le_refl _)); have G := Lib.hid (HG.out _ BL.out); clear hb CN; obtain ⟨⟨d0, d1, d2, d3, d4, d5⟩, ⟨f0, f1, f2, f3, f4, f5⟩⟩ := six_of (G.out.v2))
    | fail)
  all_goals
    go_wp2_with fail
    refine bodyPost_ret (results_cell_row rfl _ _ (w.heap.size + 1) 34 _ (0, 0) _ rfl (six_put G.out.v2 _ _ _ _ _ _) Tryz.underlying34 rfl (by kernel_rfl)) rfl ?_
    exact ⟨rfl, G.out.bel.trans ((six_only _ (w.heap.size + 1) _ _ _ _ _ _).below (fun k hk => by omega) G.out.bel.size)⟩
end Go.Proofs.YtholpgcghpikgaaGreat

/-
  Layer 11: what is protected: a contract for each call.
-/
namespace Go.Proofs.YtholpgcghpikgaaGreat
open Go.ChangeShapes Go.WideShapes Go.ChangeAt Go.RowKit Go.Shelf
set_option linter.unusedVariables false
attribute [local go_sem ↓] Go.wp_at_zero Go.wp_at_succ

/-- What is wrong with it. -/
def prtE (X : List Ar) (c : Cl) : Int := firstE [liE X, rgE c.a c.n, prE c.p, cvE X (rgA c.a c.n) (rgB c.a c.n)]
/-- The list with the range protected. -/
noncomputable def prtL (X : List Ar) (c : Cl) : List Ar := setC (rgA c.a c.n) (rgB c.a c.n) c.p X
/-- What it comes to: the list, and the error. -/
noncomputable def prtR (X : List Ar) (c : Cl) : List Ar × Int :=
  if prtE X c = 0 then (if (prtL X c).length ≤ 24 then (prtL X c, 0) else (X, 9)) else (X, prtE X c)
structure Prt (X : List Ar) (c : Cl) : Prop where
  may : MayL X
  rg : rgE c.a c.n = 0
  p0 : 0 ≤ c.p
  p7 : c.p ≤ 7
  cv : cvB X (rgA c.a c.n) (rgB c.a c.n) = true
theorem prt_zero {X : List Ar} {c : Cl} : prtE X c = 0 ↔ Prt X c := by
  unfold prtE
  rw [first_zero]
  constructor
  · intro h
    have hm : MayL X := by
      have := h (liE X) (by simp)
      unfold liE at this
      by_cases hm : MayL X
      · exact hm
      · rw [if_neg hm] at this; cases this
    have hp : 0 ≤ c.p ∧ c.p ≤ 7 := by
      have := h (prE c.p) (by simp)
      unfold prE at this
      by_cases hp : 0 ≤ c.p ∧ c.p ≤ 7
      · exact hp
      · rw [if_neg hp] at this; cases this
    refine ⟨hm, h _ (by simp), hp.1, hp.2, ?_⟩
    have := h (cvE X (rgA c.a c.n) (rgB c.a c.n)) (by simp)
    unfold cvE at this
    by_cases hc : cvB X (rgA c.a c.n) (rgB c.a c.n) = true
    · exact hc
    · rw [if_neg hc] at this; cases this
  · rintro ⟨h1, h2, h3, h4, h5⟩ e he
    simp only [List.mem_cons, List.not_mem_nil, or_false] at he
    rcases he with rfl | rfl | rfl | rfl
    · unfold liE; rw [if_pos h1]
    · exact h2
    · unfold prE; rw [if_pos ⟨h3, h4⟩]
    · unfold cvE; rw [if_pos h5]

/-- A list of its own, and an error. -/
def GivesE (w : World) (Y : List Ar) (e : Int) (r : Ending) (w' : World) : Prop := ∃ v', r = .returned (.tuple #[v', .int .i64 e]) ∧ Mine w.heap.size w' v' Y ∧ Below w.heap.size w w'

section
variable {w : World} {v : Value} {X : List Ar}
set_option maxRecDepth 4000 in
set_option maxHeartbeats 8000000 in
theorem protected_any (h : Holds w v X) (hl : X.length ≤ 10000) (c : Cl) {Y : List Ar} {ae : Int}
    (hk : (prtE X c ≠ 0 ∧ Y = X ∧ ae = prtE X c) ∨ (prtE X c = 0 ∧ ∀ w' u u', Holds w' u X → Holds w' u' (prtL X c) → Calls Tryz.prog 38 #[u, u', .int .i64 0] w' (Gives w' Y ae 0))) :
    Calls Tryz.prog 44 #[v, c.v] w (GivesE w Y ae) := by
  have G := Lib.hid ((Bag.new w).add 38 c.cells)
  have KX := Lib.hid (h.still G.out.bel)
  have CR := Lib.hid (range_any c.a c.n)
  have CL : Hid (∀ w' u, Holds w' u X → Calls Tryz.prog 51 #[u] w' fun e w'' => e = .returned (.int .i64 (liE X)) ∧ Below w'.heap.size w' w'') := Lib.hid (fun w' u h => plistE_c h hl)
  have CP := Lib.hid (prot_any c.p)
  have CV : Hid (∀ w' u, Holds w' u X → Calls Tryz.prog 79 #[u, .int .i64 (rgA c.a c.n), .int .i64 (rgB c.a c.n)] w' fun e w'' => e = .returned (.int .i64 (cvE X (rgA c.a c.n) (rgB c.a c.n))) ∧ Below w'.heap.size w' w'') := Lib.hid (fun w' u h => coverE_c h hl _ _)
  have CO : Hid (∀ W : World, Calls Tryz.prog 41 #[.slice (some ⟨W.heap.size, 0, none⟩) 4 4] (W.alloc (.cells #[.int .i64 (liE X), .int .i64 (rgE c.a c.n), .int .i64 (prE c.p), .int .i64 (cvE X (rgA c.a c.n) (rgB c.a c.n))] 30)) fun e w' => e = .returned (.int .i64 (prtE X c)) ∧ w' = W.alloc (.cells #[.int .i64 (liE X), .int .i64 (rgE c.a c.n), .int .i64 (prE c.p), .int .i64 (cvE X (rgA c.a c.n) (rgB c.a c.n))] 30)) := Lib.hid (fun W => or_four W 30 _ _ _ _)
  have CC : Hid (∀ w' u, Holds w' u X → Calls Tryz.prog 18 #[u] w' fun e w'' => ∃ v', e = .returned v' ∧ Mine w'.heap.size w'' v' X ∧ Below w'.heap.size w' w'') := Lib.hid (fun w' u h => clone_c h hl)
  have CS : Hid (prtE X c = 0 → ∀ w' u, Holds w' u X → Calls Tryz.prog 80 #[u, .int .i64 (rgA c.a c.n), .int .i64 (rgB c.a c.n), .int .i64 c.p] w' fun e w'' => ∃ v', e = .returned v' ∧ Holds w'' v' (prtL X c) ∧ Below w'.heap.size w' w'') := Lib.hid (fun he w' u h => by
    obtain ⟨h1, _, h3, h4, _⟩ := prt_zero.1 he
    exact set_c h h1.1 _ _ h3 h4)
  have HK := Lib.hid hk
  clear hk
  generalize prtL X c = P at *
  generalize prtE X c = we at *
  generalize liE X = le at *
  generalize rgE c.a c.n = re at *
  generalize prE c.p = pe at *
  generalize cvE X (rgA c.a c.n) (rgB c.a c.n) = ce at *
  generalize rgA c.a c.n = ra at *
  generalize rgB c.a c.n = rb at *
  obtain ⟨A, cc, rfl⟩ := h.is
  clear h hl
  generalize hn : X.length = n at *
  clear hn
  obtain ⟨ck, ca, cn, cnw, ctw, cp, cf, cb, co⟩ := c
  unfold Cl.v
  simp only [Cl.cells] at *
  go_enter Tryz.func44, Tryz.ntmps44
  go_wp2_with fail
  refine (CR.out _).mono ?_
  rintro e w1 ⟨rfl, hb⟩
  have G := Lib.hid (G.out.still hb)
  have KX := Lib.hid (KX.out.still hb)
  clear hb CR
  go_upto_region 2 with (fail)
  have BB := Lib.hid (below_drew (Below.refl w1.heap.size w1))
  have KX := Lib.hid (KX.out.still (below_drew (Below.refl _ w1)))
  have HG := Lib.hid (fun W h => G.out.still (w' := W) h)
  have HC : Hid (∀ W, Below w1.heap.size w1 W → (W.cell? ⟨w.heap.size, 5, none⟩ = some (.int .i64 cp))) := Lib.hid (fun W h => (HG.out W h).v0.cell 5)
  clear G
  go_region_held3 (fun W => W.cell? ⟨w.heap.size, 5, none⟩ = some (.int .i64 cp))
    (first | with_reducible exact HC.out _ BB.out | with_reducible exact HC.out _ (BB.out.alloc BB.out.size _))
    (first
    | (go_at_call 51; refine (CL.out _ _ KX.out).mono ?_; rintro e wn ⟨rfl, hb⟩; have BB := Lib.hid (below_then BB.out hb (Nat.le_refl _)); have KX := Lib.hid (KX.out.still hb); clear hb CL)
    | (go_at_call 74; refine (CP.out _).mono ?_; rintro e wn ⟨rfl, hb⟩; have BB := Lib.hid (below_then BB.out hb (Nat.le_refl _)); have KX := Lib.hid (KX.out.still hb); clear hb CP)
    | (go_at_call 79; refine (CV.out _ _ KX.out).mono ?_; rintro e wn ⟨rfl, hb⟩; have BB := Lib.hid (below_then BB.out hb (Nat.le_refl _)); have KX := Lib.hid (KX.out.still hb); clear hb CV)
    | (go_at_call 41; refine (CO.out _).mono ?_; rintro e wo ⟨rfl, hw⟩; have BN : Hid (Below _ _ wo) := Lib.hid (by rw [hw]; exact below_new _ _); have BB := Lib.hid (below_then BB.out BN.out (Nat.le_refl _)); have KX := Lib.hid (KX.out.still BN.out); clear hw CO BN)
    | fail)
  all_goals
    have G := Lib.hid (HG.out _ BB.out)
    clear HG BB HC
    rcases HK.out with ⟨hw, rfl, rfl⟩ | ⟨hw, ck⟩
    · have hw' : (ae != 0) = true := by simpa using hw
      clear HK CS
      go_wp2_with fail
      refine (CC.out _ _ KX.out).mono ?_
      rintro e w4 ⟨v4, rfl, hm, hb⟩
      have SZ := Lib.hid G.out.bel.size
      have G := Lib.hid (G.out.still hb)
      have M := Lib.hid (hm.base SZ.out)
      clear hm hb CC KX
      go_wp2_with fail
      go_ret2
      exact ⟨v4, rfl, M.out, G.out.bel⟩
    · have CT := Lib.hid (CS.out hw)
      have CK : Hid (∀ w' u u', Holds w' u X → Holds w' u' P → Calls Tryz.prog 38 #[u, u', .int .i64 0] w' fun e w'' => ∃ v', e = .returned (.tuple #[v', .agg #[.int .i64 ae, .int .i64 0, .int .i64 0, .bool false, .int .i64 0, .int .i64 0]]) ∧ Mine w'.heap.size w'' v' Y ∧ Below w'.heap.size w' w'') := Lib.hid ck
      subst hw
      clear HK CC ck CS
      have c5 := G.out.v0.cell 5
      simp only [List.getElem?_toArray, List.getElem?_cons_succ, List.getElem?_cons_zero] at c5
      go_wp2_with fail
      refine (CT.out _ _ KX.out).mono ?_
      rintro e w4 ⟨v4, rfl, hp, hb⟩
      have G := Lib.hid (G.out.still hb)
      have KX := Lib.hid (KX.out.still hb)
      have KP := Lib.hid hp
      clear hp hb CT c5
      go_wp2_with fail
      refine (CK.out _ _ _ KX.out KP.out).mono ?_
      rintro e w5 ⟨v5, rfl, hm, hb⟩
      have SZ := Lib.hid G.out.bel.size
      have G := Lib.hid ((G.out.still hb).add 34 #[.int .i64 ae, .int .i64 0, .int .i64 0, .bool false, .int .i64 0, .int .i64 0])
      have M := Lib.hid ((hm.base SZ.out).still (below_new w5 (.cells #[.int .i64 ae, .int .i64 0, .int .i64 0, .bool false, .int .i64 0, .int .i64 0] 34)))
      clear hm hb CK KX KP
      obtain ⟨d0, d1, d2, d3, d4, d5⟩ := row6 G.out.v0
      go_upto_region 6 with (fail)
      go_quiet (fail)
      go_wp2_with fail
      go_ret2
      exact ⟨v5, rfl, M.out.still (below_drewN (Below.refl _ _) _), below_drewN G.out.bel _⟩

theorem protected_c (h : Holds w v X) (hl : X.length ≤ 10000) (c : Cl) : Calls Tryz.prog 44 #[v, c.v] w (GivesE w (prtR X c).1 (prtR X c).2) := by
  unfold prtR
  by_cases he : prtE X c = 0
  · rw [if_pos he]
    by_cases hm : (prtL X c).length ≤ 24
    · rw [if_pos hm]
      exact protected_any h hl c (.inr ⟨he, fun w' u u' h1 h2 => kept_few h1 h2 hm _⟩)
    · rw [if_neg hm]
      exact protected_any h hl c (.inr ⟨he, fun w' u u' h1 h2 => kept_many h1 hl h2 (by omega) _⟩)
  · rw [if_neg he]
    exact protected_any h hl c (.inl ⟨he, rfl, rfl⟩)

set_option maxRecDepth 4000 in
set_option maxHeartbeats 4000000 in
theorem protect_c (h : Holds w v X) (hl : X.length ≤ 10000) (c : Cl) : Calls Tryz.prog 21 #[v, c.v] w (Gives w (prtR X c).1 (prtR X c).2 0) := by
  have G := Lib.hid (((Bag.new w).add 38 c.cells).add 34 (ansC 0 0))
  rw [World.size_alloc] at G
  have KX := Lib.hid (h.still G.out.bel)
  have CP : Hid (∀ w' u, Holds w' u X → Calls Tryz.prog 44 #[u, c.v] w' fun e w'' => ∃ v', e = .returned (.tuple #[v', .int .i64 (prtR X c).2]) ∧ Mine w'.heap.size w'' v' (prtR X c).1 ∧ Below w'.heap.size w' w'') := Lib.hid (fun w' u h => protected_c h hl c)
  have CN : Hid (Says 45 #[At.nil.v, .int .i64 (prtR X c).2] (.agg (ansC (prtR X c).2 0))) := Lib.hid (by
    have := answer_any At.nil (prtR X c).2
    rwa [show (if (prtR X c).2 = 0 then At.nil else At.nil) = At.nil from by split <;> rfl, ansT_nil] at this)
  generalize (prtR X c).1 = Y at *
  generalize (prtR X c).2 = ae at *
  obtain ⟨A, cc, rfl⟩ := h.is
  clear h hl
  generalize hn : X.length = n at *
  clear hn
  obtain ⟨ck, ca, cn, cnw, ctw, cp, cf, cb, co⟩ := c
  unfold Cl.v At.v at *
  simp only [Cl.cells, ansC, At.nil] at *
  go_enter Tryz.func21, Tryz.ntmps21
  obtain ⟨c0, c1, c2, c3, c4, c5, c6, c7, c8⟩ := row9 (c := ⟨ck, ca, cn, cnw, ctw, cp, cf, cb, co⟩) (G.out.v1)
  simp only at c0 c1 c2 c3 c4 c5 c6 c7 c8
  go_wp2_with fail
  refine (CP.out _ _ KX.out).mono ?_
  rintro e w1 ⟨v1, rfl, hm, hb⟩
  have SZ := Lib.hid G.out.bel.size
  have G := Lib.hid (G.out.still hb)
  have M := Lib.hid (hm.base SZ.out)
  clear hm hb CP KX c0 c1 c2 c3 c4 c5 c6 c7 c8
  go_wp2_with fail
  refine (CN.out _).mono ?_
  rintro e w2 ⟨rfl, hb⟩
  have G := Lib.hid (G.out.still hb)
  have M := Lib.hid (M.out.still hb)
  clear hb CN
  obtain ⟨⟨d0, d1, d2, d3, d4, d5⟩, ⟨f0, f1, f2, f3, f4, f5⟩⟩ := six_of G.out.v0
  go_wp2_with fail
  refine bodyPost_ret (results_tmp_row rfl _ _ (w.heap.size + 1) 34 (ansC ae 0) (0, 0) _ rfl (six_put G.out.v0 _ _ _ _ _ _) Tryz.underlying34 rfl (by kernel_rfl)) rfl ?_
  exact gives_end G.out (by omega) M.out (Nat.le_refl _) ae 0
end
end Go.Proofs.YtholpgcghpikgaaGreat
