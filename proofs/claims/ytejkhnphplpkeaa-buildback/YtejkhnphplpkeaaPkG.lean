/-
  Texts of our own, one behind the other (GapPure, GapEach, GapMost, GapEvery, GapWithin, GapSeq, GapRooms, GapPick, GapHigh, GapFree, GapHold): what the laws' proofs rest on; each says at its head what it holds. No conditions.
-/
import Derived.Test.YtejkhnphplpkeaaPkLa
/-
  Layer 8: gaps of a list, what lies within bounds, what follows. No program is asked.
-/
namespace Go.Proofs.Ytejkhnphplpkeaa
set_option linter.unusedVariables false

/-- A gap. -/
structure Gp where
  s : Int
  e : Int
def Gp.nil : Gp := ⟨0, 0⟩
/-- A gap as the list has it: whole pages of the space, one at least. -/
structure GoodG (g : Gp) : Prop where
  lo : 65536 ≤ g.s
  lt : g.s < g.e
  hi : g.e ≤ 2097152
  sp : g.s % 4096 = 0
  ep : g.e % 4096 = 0
abbrev GG := { g : Gp // GoodG g }

/-- The gaps from an address on. -/
def gapsFrom : Int → List Ar → List Gp
  | st, [] => if st < 2097152 then [⟨st, 2097152⟩] else []
  | st, a :: l => (if st < a.s then [⟨st, a.s⟩] else []) ++ gapsFrom a.e l
/-- All gaps of a list. -/
def gapsL (l : List Ar) : List Gp := if RightL l then gapsFrom 65536 l else []

/-- What is left of a right list, from an address on. -/
structure Rest (st : Int) (r : List Ar) : Prop where
  formed : ∀ a ∈ r, Formed a
  from' : ∀ a ∈ r, st ≤ a.s
  pair : r.Pairwise (fun a b => a.e ≤ b.s)
  lo : 65536 ≤ st
  hi : st ≤ 2097152
  page : st % 4096 = 0
theorem Rest.of_right {l : List Ar} (h : RightL l) : Rest 65536 l :=
  ⟨right_formed h, fun a ha => (formed_num (right_formed h a ha)).1, after_pair h, by omega, by omega, by omega⟩
theorem Rest.tail {st : Int} {a : Ar} {r : List Ar} (h : Rest st (a :: r)) : Rest a.e r := by
  have ha := formed_num (h.formed a (by simp))
  have hp := List.pairwise_cons.1 h.pair
  exact ⟨fun b hb => h.formed b (by simp [hb]), fun b hb => hp.1 b hb, hp.2, by omega, by omega, by omega⟩
theorem Rest.good {st : Int} {a : Ar} {r : List Ar} (h : Rest st (a :: r)) (hlt : st < a.s) : GoodG ⟨st, a.s⟩ := by
  have ha := formed_num (h.formed a (by simp))
  exact ⟨h.lo, hlt, by simp only; omega, h.page, by simp only; omega⟩
theorem Rest.last {st : Int} (h : Rest st []) (hlt : st < 2097152) : GoodG ⟨st, 2097152⟩ := ⟨h.lo, hlt, by simp, h.page, by simp⟩
theorem gapsFrom_good : ∀ {r : List Ar} {st : Int}, Rest st r → ∀ g ∈ gapsFrom st r, GoodG g
  | [], st, h, g, hg => by
    unfold gapsFrom at hg
    by_cases hl : st < 2097152
    · rw [if_pos hl] at hg; obtain rfl := List.mem_singleton.1 hg; exact h.last hl
    · rw [if_neg hl] at hg; cases hg
  | a :: r, st, h, g, hg => by
    unfold gapsFrom at hg
    rcases List.mem_append.1 hg with hg | hg
    · by_cases hl : st < a.s
      · rw [if_pos hl] at hg; obtain rfl := List.mem_singleton.1 hg; exact h.good hl
      · rw [if_neg hl] at hg; cases hg
    · exact gapsFrom_good h.tail g hg
theorem gapsFrom_len : ∀ (r : List Ar) (st : Int), (gapsFrom st r).length ≤ r.length + 1
  | [], st => by unfold gapsFrom; split <;> simp
  | a :: r, st => by
    have := gapsFrom_len r a.e
    unfold gapsFrom
    rw [List.length_append]
    split <;> simp <;> omega
theorem gapsL_good {l : List Ar} : ∀ g ∈ gapsL l, GoodG g := by
  unfold gapsL
  by_cases h : RightL l
  · rw [if_pos h]; exact gapsFrom_good (Rest.of_right h)
  · rw [if_neg h]; intro g hg; cases hg
theorem gapsL_len (l : List Ar) : (gapsL l).length ≤ l.length + 1 := by
  unfold gapsL
  split
  · exact gapsFrom_len _ _
  · simp

/-! What a page is: free, or in an area. -/
def InG (g : Gp) (p : Int) : Prop := g.s ≤ 4096 * p ∧ 4096 * p < g.e
instance (g : Gp) (p : Int) : Decidable (InG g p) := by unfold InG; infer_instance
/-- Whether a page is free. -/
def FreeP (l : List Ar) (p : Int) : Prop := 16 ≤ p ∧ p < 512 ∧ tab l p = none
theorem tab_none_iff {l : List Ar} {p : Int} : tab l p = none ↔ ∀ a ∈ l, ¬ Cov a p := ⟨tab_no, tab_none⟩
theorem gapsFrom_mem : ∀ {r : List Ar} {st : Int}, Rest st r → ∀ p : Int, (∃ g ∈ gapsFrom st r, InG g p) ↔ (st ≤ 4096 * p ∧ 4096 * p < 2097152 ∧ ∀ a ∈ r, ¬ Cov a p)
  | [], st, h, p => by
    unfold gapsFrom
    by_cases hl : st < 2097152
    · rw [if_pos hl]; simp [InG]
    · rw [if_neg hl]; simp; omega
  | a :: r, st, h, p => by
    have ha := formed_num (h.formed a (by simp))
    have hs := h.from' a (by simp)
    have hp := List.pairwise_cons.1 h.pair
    have ih := gapsFrom_mem h.tail p
    unfold gapsFrom
    have h1 : (∃ g ∈ (if st < a.s then [⟨st, a.s⟩] else []) ++ gapsFrom a.e r, InG g p) ↔ (st ≤ 4096 * p ∧ 4096 * p < a.s) ∨ (∃ g ∈ gapsFrom a.e r, InG g p) := by
      constructor
      · rintro ⟨g, hg, hi⟩
        rcases List.mem_append.1 hg with hg | hg
        · by_cases hl : st < a.s
          · rw [if_pos hl] at hg; obtain rfl := List.mem_singleton.1 hg; exact .inl hi
          · rw [if_neg hl] at hg; cases hg
        · exact .inr ⟨g, hg, hi⟩
      · rintro (hi | ⟨g, hg, hi⟩)
        · refine ⟨⟨st, a.s⟩, List.mem_append.2 (.inl ?_), hi⟩
          rw [if_pos (by omega)]; simp
        · exact ⟨g, List.mem_append.2 (.inr hg), hi⟩
    rw [h1, ih]
    constructor
    · rintro (hi | ⟨h2, h3, h4⟩)
      · refine ⟨hi.1, by omega, fun b hb hc => ?_⟩
        rcases List.mem_cons.1 hb with rfl | hb
        · unfold Cov at hc; omega
        · have := hp.1 b hb; unfold Cov at hc; omega
      · refine ⟨by omega, h3, fun b hb hc => ?_⟩
        rcases List.mem_cons.1 hb with rfl | hb
        · unfold Cov at hc; omega
        · exact h4 b hb hc
    · rintro ⟨h2, h3, h4⟩
      have h5 := h4 a (by simp)
      unfold Cov at h5
      rcases Int.lt_or_le (4096 * p) a.s with hlt | hle
      · exact .inl ⟨h2, hlt⟩
      · exact .inr ⟨by omega, h3, fun b hb => h4 b (by simp [hb])⟩
/-- The gaps, as pages. -/
theorem gaps_page {l : List Ar} (h : RightL l) (p : Int) : (∃ g ∈ gapsL l, InG g p) ↔ FreeP l p := by
  unfold gapsL FreeP
  rw [if_pos h, gapsFrom_mem (Rest.of_right h), tab_none_iff]
  constructor
  · rintro ⟨h1, h2, h3⟩; exact ⟨by omega, by omega, h3⟩
  · rintro ⟨h1, h2, h3⟩; exact ⟨by omega, by omega, h3⟩
/-- Gaps don't touch. -/
def Apart (gs : List Gp) : Prop := gs.Pairwise (fun a b => a.e < b.s)
theorem gapsFrom_from : ∀ {r : List Ar} {st : Int}, Rest st r → ∀ g ∈ gapsFrom st r, st ≤ g.s
  | [], st, h, g, hg => by
    unfold gapsFrom at hg
    by_cases hl : st < 2097152
    · rw [if_pos hl] at hg; obtain rfl := List.mem_singleton.1 hg; simp
    · rw [if_neg hl] at hg; cases hg
  | a :: r, st, h, g, hg => by
    have ha := formed_num (h.formed a (by simp))
    have hs := h.from' a (by simp)
    unfold gapsFrom at hg
    rcases List.mem_append.1 hg with hg | hg
    · by_cases hl : st < a.s
      · rw [if_pos hl] at hg; obtain rfl := List.mem_singleton.1 hg; simp
      · rw [if_neg hl] at hg; cases hg
    · have := gapsFrom_from h.tail g hg; omega
theorem gapsFrom_apart : ∀ {r : List Ar} {st : Int}, Rest st r → Apart (gapsFrom st r)
  | [], st, h => by unfold gapsFrom Apart; split <;> simp
  | a :: r, st, h => by
    have ha := formed_num (h.formed a (by simp))
    unfold gapsFrom
    refine List.pairwise_append.2 ⟨by split <;> simp, gapsFrom_apart h.tail, fun g hg k hk => ?_⟩
    have h1 := gapsFrom_from h.tail k hk
    by_cases hl : st < a.s
    · rw [if_pos hl] at hg; obtain rfl := List.mem_singleton.1 hg; simp only; omega
    · rw [if_neg hl] at hg; cases hg
theorem gapsL_apart (l : List Ar) : Apart (gapsL l) := by
  unfold gapsL
  by_cases h : RightL l
  · rw [if_pos h]; exact gapsFrom_apart (Rest.of_right h)
  · rw [if_neg h]; exact List.Pairwise.nil
end Go.Proofs.Ytejkhnphplpkeaa

/-
  Layer 8: what tells the gaps, one by one: its contract.
-/
namespace Go.Proofs.Ytejkhnphplpkeaa
open Go.ChangeShapes Go.WideShapes Go.ChangeAt Go.RowKit Go.Shelf
set_option linter.unusedVariables false
attribute [local go_sem] Oper.semAt_some

def Gp.v (g : Gp) : Value := .agg #[.int .i64 g.s, .int .i64 g.e]
def Gp.cells (g : Gp) : Array Value := #[.int .i64 g.s, .int .i64 g.e]

theorem below_grown {w w' : World} (h : Below w.heap.size w w') : w.grownBy w' none := ⟨h.os, h.tape, h.output, h.size, fun k hk _ => h.block k hk⟩

/-- What a round keeps: what lay below n₀, and every area that lies in a block of its own. -/
structure KpA (n₀ : Nat) (W W' : World) : Prop where
  bel : Below n₀ W W'
  ars : ∀ k cs, Whole W k tArea cs → Whole W' k tArea cs
theorem KpA.refl (n₀ : Nat) (W : World) : KpA n₀ W W := ⟨Below.refl _ _, fun _ _ h => h⟩
theorem KpA.trans {n₀ : Nat} {A B C : World} (h : KpA n₀ A B) (k : KpA n₀ B C) : KpA n₀ A C := ⟨h.bel.trans k.bel, fun i cs hi => k.ars i cs (h.ars i cs hi)⟩
theorem KpA.still {n₀ : Nat} {W W' : World} (hn : n₀ ≤ W.heap.size) (h : Below W.heap.size W W') : KpA n₀ W W' := ⟨h.mono hn, fun k cs hk => hk.below h hk.lt⟩
theorem KpA.set {n₀ b : Nat} {t : TypeId} {W : World} {cs : Array Value} (h : Whole W b t cs) (ht : t ≠ tArea) (hn : n₀ ≤ b) (i : Nat) (v : Value) : KpA n₀ W (W.setCell ⟨b, i, none⟩ v) :=
  ⟨(Below.refl n₀ W).setCell (p := ⟨b, i, none⟩) hn _, fun k c hk => (Below.heap_setCell _ _ _ k (fun e => by
    subst e; unfold Whole at h hk; rw [h] at hk; injection hk with hk; injection hk with _ h2; exact ht h2)).trans hk⟩
theorem KpA.put {n₀ : Nat} {w : World} (hn : n₀ ≤ w.heap.size) (W : World) (l : Nat) (o o' : Obj) (hl : w.heap.size ≤ l) (h : W.heap[l]? = some o) (hc : o.isCells = false) (hw : o.isWalk = false) : KpA n₀ W (W.putObj l o') :=
  ⟨belowK_b hn W l o o' hl h hc hw, fun k cs hk => (World.putObj_heap_other (fun e => by
    subst e; unfold Whole at hk; rw [h] at hk; injection hk with hk; subst hk; cases hc)).trans hk⟩

/-- Where it stands behind k areas. -/
def EachAt (zs : List Ar) (J : List GG → World → Prop) (n₀ : Nat) (W : World) (st : Int) (k : Nat) (wr : World) : Prop :=
  ∃ (k' : Nat) (pre : List GG), k' ≤ zs.length ∧ k' = k ∧ pre.length ≤ k' ∧ Rest st (zs.drop k') ∧ pre.map (·.1) ++ gapsFrom st (zs.drop k') = gapsL zs ∧ J pre wr ∧ Below n₀ W wr

set_option maxRecDepth 100000 in
set_option maxHeartbeats 4000000 in
theorem each1_in (l Bs n₀ cap : Nat) (A : Option Addr) (zs : List Ar) (hl : zs.length ≤ 100000) (J Jx : List GG → World → Prop)
    (hJ : ∀ pre W W', J pre W → Below W.heap.size W W' → J pre W')
    (hJx : ∀ pre W W', Jx pre W → Below W.heap.size W W' → Jx pre W')
    (hY : ∀ pre x W, J pre W → pre.length < zs.length + 1 → YieldAt Fence.wide 3 Try.prog l #[x.1.v] W fun e W' =>
      (e = .returned (.bool true) ∧ J (pre ++ [x]) W' ∧ KpA n₀ W W') ∨ (e = .returned (.bool false) ∧ Jx (pre ++ [x]) W'))
    (W : World) (hn₀ : n₀ ≤ W.heap.size) (hB : Bs < W.heap.size) (hBs : W.cell? ⟨Bs, 0, none⟩ = some (.slice A zs.length cap)) (hc : Areas n₀ W A zs) (h0 : J [] W) :
    CallsIn Fence.wide 4 Try.prog 66 #[.func (.yield l) #[] #[], .pointer (some ⟨Bs, 0, none⟩)] W fun e W' => (∃ v, e = .returned v) ∧
      ((∃ ys : List GG, ys.map (·.1) = gapsL zs ∧ J ys W') ∨ (∃ pre : List GG, (∃ t, pre.map (·.1) ++ t = gapsL zs) ∧ Jx pre W')) := by
  have hro : Fence.wide.round = none := rfl
  have fR : Fence.wide.fn 36 := trivial
  have XR := Lib.hid (fun w1 h => (callsIn_wide (n := 3)).2 (right_any A zs cap hl w1 h))
  refine callsIn_of_wp Try.func66 rfl trivial ?_ hro
  simp only [Try.ntmps66, List.size_toArray, List.length_cons, List.length_nil, Nat.reduceAdd, Nat.reduceSub, Array.replicate_succ, Array.replicate_zero, List.push_toArray, List.append_toArray, List.nil_append, List.cons_append]
  have HC := Lib.hid hc
  have HY := Lib.hid hY
  have HJ := Lib.hid hJ
  have HJx := Lib.hid hJx
  have H0 := Lib.hid h0
  clear hc hY hJ hJx h0
  generalize hL : zs.length = len at *
  have HL := Lib.hid hL
  clear hL
  by_cases hr : RightL zs
  · rw [decide_eq_true hr] at XR
    have HR := Lib.hid hr
    clear hr
    gi_wp2_with (gi_at_call 36; refine (XR.out W (HC.out.mono hn₀)).mono ?_; rintro e w1 ⟨rfl, hb1⟩; have B1 := Lib.hid hb1; have cB := (hb1.cell (p := ⟨Bs, 0, none⟩) hB).trans hBs; clear hb1)
    have E0 : EachAt zs J n₀ W 65536 0 w1 := ⟨0, [], Nat.zero_le _, rfl, Nat.le_refl _, Rest.of_right HR.out, by unfold gapsL; rw [if_pos HR.out]; rfl, HJ.out _ _ _ H0.out B1.out, B1.out.mono hn₀⟩
    gi_loopw [3, 11] (fun s i wr => ∃ (st : Int) (k : Nat), s = .int .i64 st ∧ i = .int .i64 k ∧ EachAt zs J n₀ W st k wr)
      (fun _ i _ => len - (intOf i).toNat)
    case atStart => exact ⟨65536, 0, rfl, rfl, E0⟩
    case round =>
      obtain ⟨st, k, rfl, rfl, k', pre, hk, hkk, hpl, hrest, hgs, hJs, hnx⟩ := hrel
      obtain rfl : k' = k := by omega
      clear E0 hkk
      rw [HL.out] at hk
      have hst := hrest.lo
      have hst2 := hrest.hi
      by_cases hlt : k' < len
      · have hkz : k' < zs.length := by rw [HL.out]; exact hlt
        rcases HC.out with hn | ⟨b, off, rfl, hb, hcs⟩
        · rw [hn] at hkz; simp at hkz
        have hA := (hcs k' hkz).below hnx hb
        have hD : zs.drop k' = zs[k'] :: zs.drop (k' + 1) := List.drop_eq_getElem_cons hkz
        rw [hD] at hrest hgs
        generalize hx : zs[k'] = x at *
        clear hx hcs hD
        have hfx := formed_num (hrest.formed x (by simp))
        have hJ1 := HJ.out _ _ _ hJs (below_new _ (.cells x.cells tArea))
        have hB1 := (Below.refl n₀ _).alloc (Nat.le_trans hn₀ hnx.size) (.cells x.cells tArea)
        have HRe := Lib.hid hrest
        have HG := Lib.hid hgs
        have HNX := Lib.hid (hnx.trans hB1)
        have HJ1 := Lib.hid hJ1
        obtain ⟨c0, c1, c2, c3, c4, c5⟩ := hA
        clear hgs hnx hJ1 hB1 hJs
        by_cases hgap : st < x.s
        · obtain ⟨y, hy0⟩ : ∃ y : GG, y.1 = ⟨st, x.s⟩ := ⟨⟨_, hrest.good hgap⟩, rfl⟩
          obtain ⟨fn, tmps, assign, body, hy, hR⟩ := HY.out pre y _ HJ1.out (by omega)
          rw [hy0] at hy
          have HG2 : Hid ((pre ++ [y]).map (·.1) ++ gapsFrom x.e (zs.drop (k' + 1)) = gapsL zs) := Lib.hid (by
            rw [← HG.out]; simp [gapsFrom, hgap, hy0])
          have HT := Lib.hid hrest.tail
          clear hrest hy0 HRe HG
          obtain ⟨x0, x1, x2, x3, x4, x5⟩ := x
          simp only [Ar.cells, Gp.v, tArea] at c0 c1 c2 c3 c4 c5 hy hR hgap hfx HNX
          gi_wp2_with fail
          refine hR.mono ?_
          rintro e W3 (⟨rfl, hJ3, hk3⟩ | ⟨rfl, hJx3⟩)
          · have hv := hk3.ars _ _ (Whole.new wr 74 (Ar.cells ⟨x0, x1, x2, x3, x4, x5⟩))
            have v1 := hv.cell 1
            simp [Ar.cells] at v1
            have HNX3 := Lib.hid (HNX.out.trans hk3.bel)
            have HJ3 := Lib.hid hJ3
            clear hk3 hv hJ3
            gi_wp2
            go_roundw
            case rel => exact ⟨_, k' + 1, rfl, by simp, k' + 1, pre ++ [y], by rw [HL.out]; omega, rfl, by simp; omega, HT.out, HG2.out, HJ3.out, HNX3.out⟩
            case measure => simp [intOf]; omega
          · gi_wp2
            refine bodyPost_ret (results_none rfl _ _ _) rfl ?_
            exact ⟨⟨_, rfl⟩, .inr ⟨_, ⟨_, HG2.out⟩, hJx3⟩⟩
        · have HG2 : Hid (pre.map (·.1) ++ gapsFrom x.e (zs.drop (k' + 1)) = gapsL zs) := Lib.hid (by
            rw [← HG.out]; simp [gapsFrom, hgap])
          have HT := Lib.hid hrest.tail
          clear hrest HRe HG
          obtain ⟨x0, x1, x2, x3, x4, x5⟩ := x
          simp only [Ar.cells, tArea] at c0 c1 c2 c3 c4 c5 hgap hfx HNX HJ1
          gi_wp2
          refine ⟨fun _ h => (by cases h), ?_⟩
          gi_wp2
          go_roundw
          case rel => exact ⟨_, k' + 1, rfl, by simp, k' + 1, pre, by rw [HL.out]; omega, rfl, by omega, HT.out, HG2.out, HJ1.out, HNX.out⟩
          case measure => simp [intOf]; omega
      · obtain rfl : k' = len := by omega
        have hD : zs.drop k' = [] := by rw [← HL.out]; exact List.drop_length
        rw [hD] at hrest hgs
        by_cases hgap : st < 2097152
        · obtain ⟨y, hy0⟩ : ∃ y : GG, y.1 = ⟨st, 2097152⟩ := ⟨⟨_, hrest.last hgap⟩, rfl⟩
          obtain ⟨fn, tmps, assign, body, hy, hR⟩ := HY.out pre y _ hJs (by omega)
          rw [hy0] at hy
          have HG2 : Hid ((pre ++ [y]).map (·.1) = gapsL zs) := Lib.hid (by
            rw [← hgs]; simp [gapsFrom, hgap, hy0])
          clear hrest hy0 hgs hD
          simp only [Gp.v] at hy
          gi_wp2_with fail
          refine hR.mono ?_
          rintro e W3 (⟨rfl, hJ3, hk3⟩ | ⟨rfl, hJx3⟩)
          · gi_wp2
            go_end0
            exact ⟨⟨_, rfl⟩, .inl ⟨_, HG2.out, hJ3⟩⟩
          · gi_wp2
            go_end0
            exact ⟨⟨_, rfl⟩, .inr ⟨_, ⟨[], by simpa using HG2.out⟩, hJx3⟩⟩
        · have HG2 : Hid (pre.map (·.1) = gapsL zs) := Lib.hid (by
            rw [← hgs]; simp [gapsFrom, hgap])
          clear hrest hgs hD
          gi_wp2
          go_end0
          exact ⟨⟨_, rfl⟩, .inl ⟨_, HG2.out, hJs⟩⟩
  · rw [decide_eq_false hr] at XR
    have HR := Lib.hid hr
    clear hr
    gi_wp2_with (gi_at_call 36; refine (XR.out W (HC.out.mono hn₀)).mono ?_; rintro e w1 ⟨rfl, hb1⟩; have B1 := Lib.hid hb1; clear hb1)
    refine bodyPost_ret (results_none rfl _ _ _) rfl ?_
    exact ⟨⟨_, rfl⟩, .inl ⟨[], by unfold gapsL; rw [if_neg HR.out]; rfl, HJ.out _ _ _ H0.out B1.out⟩⟩

set_option maxHeartbeats 1000000 in
theorem each_in (A : Option Addr) (len cap : Nat) (w : World) :
    CallsIn Fence.wide 4 Try.prog 43 #[.slice A len cap] w fun e w' => e = .returned (.func (.func 66) #[] #[.pointer (some ⟨w.heap.size, 0, none⟩)]) ∧ w' = w.alloc (.cells #[.slice A len cap] 22) := by
  refine callsIn_of_wp Try.func43 rfl trivial ?_ rfl
  simp only [Try.ntmps43, List.size_toArray, List.length_cons, List.length_nil, Nat.reduceAdd, Nat.reduceSub, Array.replicate_succ, Array.replicate_zero, List.push_toArray, List.append_toArray, List.nil_append, List.cons_append]
  gi_wp2
  go_ret
  exact ⟨rfl, rfl⟩

/-- What has come, and what is left. -/
def Told (zs : List Ar) (pre : List GG) : Prop := ∃ t, pre.map (·.1) ++ t = gapsL zs
theorem round_wide {m m' l : Nat} {f : FuncId} {tmps : Array Value} {assign body : Code} {w : World} {R : Ending → World → Prop} (h : RoundIn Fence.wide m Try.prog l f tmps assign body w R) : RoundIn Fence.wide m' Try.prog l f tmps assign body w R :=
  ⟨h.1, fun c cs _ => h.2 c cs (room_wide _)⟩
theorem yield_wide {m m' l : Nat} {args : Array Value} {w : World} {R : Ending → World → Prop} (h : YieldAt Fence.wide m Try.prog l args w R) : YieldAt Fence.wide m' Try.prog l args w R := by
  obtain ⟨fn, tmps, assign, body, hy, hR⟩ := h
  exact ⟨fn, tmps, assign, body, hy, round_wide hR⟩
theorem calls_wide {m m' : Nat} {f : FuncId} {args : Array Value} {w : World} {R : Ending → World → Prop} (h : CallsIn Fence.wide m Try.prog f args w R) : CallsIn Fence.wide m' Try.prog f args w R :=
  callsIn_wide.2 (callsIn_wide.1 h)
theorem each_stops {n : Nat} (Bs n₀ cap : Nat) (A : Option Addr) (zs : List Ar) (hl : zs.length ≤ 100000) (w : World) (hBs : Bs < w.heap.size) (hn₀ : n₀ ≤ w.heap.size)
    (hc : w.cell? ⟨Bs, 0, none⟩ = some (.slice A zs.length cap)) (hI : Areas n₀ w A zs) :
    SeqStopsK Fence.wide n Try.prog 66 #[.pointer (some ⟨Bs, 0, none⟩)] (fun x : GG => #[x.1.v]) (KpA n₀) (fun ys => ys.map (·.1) = gapsL zs) (Told zs) (zs.length + 1) w := fun l J Jx W hW hJ hJx hY h0 => by
  have hc' := (hW.cell (p := ⟨Bs, 0, none⟩) hBs).trans hc
  refine calls_wide (each1_in l Bs n₀ cap A zs hl J Jx (fun pre W W' h hb => hJ _ _ _ none h (below_grown hb) (fun r e => by cases e)) (fun pre W W' h hb => hJx _ _ _ none h (below_grown hb) (fun r e => by cases e)) (fun pre x W1 h1 h2 => yield_wide (hY pre x W1 h1 h2)) W (Nat.le_trans hn₀ hW.size) (Nat.lt_of_lt_of_le hBs hW.size) hc' (hI.below (hW.mono hn₀)) h0)
end Go.Proofs.Ytejkhnphplpkeaa

/-
  Layer 8: the longest gap: its contract.
-/
namespace Go.Proofs.Ytejkhnphplpkeaa
open Go.ChangeShapes Go.WideShapes Go.ChangeAt Go.RowKit Go.Shelf
set_option linter.unusedVariables false
attribute [local go_sem] Oper.semAt_some

/-- The longest of gaps. -/
def mostL : List Gp → Int
  | [] => 0
  | g :: r => max (g.e - g.s) (mostL r)
theorem most_snoc (l : List Gp) (g : Gp) : mostL (l ++ [g]) = max (mostL l) (max (g.e - g.s) 0) := by
  induction l with
  | nil => simp [mostL]; omega
  | cons b l ih => simp only [List.cons_append, mostL, ih]; omega
def mostG (l : List GG) : Int := mostL (l.map (·.1))
theorem mostG_snoc (l : List GG) (x : GG) : mostG (l ++ [x]) = max (mostG l) (x.1.e - x.1.s) := by
  have := x.2.lt
  unfold mostG
  rw [List.map_append, List.map_singleton, most_snoc]; omega
theorem most_bound (l : List GG) : 0 ≤ mostG l ∧ mostG l ≤ 2031616 := by
  unfold mostG
  induction l with
  | nil => simp [mostL]
  | cons a l ih =>
    have := a.2.lo; have := a.2.lt; have := a.2.hi
    simp only [List.map_cons, mostL]
    omega

set_option maxRecDepth 100000 in
set_option maxHeartbeats 4000000 in
theorem largest_any (A : Option Addr) (l : List Ar) (cap : Nat) (hl : l.length ≤ 100000) (w : World) (hA : Areas w.heap.size w A l) :
    Calls Try.prog 15 #[.slice A l.length cap] w fun e w' => e = .returned (.int .i64 (mostL (gapsL l))) ∧ Below w.heap.size w w' := by
  refine (callsIn_wide (n := 5)).1 ?_
  have hro : Fence.wide.round = none := rfl
  have fE : Fence.wide.fn 43 := trivial
  refine callsIn_of_wp_marks Try.func15 rfl trivial ?_ hro
  simp only [Try.ntmps15, List.size_toArray, List.length_cons, List.length_nil, Nat.reduceAdd, Nat.reduceSub, Array.replicate_succ, Array.replicate_zero, List.push_toArray, List.append_toArray, List.nil_append, List.cons_append]
  gi_wp2_with (gi_at_call 43; refine (each_in _ _ _ _).mono ?_; rintro e w' ⟨rfl, rfl⟩)
  have bS : Whole ((w.alloc (.cells #[.int .i64 0] 2)).alloc (.cells #[.slice A l.length cap] 22)) w.heap.size 2 #[.int .i64 0] := (Whole.new w 2 _).alloc _
  have bN : Whole ((w.alloc (.cells #[.int .i64 0] 2)).alloc (.cells #[.slice A l.length cap] 22)) (w.heap.size + 1) 22 #[.slice A l.length cap] := by
    have := Whole.new (w.alloc (.cells #[.int .i64 0] 2)) 22 #[.slice A l.length cap]; rwa [World.size_alloc] at this
  have hB0 := below_new2 w (.cells #[.int .i64 0] 2) (.cells #[.slice A l.length cap] 22)
  have hsz : ((w.alloc (.cells #[.int .i64 0] 2)).alloc (.cells #[.slice A l.length cap] 22)).heap.size = w.heap.size + 2 := by simp
  generalize (w.alloc (.cells #[.int .i64 0] 2)).alloc (.cells #[.slice A l.length cap] 22) = W0 at *
  refine wpIn_rangeFunc_ownH hro (by omega) (gf := 66) (lb := #[.pointer (some ⟨w.heap.size + 1, 0, none⟩)]) rfl trivial (enters_of Try.func66 (by kernel_rfl) rfl)
    (each_stops (w.heap.size + 1) w.heap.size cap A l hl W0 (by omega) (by omega) (bN.cell 0) (hA.below hB0)) KpA.trans (KpA.put (by omega)) (Below.refl _ _) (fun _ => rfl)
    (fun pre W => Whole W w.heap.size 2 #[.int .i64 (mostG pre)] ∧ Below w.heap.size w W)
    (fun _ _ _ => False)
    (OwnFrom.and (Own.from (whole_own _ _ _) _) (ownFrom_below (Nat.le_refl _) (by omega)))
    (fun _ _ _ _ _ hs _ _ => hs)
    ⟨bS, hB0⟩
    (fun x a' W => ∃ Bx, w.heap.size < Bx ∧ Whole W Bx 84 x.1.cells ∧ a' = { tmps := #[.slice A l.length cap, undef, .int .i64 0, .pointer (some ⟨w.heap.size, 0, none⟩), .pointer (some ⟨Bx, 0, none⟩), .slice A l.length cap, .func (.func 66) #[] #[.pointer (some ⟨w.heap.size + 1, 0, none⟩)], x.1.v, undef, undef, undef, undef, undef, undef, undef, undef], defers := [] })
    (fun x a' _ X Y row hs hg hr => by obtain ⟨Bx, h1, h2, h3⟩ := hs; exact ⟨Bx, h1, whole_own Bx _ (fun _ : Unit => _) () X Y row h2 hg (fun r e => (hr r e).2), h3⟩)
    ?assign ?body ?done ?stop
  case assign =>
    rintro l2 pre ⟨⟨x0, x1⟩, hx⟩ W K ⟨bS1, hB1⟩ hK
    simp only [Gp.v]
    gi_wp2
    exact hK _ _ ((KeepsOthers.alloc _ _).from _) (KpA.still hB1.size (below_new W _)) ⟨bS1.alloc _, hB1.alloc hB1.size _⟩ ⟨W.heap.size, bS1.lt, Whole.new W _ _, rfl⟩
  case body =>
    rintro l2 pre x a' W hlw hrec ⟨bS1, hB1⟩ ⟨Bx, hBx, bX, rfl⟩ hlt
    have cS := bS1.cell 0
    have fS := bS1.frozen 0
    have c0 := bX.cell 0
    have c1 := bX.cell 1
    have nx := And.intro x.2.lo (And.intro x.2.lt x.2.hi)
    have hb := most_bound pre
    have E1 := Lib.hid (mostG_snoc pre x)
    generalize hs : mostG pre = s at *
    clear hA hs
    simp [Gp.cells] at cS c0 c1
    gi_wp2
    all_goals (
      refine ⟨(KeepsOthers.setCell _ _ _).from _, KpA.set bS1 (by decide) (Nat.le_refl _) _ _, ?_, hB1.setCell (p := ⟨w.heap.size, 0, none⟩) (Nat.le_refl _) _⟩
      rw [E1.out]
      first | rw [Int.max_eq_right (by omega)] | rw [Int.max_eq_left (by omega)]
      exact bS1.put 0 _)
  case done =>
    rintro D ys W hD hys ⟨bS1, hB1⟩ hK
    have cS := bS1.cell 0
    unfold mostG at cS
    rw [hys] at cS
    simp at cS
    gi_wp2
    refine ⟨by simp, .inl ⟨_, _, rfl, run_takeDeferred hK, ?_⟩⟩
    exact ⟨_, results_tmp rfl _ _ _, rfl, hB1.trans (belowK_b (w := w) (Nat.le_refl _) W D _ _ (by omega) hK rfl rfl)⟩
  case stop =>
    rintro D c pre W _ _ h _
    exact h.elim
end Go.Proofs.Ytejkhnphplpkeaa

/-
  Layer 8: all gaps: a contract for each call.
-/
namespace Go.Proofs.Ytejkhnphplpkeaa
open Go.ChangeShapes Go.WideShapes Go.ChangeAt Go.RowKit Go.Shelf
set_option linter.unusedVariables false
attribute [local go_sem] Oper.semAt_some

/-! Lists of gaps of our own. -/
def Gp.cl (g : Gp) : List Value := [.int .i64 g.s, .int .i64 g.e]
def gcls (l : List Gp) : List Value := l.flatMap Gp.cl
theorem gcls_app (l l' : List Gp) : gcls (l ++ l') = gcls l ++ gcls l' := by simp [gcls]
theorem gcls_one (l : List Gp) : ∀ u ∈ gcls l, u.oneCell' = true := by
  intro u hu
  obtain ⟨a, _, hu⟩ := List.mem_flatMap.1 hu
  simp [Gp.cl] at hu
  rcases hu with rfl | rfl <;> rfl
theorem gcls_at : ∀ (l : List Gp) (j : Nat) (h : j < l.length) (i : Nat), i < 2 → (gcls l)[j * 2 + i]? = (Gp.cl l[j])[i]?
  | a :: l, 0, _, i, hi => by
    simp only [gcls, List.flatMap_cons, Nat.zero_mul, Nat.zero_add, List.getElem_cons_zero]
    rw [List.getElem?_append_left (by simp [Gp.cl]; omega)]
  | a :: l, j + 1, h, i, hi => by
    have := gcls_at l j (by simpa using h) i hi
    simp only [gcls, List.flatMap_cons, List.getElem_cons_succ] at *
    rw [List.getElem?_append_right (by simp [Gp.cl]; omega), ← this]
    congr 1
    simp [Gp.cl]; omega
/-- A slice in memory of our own, from B on, that holds gaps. -/
def MineG (B : Nat) (w : World) (v : Value) (l : List Gp) : Prop := w.ownsRow B 84 2 v l.length (gcls l)
/-- A slice that holds gaps. -/
def GapsAt (w : World) (A : Option Addr) (l : List Gp) : Prop :=
  l = [] ∨ ∃ b, A = some ⟨b, 0, none⟩ ∧ b < w.heap.size ∧ ∀ (j : Nat) (h : j < l.length), w.cell? ⟨b, j * 2, none⟩ = some (.int .i64 l[j].s) ∧ w.cell? ⟨b, j * 2 + 1, none⟩ = some (.int .i64 l[j].e)
theorem GapsAt.still {w w' : World} {A : Option Addr} {l : List Gp} (h : GapsAt w A l) (hb : Below w.heap.size w w') : GapsAt w' A l := by
  rcases h with h | ⟨b, e, hlt, hc⟩
  · exact .inl h
  · exact .inr ⟨b, e, Nat.lt_of_lt_of_le hlt hb.size, fun j hj => ⟨(hb.cell (p := ⟨b, j * 2, none⟩) hlt).trans (hc j hj).1, (hb.cell (p := ⟨b, j * 2 + 1, none⟩) hlt).trans (hc j hj).2⟩⟩
section
variable {B : Nat} {w w' : World} {v : Value} {l : List Gp}
theorem MineG.nil (B : Nat) (w : World) : MineG B w (.slice none 0 0) [] := World.ownsRow_nil w B _ _
theorem MineG.is (h : MineG B w v l) : ∃ A c, v = .slice A l.length c := own_slice h
theorem MineG.lt (h : MineG B w v l) : ∀ k, v.ownBlock = some k → B ≤ k ∧ k < w.heap.size := World.ownsRow.lt h
theorem MineG.gaps {A : Option Addr} {n c : Nat} (h : MineG B w (.slice A n c) l) : GapsAt w A l := by
  cases l with
  | nil => exact .inl rfl
  | cons a l =>
    rcases h.2 with ⟨_, h0⟩ | ⟨g, cap, cur, hv, hb, hh, _⟩
    · simp at h0
    · injection hv with h1
      subst h1
      have hc := World.ownsRow.cells h (g := g) (by simp [Value.ownBlock])
      refine .inr ⟨g, rfl, Whole.lt (t := 84) hh, fun j hj => ?_⟩
      have key : ∀ i u, i < 2 → (Gp.cl (a :: l)[j])[i]? = some u → w.cell? ⟨g, j * 2 + i, none⟩ = some u := fun i u hi hu => by
        have := hc (j * 2 + i) u (by rw [gcls_at _ j hj i hi]; exact hu)
        rwa [Addr.add_lit, Nat.zero_add] at this
      exact ⟨key 0 _ (by omega) rfl, key 1 _ (by omega) rfl⟩
end
theorem mineG_grown {B : Nat} {W W' : World} {row : Option Nat} {v : Value} {l : List Gp} (h : MineG B W v l) (hg : W.grownBy W' row) (hr : ∀ r, row = some r → ∃ o : Obj, W.heap[r]? = some o ∧ o.isCells = false) : MineG B W' v l := by
  refine World.ownsRow.kept h hg ?_
  rcases h.2 with ⟨rfl, _⟩ | ⟨g, cap, cur, rfl, _, hgb, _⟩
  · exact .inl rfl
  · refine .inr fun e' => ?_
    obtain ⟨o, ho, hc⟩ := hr g (by simpa [Value.ownBlock] using e'.symm)
    rw [hgb] at ho; cases ho; cases hc
theorem gap_info : (Try.prog.info? 84).map (fun i => (i.zero, i.size, i.bytes)) = some (some Gp.nil.v, 2, 16) := by kernel_rfl
theorem new2 (w : World) (g : Gp) (t : TypeId) : ∀ j u, (Gp.cl g)[j]? = some u → (w.alloc (.cells g.cells t)).cell? ((⟨w.heap.size, 0, none⟩ : Addr).add j) = some u := by
  intro j u hu
  have h := Whole.new w t g.cells
  have := h.cell j
  rw [Addr.add_lit, Nat.zero_add, this]
  simpa [Gp.cells, Gp.cl] using hu
def rawG (l : List GG) : List Gp := l.map (·.1)
theorem rawG_snoc (l : List GG) (x : GG) : rawG (l ++ [x]) = rawG l ++ [x.1] := by simp [rawG]

end Go.Proofs.Ytejkhnphplpkeaa

/-
  Layer 8: what of a gap lies within bounds: a contract for each call.
-/
namespace Go.Proofs.Ytejkhnphplpkeaa
open Go.ChangeShapes Go.WideShapes Go.ChangeAt Go.RowKit Go.Shelf
set_option linter.unusedVariables false

/-- What of a gap lies within bounds. -/
def withinG (lo hi : Int) (g : Gp) : Gp := if max lo g.s < min hi g.e then ⟨upg (max lo g.s), pg (min hi g.e)⟩ else ⟨0, 0⟩

end Go.Proofs.Ytejkhnphplpkeaa

/-
  Layer 8: a loop over a function that goes through another one itself: what both owe one another.
-/
namespace Go.Proofs.Ytejkhnphplpkeaa
open Go.ChangeShapes Go.WideShapes Go.ChangeAt Go.RowKit Go.Shelf
set_option linter.unusedVariables false
attribute [local go_sem] Oper.semAt_some

/-- What a body that is told a gap may turn: cells below n₁ (but none below n₀, and no area); nothing else. -/
structure Kc (n₀ n₁ : Nat) (W W' : World) : Prop where
  kp : KpA n₀ W W'
  rest : ∀ k o, W.heap[k]? = some o → (n₁ ≤ k ∨ o.isCells = false) → W'.heap[k]? = some o
theorem Kc.size {n₀ n₁ : Nat} {W W' : World} (h : Kc n₀ n₁ W W') : W.heap.size ≤ W'.heap.size := h.kp.bel.size
theorem Kc.refl (n₀ n₁ : Nat) (W : World) : Kc n₀ n₁ W W := ⟨KpA.refl _ _, fun _ _ h _ => h⟩
theorem Kc.trans {n₀ n₁ : Nat} {A B C : World} (h : Kc n₀ n₁ A B) (k : Kc n₀ n₁ B C) : Kc n₀ n₁ A C := ⟨h.kp.trans k.kp, fun i o h1 h2 => k.rest i o (h.rest i o h1 h2) h2⟩
theorem Kc.still {n₀ n₁ : Nat} {W W' : World} (hn : n₀ ≤ W.heap.size) (h : Below W.heap.size W W') : Kc n₀ n₁ W W' :=
  ⟨KpA.still hn h, fun k o hk _ => (h.block k (Array.getElem?_eq_some_iff.1 hk).1).trans hk⟩
theorem Kc.set {n₀ n₁ b : Nat} {t : TypeId} {W : World} {cs : Array Value} (h : Whole W b t cs) (ht : t ≠ tArea) (hn : n₀ ≤ b) (hb : b < n₁) (i : Nat) (v : Value) : Kc n₀ n₁ W (W.setCell ⟨b, i, none⟩ v) :=
  ⟨KpA.set h ht hn i v, fun k o hk ho => (Below.heap_setCell _ _ _ k (fun e => by
    have e2 : k = b := e
    subst e2
    rcases ho with ho | ho
    · omega
    · unfold Whole at h; rw [h] at hk; injection hk with hk; subst hk; cases ho)).trans hk⟩

/-- What a teller is owed by a round: as above, but that the loop's own record, ahead of B, may turn. -/
structure Kr (n₀ n₁ B : Nat) (W W' : World) : Prop where
  kp : KpA n₀ W W'
  cells : ∀ k o, W.heap[k]? = some o → n₁ ≤ k → o.isCells = true → W'.heap[k]? = some o
  from' : KeepsFrom B W W'
/-- What is said is said of what lies ahead of B. -/
def Deaf (B : Nat) (I : List GG → World → Prop) : Prop := ∀ s X Y, I s X → Only (fun k => B ≤ k) X Y → I s Y
theorem Deaf.mono {B B' : Nat} {I : List GG → World → Prop} (h : Deaf B I) (hb : B ≤ B') : Deaf B' I := fun s X Y hs ho => h s X Y hs ⟨ho.os, ho.tape, ho.output, ho.size, fun k hk hn => ho.block k hk (fun h => hn (by omega))⟩
theorem only_put {B l : Nat} (W : World) (o : Obj) (h : B ≤ l) : Only (fun k => B ≤ k) W (W.putObj l o) := ⟨rfl, rfl, rfl, by simp, fun k hk hn => World.putObj_heap_other (fun e => hn (by omega))⟩
theorem only_still {B : Nat} {W W' : World} (h : Below W.heap.size W W') : Only (fun k => B ≤ k) W W' := ⟨h.os, h.tape, h.output, h.size, fun k hk _ => h.block k hk⟩
theorem only_set {B b i : Nat} (W : World) (v : Value) (h : B ≤ b) : Only (fun k => B ≤ k) W (W.setCell ⟨b, i, none⟩ v) := by
  have hb := (Below.refl b W).setCell (p := ⟨b, i, none⟩) (Nat.le_refl _) v
  exact ⟨hb.os, hb.tape, hb.output, hb.size, fun k hk hn => hb.block k (by omega)⟩
theorem Deaf.own {B : Nat} {I : List GG → World → Prop} (h : Deaf B I) : OwnFrom B I := fun s X Y row hs hg hr => h s X Y hs ⟨hg.os, hg.tape, hg.output, hg.size, fun k hk hn => hg.block k hk (fun e => hn (hr k e.symm).1)⟩
/-- A teller's contract. -/
def SeqOwn (gf : Nat) (lb : Array Value) (n₀ n₁ : Nat) (S Sp : List GG → Prop) (N : Nat) (w : World) : Prop :=
  ∀ (l : Nat) (J Jx : List GG → World → Prop) (W : World), Below w.heap.size w W → Deaf W.heap.size J → Deaf W.heap.size Jx →
    (∀ pre x W1, J pre W1 → pre.length < N → YieldAt Fence.wide 3 Try.prog l #[x.1.v] W1 fun e W' =>
      (e = .returned (.bool true) ∧ J (pre ++ [x]) W' ∧ Kr n₀ n₁ W.heap.size W1 W') ∨ (e = .returned (.bool false) ∧ Jx (pre ++ [x]) W' ∧ KeepsFrom W.heap.size W1 W')) →
    J [] W →
    CallsIn Fence.wide 4 Try.prog gf (#[.func (.yield l) #[] #[]] ++ lb) W fun e W' => (∃ v, e = .returned v) ∧ ((∃ xs, S xs ∧ J xs W') ∨ (∃ pre, Sp pre ∧ Jx pre W'))

/-- How a body is left that is told a gap. -/
def heard (n₀ n₁ : Nat) (I Ix : World → Prop) (W : World) : Exit → Act → World → Prop
  | .normal, _, W' => Kc n₀ n₁ W W' ∧ I W'
  | .ret, _, W' => Kc n₀ n₁ W W' ∧ Ix W'
  | _, _, _ => False

/-- The record of a loop is turned. -/
theorem Kr.turned {n₀ n₁ B l : Nat} {W W' : World} {o o' o'' : Obj} (h : Kc n₀ n₁ (W.putObj l o') W') (hn : n₀ ≤ n₁) (hl1 : n₁ ≤ l) (hl : l < B) (hW : W.heap[l]? = some o) (ho : o.isCells = false) (ho' : o'.isCells = false) : Kr n₀ n₁ B W (W'.putObj l o'') := by
  have hlt := (Array.getElem?_eq_some_iff.1 hW).1
  have hs : W'.heap.size ≥ W.heap.size := by have := h.size; simpa using this
  have key : ∀ k x, k ≠ l → W.heap[k]? = some x → (n₁ ≤ k ∨ x.isCells = false) → (W'.putObj l o'').heap[k]? = some x := fun k x hk hx hc =>
    (World.putObj_heap_other hk).trans (h.rest k x ((World.putObj_heap_other hk).trans hx) hc)
  refine ⟨⟨⟨?_, ?_, ?_, ?_, ?_⟩, ?_⟩, ?_, ?_, ?_⟩
  · exact h.kp.bel.os
  · exact h.kp.bel.tape
  · exact h.kp.bel.output
  · simpa using hs
  · intro k hk
    have hne : k ≠ l := by omega
    rw [World.putObj_heap_other hne, h.kp.bel.block k hk, World.putObj_heap_other hne]
  · intro k cs hk
    have hne : k ≠ l := fun e => by subst e; unfold Whole at hk; rw [hW] at hk; injection hk with hk; subst hk; cases ho
    exact (World.putObj_heap_other hne).trans (h.kp.ars k cs ((World.putObj_heap_other hne).trans hk))
  · intro k x hx hk hc
    have hne : k ≠ l := fun e => by subst e; rw [hW] at hx; injection hx with hx; subst hx; rw [ho] at hc; cases hc
    exact key k x hne hx (.inl hk)
  · simpa using hs
  · intro k x hB hx hc
    exact key k x (by omega) hx (.inr hc)

/-- **A loop over such a teller.** -/
theorem range_own {g : Operand} {t : Tmp} {assign body : Code} {Q : Exit → Act → World → Prop} {a : Act} {w : World} {gf : Nat} {lb : Array Value}
    (hg : a.eval g = .func (.func gf) #[] lb) (eg : ∀ args w, (callFunc gf args).run Try.prog w = .ok (.enter gf args) w)
    {n₀ n₁ : Nat} {S Sp : List GG → Prop} {N : Nat} {w0 : World} (hseq : SeqOwn gf lb n₀ n₁ S Sp N w0) (hb0 : Below w0.heap.size w0 w) (hn : n₀ ≤ n₁) (hn1 : n₁ ≤ w.heap.size)
    (I Ix : List GG → World → Prop) (hI : Deaf w.heap.size I) (hIx : Deaf w.heap.size Ix) (h0 : I [] w)
    (Ax : GG → Act → World → Prop) (hAx : ∀ x a', OwnFrom w.heap.size (fun (_ : Unit) W => Ax x a' W))
    (hassign : ∀ (l : Nat) (pre : List GG) (x : GG) (W : World) (K : Act → World → Prop), I pre W → (∀ a' W', Below W.heap.size W W' → I pre W' → Ax x a' W' → K a' W') →
      assign.wpIn (Fence.wide.inRound l) 3 Try.prog (Exit.then K (fun _ _ _ => False)) { tmps := ((#[t] : Array Tmp).zip #[x.1.v]).foldl (fun t (p, v) => t.setIfInBounds p v) a.tmps, defers := [] } W)
    (hbody : ∀ (l : Nat) (pre : List GG) (x : GG) (a' : Act) (W : World), I pre W → Ax x a' W → pre.length < N → body.wpIn (Fence.wide.inRound l) 3 Try.prog (heard n₀ n₁ (I (pre ++ [x])) (Ix (pre ++ [x])) W) a' W)
    (hdone : ∀ (D : Nat) (xs : List GG) (W : World), w.heap.size ≤ D → S xs → I xs W → W.heap[D]? = some (.deferred (some [])) → Q .normal { a with defers := { target := .collected D, args := #[] } :: a.defers } W)
    (hstop : ∀ (D : Nat) (pre : List GG) (W : World), w.heap.size ≤ D → Sp pre → Ix pre W → W.heap[D]? = some (.deferred (some [])) → Code.ret.wpIn Fence.wide 5 Try.prog Q { a with defers := { target := .collected D, args := #[] } :: a.defers } W) :
    (Code.rangeFunc g #[t] assign body).wpIn Fence.wide 5 Try.prog Q a w := by
  refine wpIn_rangeFunc fun fn hfn => ?_
  -- the record, as it goes through its states
  let rec' : LoopState → Option Code → Obj := fun st pe => .loop { state := st, pending := pe, fn, tmps := a.tmps, params := #[t], assign, body, defers := w.heap.size }
  have hnc : ∀ st pe, (rec' st pe).isCells = false := fun _ _ => rfl
  obtain ⟨W1, hW1⟩ : ∃ W1, (w.alloc (.deferred (some []))).alloc (rec' .ready none) = W1 := ⟨_, rfl⟩
  have hs1 : W1.heap.size = w.heap.size + 2 := by rw [← hW1]; simp
  have hL1 : W1.heap[w.heap.size + 1]? = some (rec' .ready none) := by
    have := World.alloc_heap_new (w.alloc (.deferred (some []))) (rec' .ready none); rw [World.size_alloc] at this; rw [← hW1]; exact this
  have hD1 : W1.heap[w.heap.size]? = some (.deferred (some [])) := by
    rw [← hW1]; exact (Below.heap_alloc _ _ _ (by simp)).trans (World.alloc_heap_new w _)
  -- what is said of the two blocks stays where others turn
  have stays : ∀ {X Y : World} {k : Nat} {o : Obj}, Only (fun k => W1.heap.size ≤ k) X Y → k < w.heap.size + 2 → X.heap[k]? = some o → Y.heap[k]? = some o := fun ho hk hX =>
    (ho.block _ (Array.getElem?_eq_some_iff.1 hX).1 (by omega)).trans hX
  refine ⟨w.heap.size + 1, [{ target := .collected w.heap.size, args := #[] }], W1, { target := .fn (.func gf) lb, args := #[.func (.yield (w.heap.size + 1)) #[] #[]] }, W1, gf,
    #[.func (.yield (w.heap.size + 1)) #[] #[]] ++ lb, W1, ?_, ?_, (fun _ _ => trivial), ?_, (fun _ => by omega), ?_⟩
  · rw [← hW1]; exact run_enterLoop_outer _ _ _ _ _
  · simp only [resolve, hg]; simp [go_sem]
  · simp [invoke, go_sem, eg]
  refine (hseq (w.heap.size + 1)
    (fun pre W => I pre W ∧ W.heap[w.heap.size + 1]? = some (rec' .ready none) ∧ W.heap[w.heap.size]? = some (.deferred (some [])))
    (fun pre W => Ix pre W ∧ W.heap[w.heap.size + 1]? = some (rec' .done (some .ret)) ∧ W.heap[w.heap.size]? = some (.deferred (some [])))
    W1 ?_
    (fun s X Y hs ho => ⟨hI.mono (by omega) s X Y hs.1 ho, stays ho (by omega) hs.2.1, stays ho (by omega) hs.2.2⟩)
    (fun s X Y hs ho => ⟨hIx.mono (by omega) s X Y hs.1 ho, stays ho (by omega) hs.2.1, stays ho (by omega) hs.2.2⟩)
    ?_ ⟨?_, hL1, hD1⟩).mono ?_
  · rw [← hW1]; exact hb0.trans ((below_new2 w _ _).mono hb0.size)
  · -- a round
    rintro pre x W ⟨hi, hl, hd⟩ hlen
    have hy := run_yield (P := Try.prog) (args := #[x.1.v]) hl rfl
    refine ⟨fn, _, assign, body, hy, roundIn_of_wpIn hfn (hassign _ pre x W _ hi ?_)⟩
    intro a' Wa hba hia hax
    have hla : Wa.heap[w.heap.size + 1]? = some (rec' .ready none) := (hba.block _ (Array.getElem?_eq_some_iff.1 hl).1).trans hl
    have hda : Wa.heap[w.heap.size]? = some (.deferred (some [])) := (hba.block _ (Array.getElem?_eq_some_iff.1 hd).1).trans hd
    have hlt : w.heap.size + 1 < Wa.heap.size := (Array.getElem?_eq_some_iff.1 hla).1
    refine ⟨_, run_beginRound hla rfl, ?_⟩
    have hsW : w.heap.size ≤ W.heap.size := by have := (Array.getElem?_eq_some_iff.1 hl).1; omega
    refine wpIn_mono (hbody _ pre x a' _ (hI.own.putObj _ hia (by omega) hla rfl) ((hAx x a').putObj (s := ()) _ hax (by omega) hla rfl) hlen) ?_
    have fin : ∀ (jump : Option Code) (W3 : World), Kc n₀ n₁ (Wa.putObj (w.heap.size + 1) (rec' .busy none)) W3 →
        (Instr.endRound (w.heap.size + 1) jump).run Try.prog W3 = .ok (.bool jump.isNone) (W3.putObj (w.heap.size + 1) (rec' (if jump.isNone then .ready else .done) jump)) ∧
        W3.heap[w.heap.size + 1]? = some (rec' .busy none) ∧
        (W3.putObj (w.heap.size + 1) (rec' (if jump.isNone then .ready else .done) jump)).heap[w.heap.size + 1]? = some (rec' (if jump.isNone then .ready else .done) jump) ∧
        (W3.putObj (w.heap.size + 1) (rec' (if jump.isNone then .ready else .done) jump)).heap[w.heap.size]? = some (.deferred (some [])) := fun jump W3 hk => by
      have h3 := hk.rest (w.heap.size + 1) _ (World.putObj_heap_same hlt) (.inr rfl)
      have h4 := hk.rest w.heap.size _ ((World.putObj_heap_other (by omega)).trans hda) (.inr rfl)
      exact ⟨run_endRound jump h3, h3, World.putObj_heap_same (Array.getElem?_eq_some_iff.1 h3).1, (World.putObj_heap_other (by omega)).trans h4⟩
    have kr : ∀ (W3 : World) (o : Obj), Kc n₀ n₁ (Wa.putObj (w.heap.size + 1) (rec' .busy none)) W3 → Kr n₀ n₁ W1.heap.size W (W3.putObj (w.heap.size + 1) o) := fun W3 o hk => by
      have h1 := Kr.turned (B := W1.heap.size) (o'' := o) hk hn (by omega) (by omega) hla rfl rfl
      have h2 : Kc n₀ n₁ W Wa := Kc.still (by omega) hba
      exact ⟨h2.kp.trans h1.kp, fun k o hk hn ho => h1.cells k o (h2.rest k o hk (.inl hn)) hn ho, ⟨Nat.le_trans h2.size h1.from'.size, fun k o hB hk ho => h1.from'.same k o hB (h2.rest k o hk (.inr ho)) ho⟩⟩
    rintro e a3 W3 hp
    cases e with
    | normal =>
      obtain ⟨hk, hi3⟩ := hp
      obtain ⟨hr, h3, h4, h5⟩ := fin none W3 hk
      exact ⟨_, _, hr, .inl ⟨rfl, ⟨hI.own.putObj _ hi3 (by omega) h3 rfl, h4, h5⟩, kr W3 _ hk⟩⟩
    | ret =>
      obtain ⟨hk, hi3⟩ := hp
      obtain ⟨hr, h3, h4, h5⟩ := fin (some .ret) W3 hk
      exact ⟨_, _, hr, .inr ⟨rfl, ⟨hIx.own.putObj _ hi3 (by omega) h3 rfl, h4, h5⟩, (kr W3 _ hk).from'⟩⟩
    | exit _ => exact hp.elim
    | goto _ => exact hp.elim
    | panic _ => exact hp.elim
    | outgrown => exact hp.elim
  · rw [← hW1]; exact hI.own.alloc _ (hI.own.alloc _ h0)
  · -- behind it
    rintro e W2 ⟨⟨v, rfl⟩, (⟨xs, hS, hi, hl, hd⟩ | ⟨pre, hSp, hi, hl, hd⟩)⟩
    · exact ⟨none, _, run_endLoop hl (by simp), hdone _ xs _ (Nat.le_refl _) hS (hI.own.putObj _ hi (by omega) hl rfl) ((World.putObj_heap_other (by omega)).trans hd)⟩
    · exact ⟨some .ret, _, run_endLoop hl (by simp), hstop _ pre _ (Nat.le_refl _) hSp (hIx.own.putObj _ hi (by omega) hl rfl) ((World.putObj_heap_other (by omega)).trans hd)⟩
end Go.Proofs.Ytejkhnphplpkeaa

/-
  Layer 8: what tells the gaps that are long enough, within bounds: its contract.
-/
namespace Go.Proofs.Ytejkhnphplpkeaa
open Go.ChangeShapes Go.WideShapes Go.ChangeAt Go.RowKit Go.Shelf
set_option linter.unusedVariables false
attribute [local go_sem] Oper.semAt_some

instance (g : Gp) : Decidable (GoodG g) := decidable_of_iff (65536 ≤ g.s ∧ g.s < g.e ∧ g.e ≤ 2097152 ∧ g.s % 4096 = 0 ∧ g.e % 4096 = 0) ⟨fun ⟨a, b, c, d, e⟩ => ⟨a, b, c, d, e⟩, fun ⟨a, b, c, d, e⟩ => ⟨a, b, c, d, e⟩⟩
/-- What of a gap is long enough. -/
def roomOf (lo hi size : Int) (x : GG) : List GG := if h : GoodG (withinG lo hi x.1) ∧ size ≤ (withinG lo hi x.1).e - (withinG lo hi x.1).s then [⟨withinG lo hi x.1, h.1⟩] else []
def roomsG (lo hi size : Int) (l : List GG) : List GG := l.flatMap (roomOf lo hi size)
/-- A list's gaps, each with what is known of it. -/
def goodL (l : List Ar) : List GG := (gapsL l).attach.map (fun g => ⟨g.1, gapsL_good g.1 g.2⟩)
theorem goodL_raw (l : List Ar) : (goodL l).map (·.1) = gapsL l := by
  unfold goodL
  rw [List.map_map]
  exact List.attach_map_subtype_val _
theorem good_eq {l : List Ar} {ys : List GG} (h : ys.map (·.1) = gapsL l) : ys = goodL l := by
  rw [← goodL_raw] at h
  exact (List.map_inj_right (fun a b e => Subtype.ext e)).1 h
theorem told_eq {l : List Ar} {pre : List GG} (h : Told l pre) : ∃ t, pre ++ t = goodL l := by
  obtain ⟨t, ht⟩ := h
  have hp : pre.map (·.1) = ((goodL l).take pre.length).map (·.1) := by
    rw [List.map_take, goodL_raw, ← ht]; simp
  have h2 : pre = (goodL l).take pre.length := (List.map_inj_right (fun a b e => Subtype.ext e)).1 hp
  exact ⟨(goodL l).drop pre.length, by conv => lhs; lhs; rw [h2]
                                       exact List.take_append_drop _ _⟩
/-- All that has room. -/
def roomsL (lo hi size : Int) (l : List Ar) : List GG := if 1 ≤ size ∧ size % 4096 = 0 then roomsG lo hi size (goodL l) else []

theorem within_good {g : Gp} (hg : GoodG g) {lo hi size : Int} (h1 : 1 ≤ size) (h2 : size ≤ (withinG lo hi g).e - (withinG lo hi g).s) : GoodG (withinG lo hi g) := by
  unfold withinG at *
  have := hg.lo; have := hg.lt; have := hg.hi
  by_cases h : max lo g.s < min hi g.e
  · rw [if_pos h] at h2 ⊢
    simp only at h2
    have a1 := upg_le (max lo g.s)
    have a2 := pg_le (min hi g.e)
    exact ⟨by simp only; omega, by simp only; omega, by simp only; omega, a1.2.2, a2.2.2⟩
  · rw [if_neg h] at h2; simp at h2; omega
theorem within_bound {g : Gp} (hg : GoodG g) (lo hi : Int) : -2097152 ≤ (withinG lo hi g).e - (withinG lo hi g).s ∧ (withinG lo hi g).e - (withinG lo hi g).s ≤ 2097152 := by
  unfold withinG
  have := hg.lo; have := hg.lt; have := hg.hi
  by_cases h : max lo g.s < min hi g.e
  · rw [if_pos h]
    simp only
    have a1 := upg_le (max lo g.s)
    have a2 := pg_le (min hi g.e)
    omega
  · rw [if_neg h]; simp
theorem rooms_snoc_yes {lo hi size : Int} (pre : List GG) (x : GG) (h1 : 1 ≤ size) (h2 : size ≤ (withinG lo hi x.1).e - (withinG lo hi x.1).s) : roomsG lo hi size (pre ++ [x]) = roomsG lo hi size pre ++ [⟨withinG lo hi x.1, within_good x.2 h1 h2⟩] := by
  have : roomOf lo hi size x = [⟨withinG lo hi x.1, within_good x.2 h1 h2⟩] := by unfold roomOf; rw [dif_pos ⟨within_good x.2 h1 h2, h2⟩]
  unfold roomsG
  rw [List.flatMap_append]
  simp [this]
theorem rooms_snoc_no {lo hi size : Int} (pre : List GG) (x : GG) (h2 : ¬ size ≤ (withinG lo hi x.1).e - (withinG lo hi x.1).s) : roomsG lo hi size (pre ++ [x]) = roomsG lo hi size pre := by
  have : roomOf lo hi size x = [] := by unfold roomOf; rw [dif_neg (fun h => h2 h.2)]
  unfold roomsG
  rw [List.flatMap_append]
  simp [this]
theorem rooms_len (lo hi size : Int) (l : List GG) : (roomsG lo hi size l).length ≤ l.length := by
  induction l with
  | nil => simp [roomsG]
  | cons x l ih =>
    have : (roomOf lo hi size x).length ≤ 1 := by unfold roomOf; split <;> simp
    have e : roomsG lo hi size (x :: l) = roomOf lo hi size x ++ roomsG lo hi size l := by simp [roomsG]
    rw [e, List.length_append, List.length_cons]; omega

/-- The variables that rooms has laid for the function that it answers. -/
structure Caught (w : World) (b : Nat) (size : Int) (v : Value) (lo hi : Int) : Prop where
  v : Whole w b 22 #[v]
  lo : Whole w (b + 1) 2 #[.int .i64 lo]
  hi : Whole w (b + 2) 2 #[.int .i64 hi]
  size : Whole w (b + 3) 2 #[.int .i64 size]

theorem whole_ne {w : World} {a b : Nat} {t t' : TypeId} {cs cs' : Array Value} (h : Whole w a t cs) (h' : Whole w b t' cs') (ht : t ≠ t') : a ≠ b := fun e => by
  subst e; unfold Whole at h h'; rw [h] at h'; injection h' with h'; injection h' with _ h'; exact ht h'
/-- How a teller ends. -/
def Ends (S Sp : List GG → Prop) (J Jx : List GG → World → Prop) (e : Ending) (W' : World) : Prop := (∃ v, e = .returned v) ∧ ((∃ xs, S xs ∧ J xs W') ∨ (∃ pre, Sp pre ∧ Jx pre W'))
/-- What has come of a list. -/
def Part (l pre : List GG) : Prop := ∃ t, pre ++ t = l
/-- Where the loop stands: what was told, and its variables. -/
structure RoomAt (J : List GG → World → Prop) (b q l : Nat) (size : Int) (v : Value) (lo hi : Int) (pre : List GG) (Wr : World) : Prop where
  j : J (roomsG lo hi size pre) Wr
  c : Caught Wr b size v lo hi
  t : Whole Wr q 126 #[.func (.yield l) #[] #[]]
  sz : q + 2 ≤ Wr.heap.size
section
variable {w w' : World} {b : Nat} {size lo hi : Int} {v : Value}
theorem Caught.keep (h : Caught w b size v lo hi) (hk : ∀ k t cs, b ≤ k → Whole w k t cs → Whole w' k t cs) : Caught w' b size v lo hi :=
  ⟨hk _ _ _ (by omega) h.v, hk _ _ _ (by omega) h.lo, hk _ _ _ (by omega) h.hi, hk _ _ _ (by omega) h.size⟩
theorem room_own {J : List GG → World → Prop} {q l B : Nat} (hJ : Deaf B J) : OwnFrom B (fun s W => RoomAt J b q l size v lo hi s W) := fun s X Y row hs hg hr =>
  have hr' : ∀ r, row = some r → ∃ o : Obj, X.heap[r]? = some o ∧ o.isCells = false := fun r e => (hr r e).2
  ⟨hJ.own _ X Y row hs.j hg hr, hs.c.keep (fun k t cs _ h => Whole.grown h hg (fun e' => by obtain ⟨o, ho, hc⟩ := hr' k e'.symm; rw [show X.heap[k]? = _ from h] at ho; cases ho; cases hc)),
   Whole.grown hs.t hg (fun e' => by obtain ⟨o, ho, hc⟩ := hr' q e'.symm; rw [show X.heap[q]? = _ from hs.t] at ho; cases ho; cases hc), Nat.le_trans hs.sz hg.size⟩
end

/-- Behind the store of what lies within. -/
structure Within (Wr W2 : World) (n₀ b q l : Nat) (size : Int) (v : Value) (lo hi : Int) : Prop where
  c : Caught W2 b size v lo hi
  t : Whole W2 q 126 #[.func (.yield l) #[] #[]]
  ko : KeepsOthers Wr W2
  kp : KpA n₀ Wr W2
  sz : q + 2 ≤ W2.heap.size
  only : Only (fun k => q ≤ k) Wr W2
theorem within_at {J : List GG → World → Prop} {Wr W1 : World} {n₀ b q l Bx : Nat} {size lo hi : Int} {v : Value} {pre : List GG} {cs : Array Value} (hI : RoomAt J b q l size v lo hi pre Wr) (hb : Below Wr.heap.size Wr W1) (hX : Whole Wr Bx 84 cs) (hB : q + 2 ≤ Bx) (hbq : b + 3 < q) (hn : n₀ ≤ b) (r0 r1 : Value) :
    Within Wr ((W1.setCell ⟨Bx, 0, none⟩ r0).setCell ⟨Bx, 1, none⟩ r1) n₀ b q l size v lo hi := by
  have hX1 := hX.below hb hX.lt
  have k1 := KpA.set (n₀ := n₀) hX1 (by decide) (by omega) 0 r0
  have k2 := KpA.set (n₀ := n₀) (hX1.put 0 r0) (by decide) (by omega) 1 r1
  have hs := hI.sz
  have hk : ∀ k t cs', k < Bx → Whole Wr k t cs' → Whole ((W1.setCell ⟨Bx, 0, none⟩ r0).setCell ⟨Bx, 1, none⟩ r1) k t cs' := fun k t cs' hlt h => ((h.below hb h.lt).far (Nat.ne_of_lt hlt) _).far (Nat.ne_of_lt hlt) _
  refine ⟨⟨hk _ _ _ (by omega) hI.c.v, hk _ _ _ (by omega) hI.c.lo, hk _ _ _ (by omega) hI.c.hi, hk _ _ _ (by omega) hI.c.size⟩, hk _ _ _ (by omega) hI.t, ?_, (KpA.still (by omega) hb).trans (k1.trans k2), ?_, ?_⟩
  · exact (KeepsOthers.of_grownBy (below_grown hb) (fun j o e => by cases e)).trans ((KeepsOthers.setCell _ _ _).trans (KeepsOthers.setCell _ _ _))
  · have h1 := k1.bel.size; have h2 := k2.bel.size; have h3 := hb.size; omega
  · exact (only_still hb).trans ((only_set W1 r0 (by omega)).trans (only_set _ r1 (by omega)))
theorem keepsFrom_mono {B B' : Nat} {W W' : World} (h : KeepsFrom B W W') (hb : B ≤ B') : KeepsFrom B' W W' := ⟨h.size, fun k o hk => h.same k o (by omega)⟩
theorem Kr.whole {n₀ b B k : Nat} {W W' : World} {t : TypeId} {cs : Array Value} (h : Kr n₀ b B W W') (hk : b ≤ k) (hw : Whole W k t cs) : Whole W' k t cs := h.cells k _ hw hk rfl

end Go.Proofs.Ytejkhnphplpkeaa

/-
  Layer 8: the least and the greatest address with room, and whether there is room at one: a contract for each call.
-/
namespace Go.Proofs.Ytejkhnphplpkeaa
open Go.ChangeShapes Go.WideShapes Go.ChangeAt Go.RowKit Go.Shelf
set_option linter.unusedVariables false
attribute [local go_sem] Oper.semAt_some

/-- The least address, and whether there is one. -/
def lowOf : List GG → Int × Bool
  | [] => (0, false)
  | x :: _ => (x.1.s, true)
/-- The greatest one. -/
def highOf (size : Int) (l : List GG) : Int × Bool := match l.getLast? with
  | none => (0, false)
  | some x => (x.1.e - size, true)
theorem high_snoc (size : Int) (l : List GG) (x : GG) : highOf size (l ++ [x]) = (x.1.e - size, true) := by simp [highOf]
/-- Two variables of a call: a number, and whether it is one. -/
structure Duo (w W : World) (n : Int) (ok : Bool) : Prop where
  bel : Below w.heap.size w W
  n : Whole W w.heap.size 2 #[.int .i64 n]
  ok : Whole W (w.heap.size + 1) 4 #[.bool ok]
theorem Duo.only {w W W' : World} {n : Int} {ok : Bool} {B : Nat} (h : Duo w W n ok) (ho : Only (fun k => B ≤ k) W W') (hB : w.heap.size + 2 ≤ B) : Duo w W' n ok :=
  ⟨h.bel.trans (ho.below (fun k hk => by omega) h.bel.size), h.n.only ho (by omega), h.ok.only ho (by omega)⟩

theorem Duo.set {w W : World} {n : Int} {ok : Bool} (h : Duo w W n ok) (n' : Int) (ok' : Bool) : Duo w ((W.setCell ⟨w.heap.size, 0, none⟩ (.int .i64 n')).setCell ⟨w.heap.size + 1, 0, none⟩ (.bool ok')) n' ok' :=
  ⟨(h.bel.setCell (p := ⟨w.heap.size, 0, none⟩) (Nat.le_refl _) _).setCell (p := ⟨w.heap.size + 1, 0, none⟩) (by simp) _, (h.n.put 0 _).far (by simp) _, (h.ok.far (by simp) _).put 0 _⟩
theorem Duo.kc {w W : World} {n : Int} {ok : Bool} (h : Duo w W n ok) {n₁ : Nat} (hn : w.heap.size + 2 ≤ n₁) (u v : Value) : Kc w.heap.size n₁ W ((W.setCell ⟨w.heap.size, 0, none⟩ u).setCell ⟨w.heap.size + 1, 0, none⟩ v) :=
  (Kc.set h.n (by decide) (Nat.le_refl _) (by omega) 0 u).trans (Kc.set (h.ok.far (by simp) _) (by decide) (by omega) (by omega) 0 v)
theorem Duo.deaf {w : World} {n : Int} {ok : Bool} {W : World} {D : Nat} {o o' : Obj} (h : Duo w W n ok) (hD : w.heap.size + 2 ≤ D) : Duo w (W.putObj D o') n ok := h.only (only_put W o' hD) (Nat.le_refl _)
/-- Nothing was told; something was. -/
def LowI (w : World) (pre : List GG) (W : World) : Prop := pre = [] ∧ Duo w W 0 false
def LowX (w : World) (pre : List GG) (W : World) : Prop := ∃ x, pre = [x] ∧ Duo w W x.1.s true
theorem duo_results {fn : Func} {p q : Tmp} (h : fn.results = #[.cell p 2, .cell q 4]) (tmps : Array Value) (w : World) (a b : Nat) (n : Int) (ok : Bool) (hp : tmps.getD p undef = .pointer (some ⟨a, 0, none⟩)) (hq : tmps.getD q undef = .pointer (some ⟨b, 0, none⟩))
    (ha : w.cell? ⟨a, 0, none⟩ = some (.int .i64 n)) (hb : w.cell? ⟨b, 0, none⟩ = some (.bool ok)) : (results fn tmps).run Try.prog w = .ok (.tuple #[.int .i64 n, .bool ok]) w := by
  have hp' : tmps[p]?.getD undef = .pointer (some ⟨a, 0, none⟩) := by simpa using hp
  have hq' : tmps[q]?.getD undef = .pointer (some ⟨b, 0, none⟩) := by simpa using hq
  simp [results, h, hp', hq', asAddr, loadVar, go_sem, ha, hb, Result.andThen]

/-- What a call with these two variables leaves. -/
theorem duo_leaves {w W : World} {n : Int} {ok : Bool} {D : Nat} (h : Duo w W n ok) (hD : w.heap.size + 2 ≤ D) (o : Obj) {fn : Func} {p q : Tmp} (hf : fn.results = #[.cell p 2, .cell q 4]) {tmps : Array Value} (hp : tmps.getD p undef = .pointer (some ⟨w.heap.size, 0, none⟩)) (hq : tmps.getD q undef = .pointer (some ⟨w.heap.size + 1, 0, none⟩)) :
    (results fn tmps).run Try.prog (W.putObj D o) = .ok (.tuple #[.int .i64 n, .bool ok]) (W.putObj D o) := by
  have h2 : Duo w (W.putObj D o) n ok := h.only (only_put W o hD) (Nat.le_refl _)
  have c1 := h2.n.cell 0
  have c2 := h2.ok.cell 0
  exact duo_results hf tmps _ _ _ n ok hp hq (by simpa using c1) (by simpa using c2)
theorem duo_below {w W : World} {n : Int} {ok : Bool} {D : Nat} (h : Duo w W n ok) (hD : w.heap.size + 2 ≤ D) (o : Obj) : Below w.heap.size w (W.putObj D o) := (h.only (only_put W o hD) (Nat.le_refl _)).bel

end Go.Proofs.Ytejkhnphplpkeaa

/-
  Layer 8: the greatest address with room, and whether there is room at one: a contract for each call.
-/
namespace Go.Proofs.Ytejkhnphplpkeaa
open Go.ChangeShapes Go.WideShapes Go.ChangeAt Go.RowKit Go.Shelf
set_option linter.unusedVariables false
attribute [local go_sem] Oper.semAt_some

/-- Three variables of a call: a size, a number, and whether it is one. -/
structure Trio (w W : World) (size n : Int) (ok : Bool) : Prop where
  bel : Below w.heap.size w W
  sz : Whole W w.heap.size 2 #[.int .i64 size]
  n : Whole W (w.heap.size + 1) 2 #[.int .i64 n]
  ok : Whole W (w.heap.size + 1 + 1) 4 #[.bool ok]
theorem Trio.only {w W W' : World} {size n : Int} {ok : Bool} {B : Nat} (h : Trio w W size n ok) (ho : Only (fun k => B ≤ k) W W') (hB : w.heap.size + 3 ≤ B) : Trio w W' size n ok :=
  ⟨h.bel.trans (ho.below (fun k hk => by omega) h.bel.size), h.sz.only ho (by omega), h.n.only ho (by omega), h.ok.only ho (by omega)⟩
theorem Trio.set {w W : World} {size n : Int} {ok : Bool} (h : Trio w W size n ok) (n' : Int) (ok' : Bool) : Trio w ((W.setCell ⟨w.heap.size + 1, 0, none⟩ (.int .i64 n')).setCell ⟨w.heap.size + 1 + 1, 0, none⟩ (.bool ok')) size n' ok' :=
  ⟨(h.bel.setCell (p := ⟨w.heap.size + 1, 0, none⟩) (by simp) _).setCell (p := ⟨w.heap.size + 1 + 1, 0, none⟩) (by simp; omega) _, (h.sz.far (by simp) _).far (by simp; omega) _, (h.n.put 0 _).far (by simp) _, (h.ok.far (by simp) _).put 0 _⟩
theorem Trio.kc {w W : World} {size n : Int} {ok : Bool} (h : Trio w W size n ok) {n₁ : Nat} (hn : w.heap.size + 3 ≤ n₁) (u v : Value) : Kc w.heap.size n₁ W ((W.setCell ⟨w.heap.size + 1, 0, none⟩ u).setCell ⟨w.heap.size + 1 + 1, 0, none⟩ v) :=
  (Kc.set h.n (by decide) (by omega) (by omega) 0 u).trans (Kc.set (h.ok.far (by simp) _) (by decide) (by omega) (by omega) 0 v)
/-- The last one that was told. -/
def HighI (w : World) (size : Int) (pre : List GG) (W : World) : Prop := Trio w W size (highOf size pre).1 (highOf size pre).2
theorem high_none (size : Int) : highOf size [] = (0, false) := rfl

end Go.Proofs.Ytejkhnphplpkeaa

/-
  Layer 8: addresses with room, as pages; the least and the greatest one; what follows. No program is asked.
-/
namespace Go.Proofs.Ytejkhnphplpkeaa
set_option linter.unusedVariables false

/-- Whether there is room at an address: in one gap. -/
def FitsAt (l : List Ar) (addr size : Int) : Prop := addr % 4096 = 0 ∧ 1 ≤ size ∧ size % 4096 = 0 ∧ ∃ g ∈ gapsL l, g.s ≤ addr ∧ addr + size ≤ g.e
theorem apart_eq {gs : List Gp} (h : Apart gs) {g k : Gp} (hg : g ∈ gs) (hk : k ∈ gs) : g = k ∨ g.e < k.s ∨ k.e < g.s := by
  induction gs with
  | nil => cases hg
  | cons a r ih =>
    have hp := List.pairwise_cons.1 h
    rcases List.mem_cons.1 hg with rfl | hg
    · rcases List.mem_cons.1 hk with rfl | hk
      · exact .inl rfl
      · exact .inr (.inl (hp.1 k hk))
    · rcases List.mem_cons.1 hk with e | hk
      · rw [e]; exact .inr (.inr (hp.1 g (by assumption)))
      · exact ih hp.2 (by assumption) hk
/-- Room, page by page. -/
theorem fits_pages {l : List Ar} (h : RightL l) (addr size : Int) : FitsAt l addr size ↔ (addr % 4096 = 0 ∧ 1 ≤ size ∧ size % 4096 = 0 ∧ ∀ p : Int, addr ≤ 4096 * p → 4096 * p < addr + size → FreeP l p) := by
  constructor
  · rintro ⟨h1, h2, h3, g, hg, h4, h5⟩
    exact ⟨h1, h2, h3, fun p hp hq => (gaps_page h p).1 ⟨g, hg, by unfold InG; omega⟩⟩
  · rintro ⟨h1, h2, h3, h4⟩
    obtain ⟨g, hg, hi⟩ := (gaps_page h (addr / 4096)).2 (h4 _ (by omega) (by omega))
    have gg := gapsL_good g hg
    have g1 := gg.lo; have g2 := gg.lt; have g3 := gg.hi; have g4 := gg.sp; have g5 := gg.ep
    unfold InG at hi
    refine ⟨h1, h2, h3, g, hg, by omega, ?_⟩
    rcases Int.lt_or_le g.e (addr + size) with hlt | hle
    · exfalso
      obtain ⟨k, hk, hik⟩ := (gaps_page h (g.e / 4096)).2 (h4 _ (by omega) (by omega))
      unfold InG at hik
      have kg := gapsL_good k hk
      have := kg.lt
      rcases apart_eq (gapsL_apart l) hg hk with rfl | h6 | h6 <;> omega
    · exact hle

theorem mem_good {l : List Ar} {x : GG} : x ∈ goodL l ↔ x.1 ∈ gapsL l := by
  rw [← goodL_raw l]
  constructor
  · intro h; exact List.mem_map.2 ⟨x, h, rfl⟩
  · intro h
    obtain ⟨y, hy, e⟩ := List.mem_map.1 h
    obtain rfl : y = x := Subtype.ext e
    exact hy
/-- What is told has room, from its start up to its end. -/
theorem mem_rooms {lo hi size : Int} {l : List Ar} {y : GG} (h : y ∈ roomsL lo hi size l) : 1 ≤ size ∧ size % 4096 = 0 ∧ size ≤ y.1.e - y.1.s ∧ ∃ g ∈ gapsL l, y.1 = withinG lo hi g := by
  unfold roomsL at h
  by_cases hs : 1 ≤ size ∧ size % 4096 = 0
  · rw [if_pos hs] at h
    obtain ⟨x, hx, hy⟩ := List.mem_flatMap.1 h
    unfold roomOf at hy
    by_cases hg : GoodG (withinG lo hi x.1) ∧ size ≤ (withinG lo hi x.1).e - (withinG lo hi x.1).s
    · rw [dif_pos hg] at hy
      obtain rfl := List.mem_singleton.1 hy
      exact ⟨hs.1, hs.2, hg.2, x.1, mem_good.1 hx, rfl⟩
    · rw [dif_neg hg] at hy; cases hy
  · rw [if_neg hs] at h; cases h
/-- Within bounds: the numbers. -/
theorem within_num {g : Gp} (hg : GoodG g) {lo hi size : Int} (h1 : 1 ≤ size) (h2 : size ≤ (withinG lo hi g).e - (withinG lo hi g).s) :
    lo ≤ (withinG lo hi g).s ∧ g.s ≤ (withinG lo hi g).s ∧ (withinG lo hi g).e ≤ hi ∧ (withinG lo hi g).e ≤ g.e ∧ (withinG lo hi g).s < lo + 4096 ∨ (lo ≤ (withinG lo hi g).s ∧ (withinG lo hi g).s = g.s ∧ (withinG lo hi g).e ≤ hi ∧ (withinG lo hi g).e ≤ g.e) := by
  unfold withinG at *
  have := hg.sp
  by_cases h : max lo g.s < min hi g.e
  · rw [if_pos h] at h2 ⊢
    simp only at h2 ⊢
    have a1 := upg_le (max lo g.s)
    have a2 := pg_le (min hi g.e)
    omega
  · rw [if_neg h] at h2; simp at h2; omega
/-- The gap that has room at an address is told, and holds it. -/
theorem rooms_has {lo hi size : Int} {l : List Ar} {b : Int} (hf : FitsAt l b size) (hlo : lo ≤ b) (hhi : b + size ≤ hi) : ∃ y ∈ roomsL lo hi size l, y.1.s ≤ b ∧ b + size ≤ y.1.e := by
  obtain ⟨h1, h2, h3, g, hg, h4, h5⟩ := hf
  have gg := gapsL_good g hg
  have g1 := gg.lo; have g2 := gg.lt; have g3 := gg.hi; have g4 := gg.sp; have g5 := gg.ep
  have hw : withinG lo hi g = ⟨upg (max lo g.s), pg (min hi g.e)⟩ := by unfold withinG; rw [if_pos (by omega)]
  have a1 := upg_le (max lo g.s)
  have a2 := pg_le (min hi g.e)
  have e1 : (withinG lo hi g).s ≤ b := by rw [hw]; simp only; omega
  have e2 : b + size ≤ (withinG lo hi g).e := by rw [hw]; simp only; omega
  have hsz : size ≤ (withinG lo hi g).e - (withinG lo hi g).s := by omega
  refine ⟨⟨withinG lo hi g, within_good gg h2 hsz⟩, ?_, e1, e2⟩
  unfold roomsL
  rw [if_pos ⟨h2, h3⟩]
  refine List.mem_flatMap.2 ⟨⟨g, gg⟩, mem_good.2 hg, ?_⟩
  unfold roomOf
  rw [dif_pos ⟨within_good gg h2 hsz, hsz⟩]
  simp
theorem room_fits {lo hi size : Int} {l : List Ar} {y : GG} (h : y ∈ roomsL lo hi size l) {b : Int} (hb : b % 4096 = 0) (h1 : y.1.s ≤ b) (h2 : b + size ≤ y.1.e) : FitsAt l b size ∧ lo ≤ b ∧ b + size ≤ hi := by
  obtain ⟨s1, s2, s3, g, hg, he⟩ := mem_rooms h
  have hn := within_num (lo := lo) (hi := hi) (gapsL_good g hg) s1 (by rw [← he]; exact s3)
  rw [← he] at hn
  exact ⟨⟨hb, s1, s2, g, hg, by omega, by omega⟩, by omega, by omega⟩
/-- What is told rises. -/
theorem rooms_rise {lo hi size : Int} {l : List Ar} : (roomsL lo hi size l).Pairwise (fun a b => a.1.e < b.1.s) := by
  unfold roomsL
  by_cases hs : 1 ≤ size ∧ size % 4096 = 0
  · rw [if_pos hs]
    have hp : (goodL l).Pairwise (fun a b => a.1.e < b.1.s) := by
      have := gapsL_apart l
      unfold Apart at this
      rw [← goodL_raw l] at this
      exact List.pairwise_map.1 this
    have hmem : ∀ x ∈ goodL l, True := fun _ _ => trivial
    generalize goodL l = gs at *
    induction gs with
    | nil => exact List.Pairwise.nil
    | cons x r ih =>
      have hc := List.pairwise_cons.1 hp
      have e : roomsG lo hi size (x :: r) = roomOf lo hi size x ++ roomsG lo hi size r := by simp [roomsG]
      rw [e]
      have in1 : ∀ {z w : GG}, w ∈ roomOf lo hi size z → z.1.s ≤ w.1.s ∧ w.1.e ≤ z.1.e := fun {z w} hw => by
        unfold roomOf at hw
        by_cases hg : GoodG (withinG lo hi z.1) ∧ size ≤ (withinG lo hi z.1).e - (withinG lo hi z.1).s
        · rw [dif_pos hg] at hw
          obtain rfl := List.mem_singleton.1 hw
          have := within_num (lo := lo) (hi := hi) z.2 hs.1 hg.2
          simp only; omega
        · rw [dif_neg hg] at hw; cases hw
      refine List.pairwise_append.2 ⟨?_, ih hc.2 (fun _ _ => trivial), fun a ha b hb => ?_⟩
      · unfold roomOf; split <;> simp
      · obtain ⟨z, hz, hb⟩ := List.mem_flatMap.1 hb
        have h1 := in1 ha
        have h2 := in1 hb
        have h3 := hc.1 z hz
        omega
  · rw [if_neg hs]; exact List.Pairwise.nil

/-- Where there may be something. -/
def May (l : List Ar) (lo hi size b : Int) : Prop := FitsAt l b size ∧ lo ≤ b ∧ b + size ≤ hi
theorem low_is (l : List Ar) (lo hi size : Int) : (lowOf (roomsL lo hi size l) = (0, false) ∧ ∀ b, ¬ May l lo hi size b) ∨ (∃ a, lowOf (roomsL lo hi size l) = (a, true) ∧ May l lo hi size a ∧ ∀ b, May l lo hi size b → a ≤ b) := by
  have hr := rooms_rise (lo := lo) (hi := hi) (size := size) (l := l)
  cases hc : roomsL lo hi size l with
  | nil =>
    refine .inl ⟨rfl, fun b ⟨hf, h1, h2⟩ => ?_⟩
    obtain ⟨y, hy, _⟩ := rooms_has hf h1 h2
    rw [hc] at hy; cases hy
  | cons x r =>
    have hx : x ∈ roomsL lo hi size l := by rw [hc]; simp
    have hm := mem_rooms hx
    refine .inr ⟨x.1.s, rfl, room_fits hx x.2.sp (Int.le_refl _) (by omega), fun b ⟨hf, h1, h2⟩ => ?_⟩
    obtain ⟨y, hy, h3, h4⟩ := rooms_has hf h1 h2
    rw [hc] at hy hr
    rcases List.mem_cons.1 hy with rfl | hy
    · exact h3
    · have := (List.pairwise_cons.1 hr).1 y hy
      have := x.2.lt
      omega
theorem high_is (l : List Ar) (lo hi size : Int) : (highOf size (roomsL lo hi size l) = (0, false) ∧ ∀ b, ¬ May l lo hi size b) ∨ (∃ a, highOf size (roomsL lo hi size l) = (a, true) ∧ May l lo hi size a ∧ ∀ b, May l lo hi size b → b ≤ a) := by
  have hr := rooms_rise (lo := lo) (hi := hi) (size := size) (l := l)
  cases hc : (roomsL lo hi size l).getLast? with
  | none =>
    have hn : roomsL lo hi size l = [] := List.getLast?_eq_none_iff.1 hc
    refine .inl ⟨by unfold highOf; rw [hc], fun b ⟨hf, h1, h2⟩ => ?_⟩
    obtain ⟨y, hy, _⟩ := rooms_has hf h1 h2
    rw [hn] at hy; cases hy
  | some x =>
    obtain ⟨r, hs⟩ := List.getLast?_eq_some_iff.1 hc
    have hx : x ∈ roomsL lo hi size l := by rw [hs]; simp
    have hm := mem_rooms hx
    have hxe := x.2.ep
    refine .inr ⟨x.1.e - size, by unfold highOf; rw [hc], room_fits hx (by omega) (by omega) (by omega), fun b ⟨hf, h1, h2⟩ => ?_⟩
    obtain ⟨y, hy, h3, h4⟩ := rooms_has hf h1 h2
    rw [hs] at hy hr
    rcases List.mem_append.1 hy with hy | hy
    · have := (List.pairwise_append.1 hr).2.2 y hy x (by simp)
      have := x.2.lt
      omega
    · obtain rfl := List.mem_singleton.1 hy
      omega
/-- What Fits tells. -/
theorem fits_is (l : List Ar) (addr size : Int) : ((lowOf (roomsL addr 2097152 size l)).2 && decide ((lowOf (roomsL addr 2097152 size l)).1 = addr)) = true ↔ FitsAt l addr size := by
  rcases low_is l addr 2097152 size with ⟨h1, h2⟩ | ⟨a, h1, h2, h3⟩
  · rw [h1]
    simp only [Bool.false_and, Bool.false_eq_true, false_iff]
    intro hf
    obtain ⟨g, hg, _, h5⟩ := hf.2.2.2
    have := (gapsL_good g hg).hi
    exact h2 addr ⟨hf, Int.le_refl _, by omega⟩
  · rw [h1]
    simp only [Bool.true_and, decide_eq_true_eq]
    constructor
    · rintro rfl; exact h2.1
    · intro hf
      obtain ⟨g, hg, _, h5⟩ := hf.2.2.2
      have := (gapsL_good g hg).hi
      have := h3 addr ⟨hf, Int.le_refl _, by omega⟩
      have := h2.2.1
      omega
/-- The longest gap. -/
theorem most_ge {gs : List Gp} {g : Gp} (h : g ∈ gs) : g.e - g.s ≤ mostL gs := by
  induction gs with
  | nil => cases h
  | cons a r ih =>
    unfold mostL
    rcases List.mem_cons.1 h with rfl | h
    · omega
    · have := ih h; omega
theorem most_cons (a : Gp) (r : List Gp) : mostL (a :: r) = max (a.e - a.s) (mostL r) := rfl
theorem most_in {gs : List Gp} (h : 0 < mostL gs) : ∃ g ∈ gs, g.e - g.s = mostL gs := by
  induction gs with
  | nil => simp [mostL] at h
  | cons a r ih =>
    rw [most_cons] at *
    rcases Int.lt_or_le (a.e - a.s) (mostL r) with hl | hl
    · obtain ⟨g, hg, e⟩ := ih (by omega)
      exact ⟨g, by simp [hg], by omega⟩
    · exact ⟨a, by simp, by omega⟩
theorem fits_most {l : List Ar} {b size : Int} (h : FitsAt l b size) : size ≤ mostL (gapsL l) := by
  obtain ⟨_, _, _, g, hg, h1, h2⟩ := h
  have := most_ge hg
  omega
theorem most_num (l : List Ar) : 0 ≤ mostL (gapsL l) ∧ mostL (gapsL l) ≤ 2031616 ∧ mostL (gapsL l) % 4096 = 0 := by
  have hb := most_bound (goodL l)
  unfold mostG at hb
  rw [goodL_raw] at hb
  refine ⟨hb.1, hb.2, ?_⟩
  rcases Int.lt_or_le 0 (mostL (gapsL l)) with h | h
  · obtain ⟨g, hg, e⟩ := most_in h
    have := (gapsL_good g hg).sp; have := (gapsL_good g hg).ep
    omega
  · omega
theorem most_fits {l : List Ar} (h : 0 < mostL (gapsL l)) : ∃ b, FitsAt l b (mostL (gapsL l)) ∧ 0 ≤ b ∧ b + mostL (gapsL l) ≤ 2097152 := by
  obtain ⟨g, hg, e⟩ := most_in h
  have gg := gapsL_good g hg
  have := gg.lo; have := gg.lt; have := gg.hi; have := gg.sp; have := gg.ep
  exact ⟨g.s, ⟨by omega, by omega, (most_num l).2.2, g, hg, by omega, by omega⟩, by omega, by omega⟩
end Go.Proofs.Ytejkhnphplpkeaa

/-
  Layer 8: a contract for each call, of a value that holds a list.
-/
namespace Go.Proofs.Ytejkhnphplpkeaa
open Go.ChangeShapes Go.WideShapes Go.ChangeAt Go.RowKit Go.Shelf
set_option linter.unusedVariables false

/-- A value that holds gaps. -/
def HoldsG (w : World) (v : Value) (gs : List Gp) : Prop := ∃ A c, v = .slice A gs.length c ∧ GapsAt w A gs
theorem HoldsG.still {w w' : World} {v : Value} {gs : List Gp} (h : HoldsG w v gs) (hb : Below w.heap.size w w') : HoldsG w' v gs := by
  obtain ⟨A, c, rfl, h⟩ := h
  exact ⟨A, c, rfl, h.still hb⟩
section
variable {w : World} {v : Value} {X : List Ar}
theorem largest_c (h : Holds w v X) (hl : X.length ≤ 10000) : Calls Try.prog 15 #[v] w fun e w' => e = .returned (.int .i64 (mostL (gapsL X))) ∧ Below w.heap.size w w' := by
  obtain ⟨A, c, rfl, hc, hA⟩ := h
  exact largest_any A X c (by omega) w hA
end
end Go.Proofs.Ytejkhnphplpkeaa
