/-
  Layer 8: what tells the gaps, one by one: its contract.
-/
import Derived.Test.YtmppodobgkhojaaGapPure
import Derived.Test.YtmppodobgkhojaaListRightDo
namespace Go.Proofs.Ytmppodobgkhojaa
open Go.ChangeShapes Go.WideShapes Go.ChangeAt Go.RowKit Go.Shelf
set_option linter.unusedVariables false
attribute [local go_sem] Oper.semAt_some

def Gp.v (g : Gp) : Value := .agg #[.int .i64 g.s, .int .i64 g.e]
def Gp.cells (g : Gp) : Array Value := #[.int .i64 g.s, .int .i64 g.e]

theorem below_grown {w w' : World} (h : Below w.heap.size w w') : w.grownBy w' none := ⟨h.os, h.tape, h.output, h.size, fun k hk _ => h.block k hk⟩

/-- What a round keeps: what lay below n₀, and every area that lies in a block of its own. -/
structure KpA (n₀ : Nat) (W W' : World) : Prop where
  bel : Below n₀ W W'
  ars : ∀ k cs, Whole W k tArea cs → Whole W' k tArea cs
theorem KpA.refl (n₀ : Nat) (W : World) : KpA n₀ W W := ⟨Below.refl _ _, fun _ _ h => h⟩
theorem KpA.trans {n₀ : Nat} {A B C : World} (h : KpA n₀ A B) (k : KpA n₀ B C) : KpA n₀ A C := ⟨h.bel.trans k.bel, fun i cs hi => k.ars i cs (h.ars i cs hi)⟩
theorem KpA.still {n₀ : Nat} {W W' : World} (hn : n₀ ≤ W.heap.size) (h : Below W.heap.size W W') : KpA n₀ W W' := ⟨h.mono hn, fun k cs hk => hk.below h hk.lt⟩
theorem KpA.set {n₀ b : Nat} {t : TypeId} {W : World} {cs : Array Value} (h : Whole W b t cs) (ht : t ≠ tArea) (hn : n₀ ≤ b) (i : Nat) (v : Value) : KpA n₀ W (W.setCell ⟨b, i, none⟩ v) :=
  ⟨(Below.refl n₀ W).setCell (p := ⟨b, i, none⟩) hn _, fun k c hk => (Below.heap_setCell _ _ _ k (fun e => by
    subst e; unfold Whole at h hk; rw [h] at hk; injection hk with hk; injection hk with _ h2; exact ht h2)).trans hk⟩
theorem KpA.put {n₀ : Nat} {w : World} (hn : n₀ ≤ w.heap.size) (W : World) (l : Nat) (o o' : Obj) (hl : w.heap.size ≤ l) (h : W.heap[l]? = some o) (hc : o.isCells = false) (hw : o.isWalk = false) : KpA n₀ W (W.putObj l o') :=
  ⟨belowK_b hn W l o o' hl h hc hw, fun k cs hk => (World.putObj_heap_other (fun e => by
    subst e; unfold Whole at hk; rw [h] at hk; injection hk with hk; subst hk; cases hc)).trans hk⟩

/-- Where it stands behind k areas. -/
def EachAt (zs : List Ar) (J : List GG → World → Prop) (n₀ : Nat) (W : World) (st : Int) (k : Nat) (wr : World) : Prop :=
  ∃ (k' : Nat) (pre : List GG), k' ≤ zs.length ∧ k' = k ∧ pre.length ≤ k' ∧ Rest st (zs.drop k') ∧ pre.map (·.1) ++ gapsFrom st (zs.drop k') = gapsL zs ∧ J pre wr ∧ Below n₀ W wr

set_option maxRecDepth 100000 in
set_option maxHeartbeats 4000000 in
theorem each1_in (l Bs n₀ cap : Nat) (A : Option Addr) (zs : List Ar) (hl : zs.length ≤ 100000) (J Jx : List GG → World → Prop)
    (hJ : ∀ pre W W', J pre W → Below W.heap.size W W' → J pre W')
    (hJx : ∀ pre W W', Jx pre W → Below W.heap.size W W' → Jx pre W')
    (hY : ∀ pre x W, J pre W → pre.length < zs.length + 1 → YieldAt Fence.wide 3 Try.prog l #[x.1.v] W fun e W' =>
      (e = .returned (.bool true) ∧ J (pre ++ [x]) W' ∧ KpA n₀ W W') ∨ (e = .returned (.bool false) ∧ Jx (pre ++ [x]) W'))
    (W : World) (hn₀ : n₀ ≤ W.heap.size) (hB : Bs < W.heap.size) (hBs : W.cell? ⟨Bs, 0, none⟩ = some (.slice A zs.length cap)) (hc : Areas n₀ W A zs) (h0 : J [] W) :
    CallsIn Fence.wide 4 Try.prog 41 #[.func (.yield l) #[] #[], .pointer (some ⟨Bs, 0, none⟩)] W fun e W' => (∃ v, e = .returned v) ∧
      ((∃ ys : List GG, ys.map (·.1) = gapsL zs ∧ J ys W') ∨ (∃ pre : List GG, (∃ t, pre.map (·.1) ++ t = gapsL zs) ∧ Jx pre W')) := by
  have hro : Fence.wide.round = none := rfl
  have fR : Fence.wide.fn 25 := trivial
  have XR := Lib.hid (fun w1 h => (callsIn_wide (n := 3)).2 (right_any A zs cap hl w1 h))
  refine callsIn_of_wp Try.func41 rfl trivial ?_ hro
  simp only [Try.ntmps41, List.size_toArray, List.length_cons, List.length_nil, Nat.reduceAdd, Nat.reduceSub, Array.replicate_succ, Array.replicate_zero, List.push_toArray, List.append_toArray, List.nil_append, List.cons_append]
  have HC := Lib.hid hc
  have HY := Lib.hid hY
  have HJ := Lib.hid hJ
  have HJx := Lib.hid hJx
  have H0 := Lib.hid h0
  clear hc hY hJ hJx h0
  generalize hL : zs.length = len at *
  have HL := Lib.hid hL
  clear hL
  by_cases hr : RightL zs
  · rw [decide_eq_true hr] at XR
    have HR := Lib.hid hr
    clear hr
    gi_wp2_with (gi_at_call 25; refine (XR.out W (HC.out.mono hn₀)).mono ?_; rintro e w1 ⟨rfl, hb1⟩; have B1 := Lib.hid hb1; have cB := (hb1.cell (p := ⟨Bs, 0, none⟩) hB).trans hBs; clear hb1)
    have E0 : EachAt zs J n₀ W 65536 0 w1 := ⟨0, [], Nat.zero_le _, rfl, Nat.le_refl _, Rest.of_right HR.out, by unfold gapsL; rw [if_pos HR.out]; rfl, HJ.out _ _ _ H0.out B1.out, B1.out.mono hn₀⟩
    gi_loopw [3, 11] (fun s i wr => ∃ (st : Int) (k : Nat), s = .int .i64 st ∧ i = .int .i64 k ∧ EachAt zs J n₀ W st k wr)
      (fun _ i _ => len - (intOf i).toNat)
    case atStart => exact ⟨65536, 0, rfl, rfl, E0⟩
    case round =>
      obtain ⟨st, k, rfl, rfl, k', pre, hk, hkk, hpl, hrest, hgs, hJs, hnx⟩ := hrel
      obtain rfl : k' = k := by omega
      clear E0 hkk
      rw [HL.out] at hk
      have hst := hrest.lo
      have hst2 := hrest.hi
      by_cases hlt : k' < len
      · have hkz : k' < zs.length := by rw [HL.out]; exact hlt
        rcases HC.out with hn | ⟨b, off, rfl, hb, hcs⟩
        · rw [hn] at hkz; simp at hkz
        have hA := (hcs k' hkz).below hnx hb
        have hD : zs.drop k' = zs[k'] :: zs.drop (k' + 1) := List.drop_eq_getElem_cons hkz
        rw [hD] at hrest hgs
        generalize hx : zs[k'] = x at *
        clear hx hcs hD
        have hfx := formed_num (hrest.formed x (by simp))
        have hJ1 := HJ.out _ _ _ hJs (below_new _ (.cells x.cells tArea))
        have hB1 := (Below.refl n₀ _).alloc (Nat.le_trans hn₀ hnx.size) (.cells x.cells tArea)
        have HRe := Lib.hid hrest
        have HG := Lib.hid hgs
        have HNX := Lib.hid (hnx.trans hB1)
        have HJ1 := Lib.hid hJ1
        obtain ⟨c0, c1, c2, c3, c4, c5⟩ := hA
        clear hgs hnx hJ1 hB1 hJs
        by_cases hgap : st < x.s
        · obtain ⟨y, hy0⟩ : ∃ y : GG, y.1 = ⟨st, x.s⟩ := ⟨⟨_, hrest.good hgap⟩, rfl⟩
          obtain ⟨fn, tmps, assign, body, hy, hR⟩ := HY.out pre y _ HJ1.out (by omega)
          rw [hy0] at hy
          have HG2 : Hid ((pre ++ [y]).map (·.1) ++ gapsFrom x.e (zs.drop (k' + 1)) = gapsL zs) := Lib.hid (by
            rw [← HG.out]; simp [gapsFrom, hgap, hy0])
          have HT := Lib.hid hrest.tail
          clear hrest hy0 HRe HG
          obtain ⟨x0, x1, x2, x3, x4, x5⟩ := x
          simp only [Ar.cells, Gp.v, tArea] at c0 c1 c2 c3 c4 c5 hy hR hgap hfx HNX
          gi_wp2_with fail
          refine hR.mono ?_
          rintro e W3 (⟨rfl, hJ3, hk3⟩ | ⟨rfl, hJx3⟩)
          · have hv := hk3.ars _ _ (Whole.new wr 35 (Ar.cells ⟨x0, x1, x2, x3, x4, x5⟩))
            have v1 := hv.cell 1
            simp [Ar.cells] at v1
            have HNX3 := Lib.hid (HNX.out.trans hk3.bel)
            have HJ3 := Lib.hid hJ3
            clear hk3 hv hJ3
            gi_wp2
            go_roundw
            case rel => exact ⟨_, k' + 1, rfl, by simp, k' + 1, pre ++ [y], by rw [HL.out]; omega, rfl, by simp; omega, HT.out, HG2.out, HJ3.out, HNX3.out⟩
            case measure => simp [intOf]; omega
          · gi_wp2
            refine bodyPost_ret (results_none rfl _ _ _) rfl ?_
            exact ⟨⟨_, rfl⟩, .inr ⟨_, ⟨_, HG2.out⟩, hJx3⟩⟩
        · have HG2 : Hid (pre.map (·.1) ++ gapsFrom x.e (zs.drop (k' + 1)) = gapsL zs) := Lib.hid (by
            rw [← HG.out]; simp [gapsFrom, hgap])
          have HT := Lib.hid hrest.tail
          clear hrest HRe HG
          obtain ⟨x0, x1, x2, x3, x4, x5⟩ := x
          simp only [Ar.cells, tArea] at c0 c1 c2 c3 c4 c5 hgap hfx HNX HJ1
          gi_wp2
          refine ⟨fun _ h => (by cases h), ?_⟩
          gi_wp2
          go_roundw
          case rel => exact ⟨_, k' + 1, rfl, by simp, k' + 1, pre, by rw [HL.out]; omega, rfl, by omega, HT.out, HG2.out, HJ1.out, HNX.out⟩
          case measure => simp [intOf]; omega
      · obtain rfl : k' = len := by omega
        have hD : zs.drop k' = [] := by rw [← HL.out]; exact List.drop_length
        rw [hD] at hrest hgs
        by_cases hgap : st < 2097152
        · obtain ⟨y, hy0⟩ : ∃ y : GG, y.1 = ⟨st, 2097152⟩ := ⟨⟨_, hrest.last hgap⟩, rfl⟩
          obtain ⟨fn, tmps, assign, body, hy, hR⟩ := HY.out pre y _ hJs (by omega)
          rw [hy0] at hy
          have HG2 : Hid ((pre ++ [y]).map (·.1) = gapsL zs) := Lib.hid (by
            rw [← hgs]; simp [gapsFrom, hgap, hy0])
          clear hrest hy0 hgs hD
          simp only [Gp.v] at hy
          gi_wp2_with fail
          refine hR.mono ?_
          rintro e W3 (⟨rfl, hJ3, hk3⟩ | ⟨rfl, hJx3⟩)
          · gi_wp2
            go_end0
            exact ⟨⟨_, rfl⟩, .inl ⟨_, HG2.out, hJ3⟩⟩
          · gi_wp2
            go_end0
            exact ⟨⟨_, rfl⟩, .inr ⟨_, ⟨[], by simpa using HG2.out⟩, hJx3⟩⟩
        · have HG2 : Hid (pre.map (·.1) = gapsL zs) := Lib.hid (by
            rw [← hgs]; simp [gapsFrom, hgap])
          clear hrest hgs hD
          gi_wp2
          go_end0
          exact ⟨⟨_, rfl⟩, .inl ⟨_, HG2.out, hJs⟩⟩
  · rw [decide_eq_false hr] at XR
    have HR := Lib.hid hr
    clear hr
    gi_wp2_with (gi_at_call 25; refine (XR.out W (HC.out.mono hn₀)).mono ?_; rintro e w1 ⟨rfl, hb1⟩; have B1 := Lib.hid hb1; clear hb1)
    refine bodyPost_ret (results_none rfl _ _ _) rfl ?_
    exact ⟨⟨_, rfl⟩, .inl ⟨[], by unfold gapsL; rw [if_neg HR.out]; rfl, HJ.out _ _ _ H0.out B1.out⟩⟩

set_option maxHeartbeats 1000000 in
theorem each_in (A : Option Addr) (len cap : Nat) (w : World) :
    CallsIn Fence.wide 4 Try.prog 28 #[.slice A len cap] w fun e w' => e = .returned (.func (.func 41) #[] #[.pointer (some ⟨w.heap.size, 0, none⟩)]) ∧ w' = w.alloc (.cells #[.slice A len cap] 22) := by
  refine callsIn_of_wp Try.func28 rfl trivial ?_ rfl
  simp only [Try.ntmps28, List.size_toArray, List.length_cons, List.length_nil, Nat.reduceAdd, Nat.reduceSub, Array.replicate_succ, Array.replicate_zero, List.push_toArray, List.append_toArray, List.nil_append, List.cons_append]
  gi_wp2
  go_ret
  exact ⟨rfl, rfl⟩

/-- What has come, and what is left. -/
def Told (zs : List Ar) (pre : List GG) : Prop := ∃ t, pre.map (·.1) ++ t = gapsL zs
theorem round_wide {m m' l : Nat} {f : FuncId} {tmps : Array Value} {assign body : Code} {w : World} {R : Ending → World → Prop} (h : RoundIn Fence.wide m Try.prog l f tmps assign body w R) : RoundIn Fence.wide m' Try.prog l f tmps assign body w R :=
  ⟨h.1, fun c cs _ => h.2 c cs (room_wide _)⟩
theorem yield_wide {m m' l : Nat} {args : Array Value} {w : World} {R : Ending → World → Prop} (h : YieldAt Fence.wide m Try.prog l args w R) : YieldAt Fence.wide m' Try.prog l args w R := by
  obtain ⟨fn, tmps, assign, body, hy, hR⟩ := h
  exact ⟨fn, tmps, assign, body, hy, round_wide hR⟩
theorem calls_wide {m m' : Nat} {f : FuncId} {args : Array Value} {w : World} {R : Ending → World → Prop} (h : CallsIn Fence.wide m Try.prog f args w R) : CallsIn Fence.wide m' Try.prog f args w R :=
  callsIn_wide.2 (callsIn_wide.1 h)
theorem each_stops {n : Nat} (Bs n₀ cap : Nat) (A : Option Addr) (zs : List Ar) (hl : zs.length ≤ 100000) (w : World) (hBs : Bs < w.heap.size) (hn₀ : n₀ ≤ w.heap.size)
    (hc : w.cell? ⟨Bs, 0, none⟩ = some (.slice A zs.length cap)) (hI : Areas n₀ w A zs) :
    SeqStopsK Fence.wide n Try.prog 41 #[.pointer (some ⟨Bs, 0, none⟩)] (fun x : GG => #[x.1.v]) (KpA n₀) (fun ys => ys.map (·.1) = gapsL zs) (Told zs) (zs.length + 1) w := fun l J Jx W hW hJ hJx hY h0 => by
  have hc' := (hW.cell (p := ⟨Bs, 0, none⟩) hBs).trans hc
  refine calls_wide (each1_in l Bs n₀ cap A zs hl J Jx (fun pre W W' h hb => hJ _ _ _ none h (below_grown hb) (fun r e => by cases e)) (fun pre W W' h hb => hJx _ _ _ none h (below_grown hb) (fun r e => by cases e)) (fun pre x W1 h1 h2 => yield_wide (hY pre x W1 h1 h2)) W (Nat.le_trans hn₀ hW.size) (Nat.lt_of_lt_of_le hBs hW.size) hc' (hI.below (hW.mono hn₀)) h0)
end Go.Proofs.Ytmppodobgkhojaa
