/-
  Layer 7: lists of areas as slices, and what goes through one.
-/
import Derived.Test.YtmppodobgkhojaaAreaPure
import Derived.Test.YtmppodobgkhojaaBag
import Derived.RangeFuncNested
import Derived.RangeFuncBound
import Derived.RangeFuncCalls
import Derived.RangeFuncLeaves
import Derived.RangeFuncBox
import Derived.Shelf.Abstract
import Derived.Shelf.RegionOpen
import Derived.WalkKit
import Derived.OwnWalkIn
import Derived.TacticsInMore
import Derived.LoopNIn
import Derived.LoopIn
namespace Go.Proofs.Ytmppodobgkhojaa
open Go.ChangeShapes Go.WideShapes Go.ChangeAt Go.RowKit Go.Shelf
set_option linter.unusedVariables false
attribute [local go_sem] Oper.semAt_some

/-- The cells of an area, from a place on. -/
structure AreaAt (w : World) (b o : Nat) (a : Ar) : Prop where
  c0 : w.cell? ⟨b, o, none⟩ = some (.int .i64 a.s)
  c1 : w.cell? ⟨b, o + 1, none⟩ = some (.int .i64 a.e)
  c2 : w.cell? ⟨b, o + 2, none⟩ = some (.int .i64 a.p)
  c3 : w.cell? ⟨b, o + 3, none⟩ = some (.bool a.sh)
  c4 : w.cell? ⟨b, o + 4, none⟩ = some (.int .i64 a.bk)
  c5 : w.cell? ⟨b, o + 5, none⟩ = some (.int .i64 a.off)
theorem AreaAt.below {w w' : World} {B b o : Nat} {a : Ar} (h : AreaAt w b o a) (hb : Below B w w') (hlt : b < B) : AreaAt w' b o a :=
  ⟨(hb.cell (p := ⟨b, o, none⟩) hlt).trans h.c0, (hb.cell (p := ⟨b, o + 1, none⟩) hlt).trans h.c1, (hb.cell (p := ⟨b, o + 2, none⟩) hlt).trans h.c2,
   (hb.cell (p := ⟨b, o + 3, none⟩) hlt).trans h.c3, (hb.cell (p := ⟨b, o + 4, none⟩) hlt).trans h.c4, (hb.cell (p := ⟨b, o + 5, none⟩) hlt).trans h.c5⟩

/-- A slice that holds areas, in a block below n₀ (or it has none). -/
def Areas (n₀ : Nat) (w : World) (A : Option Addr) (l : List Ar) : Prop :=
  l = [] ∨ ∃ b off, A = some ⟨b, off, none⟩ ∧ b < n₀ ∧ ∀ (j : Nat) (h : j < l.length), AreaAt w b (off + j * 6) l[j]
theorem Areas.below {n₀ : Nat} {w w' : World} {A : Option Addr} {l : List Ar} (h : Areas n₀ w A l) (hb : Below n₀ w w') : Areas n₀ w' A l := by
  rcases h with h | ⟨b, off, e, hlt, hc⟩
  · exact .inl h
  · exact .inr ⟨b, off, e, hlt, fun j hj => (hc j hj).below hb hlt⟩
theorem Areas.mono {n₀ n₁ : Nat} {w : World} {A : Option Addr} {l : List Ar} (h : Areas n₀ w A l) (hn : n₀ ≤ n₁) : Areas n₁ w A l := by
  rcases h with h | ⟨b, off, e, hlt, hc⟩
  · exact .inl h
  · exact .inr ⟨b, off, e, by omega, hc⟩

abbrev tArea : TypeId := 35

set_option maxRecDepth 100000 in
set_option maxHeartbeats 2000000 in
/-- slices.Values's closure: for every loop body that keeps what lay below n₀. -/
theorem values1_in {α : Type} (f : α → Ar) (F : Fence) (n : Nat) (h7 : F.fn 51) (hro : F.round = none) (hn : 1 ≤ n) (l Bs n₀ cap : Nat) (A : Option Addr) (zs : List α) (hl : zs.length ≤ 100000) (J Jx : List α → World → Prop)
    (hJ : ∀ pre W o, J pre W → J pre (W.alloc o))
    (hY : ∀ pre x W, J pre W → pre.length < zs.length → YieldAt F (n - 1) Try.prog l #[(f x).v] W fun e W' =>
      (e = .returned (.bool true) ∧ J (pre ++ [x]) W' ∧ Below n₀ W W') ∨ (e = .returned (.bool false) ∧ Jx (pre ++ [x]) W'))
    (W : World) (hn₀ : n₀ ≤ W.heap.size) (hBs : W.cell? ⟨Bs, 0, none⟩ = some (.slice A zs.length cap)) (hc : Areas n₀ W A (zs.map f)) (h0 : J [] W) :
    CallsIn F n Try.prog 51 #[.func (.yield l) #[] #[], .pointer (some ⟨Bs, 0, none⟩)] W fun e W' => (∃ v, e = .returned v) ∧
      ((∃ ys, ys = zs ∧ J ys W') ∨ (∃ pre, (∃ k, k ≤ zs.length ∧ pre = zs.take k) ∧ Jx pre W')) := by
  refine callsIn_of_wp Try.func51 rfl h7 ?_ hro
  simp only [Try.ntmps51, List.size_toArray, List.length_cons, List.length_nil, Nat.reduceAdd, Nat.reduceSub, Array.replicate_succ, Array.replicate_zero, List.push_toArray, List.append_toArray, List.nil_append, List.cons_append]
  generalize hL : zs.length = len at hBs hl hY
  gi_wp2
  gi_loopw [7] (fun i wr => ∃ k : Nat, k ≤ len ∧ i = .int .i64 k ∧ J (zs.take k) wr ∧ Below n₀ W wr)
    (fun i _ => len - (intOf i).toNat)
  case atStart => exact ⟨0, Nat.zero_le _, rfl, h0, Below.refl _ _⟩
  case round =>
    obtain ⟨k, hk, rfl, hJs, hnx⟩ := hrel
    by_cases hlt : k < len
    · rcases hc with hn | ⟨b, off, rfl, hb, hcs⟩
      · have := List.map_eq_nil_iff.1 hn; subst this; simp at hL; omega
      have hA := (hcs k (by simp; omega)).below hnx hb
      rw [List.getElem_map] at hA
      have hT : zs.take (k + 1) = zs.take k ++ [zs[k]] := by rw [List.take_succ_eq_append_getElem (by omega)]
      obtain ⟨c0, c1, c2, c3, c4, c5⟩ := hA
      have hJ1 := hJ _ _ (.cells (f zs[k]).cells tArea) hJs
      obtain ⟨fn, tmps, assign, body, hy, hR⟩ := hY _ zs[k] _ hJ1 (by simp; omega)
      generalize f zs[k] = x at c0 c1 c2 c3 c4 c5 hy hR hJ1
      generalize zs[k] = y at *
      obtain ⟨x0, x1, x2, x3, x4, x5⟩ := x
      simp only [Ar.v, Ar.cells, tArea] at c0 c1 c2 c3 c4 c5 hy hR hJ1
      have HT := Lib.hid hT
      clear hY hcs hT hJ1
      gi_wp2_with fail
      refine hR.mono ?_
      rintro e W3 (⟨rfl, hJ3, hk3⟩ | ⟨rfl, hJx3⟩)
      · gi_wp2
        go_roundw
        case rel => exact ⟨k + 1, by omega, by simp, by rw [HT.out]; exact hJ3, (hnx.trans ((Below.refl _ _).alloc (Nat.le_trans hn₀ hnx.size) _)).trans hk3⟩
        case measure => simp [intOf]; omega
      · gi_wp2
        refine bodyPost_ret (results_none rfl _ _ _) rfl ?_
        exact ⟨⟨_, rfl⟩, .inr ⟨_, ⟨k + 1, by omega, HT.out.symm⟩, hJx3⟩⟩
    · obtain rfl : k = len := by omega
      gi_wp2
      go_end0
      exact ⟨⟨_, rfl⟩, .inl ⟨_, by rw [← hL, List.take_length], hJs⟩⟩

set_option maxHeartbeats 1000000 in
theorem values_in (F : Fence) (n : Nat) (h5 : F.fn 39) (hro : F.round = none) (a : Option Addr) (len cap : Nat) (w : World) :
    CallsIn F n Try.prog 39 #[.slice a len cap] w fun e w' => e = .returned (.func (.func 51) #[] #[.pointer (some ⟨w.heap.size, 0, none⟩)]) ∧ w' = w.alloc (.cells #[.slice a len cap] 22) := by
  refine callsIn_of_wp Try.func39 rfl h5 ?_ hro
  simp only [Try.ntmps39, List.size_toArray, List.length_cons, List.length_nil, Nat.reduceAdd, Nat.reduceSub, Array.replicate_succ, Array.replicate_zero, List.push_toArray, List.append_toArray, List.nil_append, List.cons_append]
  gi_wp2
  go_ret
  exact ⟨rfl, rfl⟩

theorem values_stops {α : Type} (f : α → Ar) (F : Fence) (n : Nat) (h7 : F.fn 51) (hro : F.round = none) (hn : 1 ≤ n) (Bs n₀ cap : Nat) (A : Option Addr) (zs : List α) (hl : zs.length ≤ 100000) (w : World) (hBs : Bs < w.heap.size) (hn₀ : n₀ ≤ w.heap.size)
    (hc : w.cell? ⟨Bs, 0, none⟩ = some (.slice A zs.length cap)) (hI : Areas n₀ w A (zs.map f)) :
    SeqStopsK F n Try.prog 51 #[.pointer (some ⟨Bs, 0, none⟩)] (fun x : α => #[(f x).v]) (Below n₀) (fun ys => ys = zs) (fun pre => ∃ k, k ≤ zs.length ∧ pre = zs.take k) zs.length w := fun l J Jx W hW hJ hJx hY h0 => by
  have hc' := (hW.cell (p := ⟨Bs, 0, none⟩) hBs).trans hc
  exact values1_in f F n h7 hro hn l Bs n₀ cap A zs hl J Jx (fun pre W' o h => hJ _ _ _ none h (World.grownBy_alloc W' o none) (fun r e => by cases e)) hY W (Nat.le_trans hn₀ hW.size) hc' (hI.below (hW.mono hn₀)) h0
end Go.Proofs.Ytmppodobgkhojaa
