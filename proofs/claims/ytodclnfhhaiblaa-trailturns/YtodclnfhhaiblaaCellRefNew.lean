/-
  Layer 1: the reference's memory is made, and both memories are held against each other.
-/
import Derived.Test.YtodclnfhhaiblaaCellRef
namespace Go.Proofs.Ytodclnfhhaiblaa
open Go.ChangeShapes Go.WideShapes Go.ChangeAt Go.RowKit
set_option linter.unusedVariables false

/-- The loop's relation: k noughts were appended. -/
def NewRel (w : World) (n : Int) (iv : Value) (wr : World) : Prop :=
  ∃ k : Nat, k ≤ n.toNat ∧ iv = .int .i64 k ∧ (∃ A c, RefAt wr w.heap.size w.heap.size A c (List.replicate k 0) 0) ∧ Below w.heap.size w wr

/-- A new memory of the reference. -/
def MadeRef (w : World) (k : Nat) (e : Ending) (w' : World) : Prop :=
  e = .returned (.pointer (some ⟨w.heap.size, 0, none⟩)) ∧ (∃ A c, RefAt w' w.heap.size w.heap.size A c (List.replicate k 0) 0) ∧ Below w.heap.size w w'

theorem replicate_more (k : Nat) : List.map (Value.int .i64) (List.replicate k 0) ++ [Value.int .i64 0] = List.map (Value.int .i64) (List.replicate (k + 1) 0) := by
  rw [List.replicate_succ']; simp

theorem refTop (w : World) : RefAt (w.alloc (.cells #[.slice none 0 0, .int .i64 0] 48)) w.heap.size w.heap.size none 0 (List.replicate 0 0) 0 :=
  ⟨Whole.new w _ _, World.ownsRow_nil _ _ _ _, by simp, by omega, by omega⟩

set_option maxHeartbeats 2000000 in
set_option maxRecDepth 100000 in
theorem refNew_any (n : Int) (w : World) (hn : n ≤ 127) : Calls Try.prog 10 #[.int .i64 n] w (MadeRef w n.toNat) := by
  obtain ⟨i0, hi0, hz0, hz1, hz2⟩ : ∃ i0, Try.prog.info? 2 = some i0 ∧ i0.zero = some (.int .i64 0) ∧ i0.size = 1 ∧ i0.bytes = 8 := by
    have := Try.info2'
    obtain ⟨i0, h1, h2⟩ := Option.map_eq_some_iff.1 this
    simp only [Prod.mk.injEq] at h2
    exact ⟨i0, h1, h2.1, h2.2.1, h2.2.2⟩
  go_enter Try.func10, Try.ntmps10
  go_wp2
  go_loopw [4] (fun iv wr => NewRel w n iv wr) (fun iv _ => n.toNat - (intOf iv).toNat)
  case atStart => exact ⟨0, by omega, by go_num, ⟨none, 0, refTop w⟩, (Below.refl _ _).alloc (Nat.le_refl _) _⟩
  case round =>
    obtain ⟨k, hk, rfl, ⟨A, c, hr⟩, hb⟩ := hrel
    by_cases hlt : (k : Int) < n
    · have hl : (List.replicate k (0 : Int)).length = k := List.length_replicate
      have hc0 := hr.c0
      have htop := hr.top
      have hown := hr.own
      rw [hl] at hc0 htop hown
      have HR := Lib.hid hr
      have HB := Lib.hid hb
      have HO := Lib.hid hown
      have HT := Lib.hid htop
      have hsz := hb.size
      have hlt2 : w.heap.size < wr.heap.size := htop.lt
      have h65 : (k : Int) < 65536 := by omega
      have h65d : decide ((k : Int) < 65536) = true := decide_eq_true h65
      clear hr hb hown htop hl
      go_wp2_with (at_builtin; refine wpList_append_own _ rfl (.tmp 20) (.tmp 21) _ rfl w.heap.size 2 i0 _ 1 8 Try.underlying32 hi0 hz0 hz1 hz2 rfl (by omega) _ k _ rfl (HO.out.alloc _) ⟨wr.heap.size, 0, none⟩ 1 1 [.int .i64 0] rfl rfl (cell_one_new _ _ _) (by simp [Value.oneCell']) (by simp only [maxLen]; omega) (by omega) (by simp; omega) ?_; intro v' w' hown' hg' _hnil; obtain ⟨A', c', rfl⟩ := own_slice hown'; have htop' := Whole.grown (HT.out.alloc _) hg' (Ne.symm (own_apart HO.out HT.out (by decide))); have hf' := htop'.frozen 0; have hc' : w'.cell? ⟨w.heap.size, 0, none⟩ = some (.slice A k c) := by { rw [htop'.cell]; rfl }; have HT' := Lib.hid htop'; have HO' := Lib.hid hown'; have HG' := Lib.hid hg'; clear htop' hown' hg' _hnil)
      go_roundw
      case rel =>
        refine ⟨k + 1, by omega, by go_num, ⟨A', c', ?_, ?_, by simp; omega, by omega, by omega⟩, ?_⟩
        · rw [List.length_replicate]; exact HT'.out.put 0 _
        · rw [List.length_replicate, ← replicate_more]
          exact own_only (S := fun j => j = w.heap.size) HO'.out ((Only.refl (fun j => j = w.heap.size) _).setCell (p := ⟨w.heap.size, 0, none⟩) (.inl rfl) _) (fun j hj e => by subst e; exact own_apart HO'.out HT'.out (by decide) hj)
        · exact ((HB.out.alloc hsz _).grown HG'.out (by simp; omega) (fun j hj => (HO.out.lt j hj).1)).setCell (p := ⟨w.heap.size, 0, none⟩) (Nat.le_refl _) _
      case measure => simp [intOf]; omega
    · have hkk : k = n.toNat := by omega
      have HK := Lib.hid hkk
      have HR : Hid (∃ A c, RefAt wr w.heap.size w.heap.size A c (List.replicate k 0) 0) := ⟨A, c, hr⟩
      have HB := Lib.hid hb
      clear hr hb hkk
      go_wp2
      go_ret
      exact ⟨rfl, by rw [← HK.out]; exact HR.out, HB.out⟩


theorem seen_all (cs : List Int) : seen cs 0 cs.length = cs := by simp [seen]

end Go.Proofs.Ytodclnfhhaiblaa
