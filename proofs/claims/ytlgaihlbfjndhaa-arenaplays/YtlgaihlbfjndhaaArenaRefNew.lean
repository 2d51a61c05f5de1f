/-
  Layer 2: the reference's arena is made, its births and deaths, and what is right for it.
-/
import Derived.Test.YtlgaihlbfjndhaaArenaRef
import Derived.Deep.LoopGhost
import Derived.Deep.RegionWith
namespace Go.Proofs.Ytlgaihlbfjndhaa
open Go.ChangeShapes Go.WideShapes Go.ChangeAt Go.RowKit
set_option linter.unusedVariables false

theorem Try.infoInt : (Try.prog.info? 2).map (fun i => (i.zero, i.size, i.bytes)) = some (some (.int .i64 0), 1, 8) := by kernel_rfl
theorem Try.infoBool : (Try.prog.info? 4).map (fun i => (i.zero, i.size, i.bytes)) = some (some (.bool false), 1, 1) := by kernel_rfl
theorem infoOpen {t : TypeId} {z : Value} {s m : Nat} (h : (Try.prog.info? t).map (fun i => (i.zero, i.size, i.bytes)) = some (some z, s, m)) : ∃ i0, Try.prog.info? t = some i0 ∧ i0.zero = some z ∧ i0.size = s ∧ i0.bytes = m := by
  obtain ⟨i0, h1, h2⟩ := Option.map_eq_some_iff.1 h
  simp only [Prod.mk.injEq] at h2
  exact ⟨i0, h1, h2.1, h2.2.1, h2.2.2⟩

/-- The loop's relation: k slots were appended. -/
def RfNewRel (w : World) (fst : Int) (n : Nat) (iv : Value) (wr : World) : Prop :=
  ∃ k : Nat, k ≤ n ∧ iv = .int .i64 k ∧ (∃ A c B d, RfAt wr w.heap.size w.heap.size A c B d fst (fresh k) false false) ∧ Below w.heap.size w wr
/-- A new arena of the reference. -/
def RfMade (w : World) (fst : Int) (k : Nat) (e : Ending) (w' : World) : Prop :=
  e = .returned (.pointer (some ⟨w.heap.size, 0, none⟩)) ∧ (∃ A c B d, RfAt w' w.heap.size w.heap.size A c B d fst (fresh k) false false) ∧ Below w.heap.size w w'

theorem rfTop (w : World) (fst : Int) (h0 : 0 ≤ fst) (h1 : fst ≤ 65536) : RfAt (w.alloc (.cells #[.int .i64 fst, .slice none 0 0, .slice none 0 0, .bool false, .bool false] 36)) w.heap.size w.heap.size none 0 none 0 fst (fresh 0) false false :=
  ⟨Whole.new w _ _, World.ownsRow_nil _ _ _ _, World.ownsRow_nil _ _ _ _, by simp [fresh], h0, h1⟩
theorem gensOf_more (k : Nat) : gensOf (fresh k) ++ [Value.int .i64 0] = gensOf (fresh (k + 1)) := by
  unfold fresh; rw [List.replicate_succ']; simp [gensOf]
theorem livesOf_more (k : Nat) : livesOf (fresh k) ++ [Value.bool false] = livesOf (fresh (k + 1)) := by
  unfold fresh; rw [List.replicate_succ']; simp [livesOf]

set_option maxHeartbeats 4000000 in
set_option maxRecDepth 100000 in
theorem rfNew_in (first n fst : Int) (hf : (first < 0 ∧ fst = 0) ∨ (65536 < first ∧ fst = 65536) ∨ (0 ≤ first ∧ first ≤ 65536 ∧ fst = first)) (w : World) :
    Calls Try.prog 9 #[.int .i64 first, .int .i64 n] w (RfMade w fst (slotsOf n)) := by
  obtain ⟨i0, hi0, hz0, hz1, hz2⟩ := infoOpen Try.infoInt
  obtain ⟨j0, hj0, hy0, hy1, hy2⟩ := infoOpen Try.infoBool
  have hf0 : 0 ≤ fst := by omega
  have hf1 : fst ≤ 65536 := by omega
  have hN : Hid (slotsOf n = min n.toNat 1000) := rfl
  have hNle : slotsOf n ≤ 1000 := by rw [hN.out]; omega
  have HT0 := Lib.hid (rfTop w fst hf0 hf1)
  rcases hf with ⟨f, rfl⟩ | ⟨f, rfl⟩ | ⟨f, f', rfl⟩
  case' inr.inl => have f0 : 0 ≤ first := by omega
  all_goals
    go_enter Try.func9, Try.ntmps9
    go_wp2
    go_loopw [6] (fun iv wr => RfNewRel w _ (slotsOf n) iv wr) (fun iv _ => slotsOf n - (intOf iv).toNat)
    case atStart => exact ⟨0, by omega, by go_num, ⟨_, _, _, _, HT0.out⟩, (Below.refl _ _).alloc (Nat.le_refl _) _⟩
    case round =>
      obtain ⟨k, hk, rfl, ⟨A, c, B, d, hr⟩, hb⟩ := hrel
      by_cases hlt : k < slotsOf n
      · have hkn : (k : Int) < n := by rw [hN.out] at hlt; omega
        have hk1 : (k : Int) < 1000 := by omega
        have hl := fresh_length k
        have hc1 := hr.c1
        have hc2 := hr.c2
        have ht := hr.top
        have ho1 := hr.own1
        have ho2 := hr.own2
        rw [hl] at hc1 hc2 ht ho1 ho2
        have HT := Lib.hid ht
        have HO1 := Lib.hid ho1
        have HO2 := Lib.hid ho2
        have HB := Lib.hid hb
        have hsz := hb.size
        have hlt2 : w.heap.size < wr.heap.size := ht.lt
        clear hr hb ht ho1 ho2 hl
        go_upto_region 6 with (at_builtin; refine wpList_append_own _ rfl (.tmp 25) (.tmp 26) _ rfl w.heap.size 2 i0 _ 1 8 Try.underlying28 hi0 hz0 hz1 hz2 rfl (by omega) _ k _ rfl (HO1.out.alloc _) ⟨wr.heap.size, 0, none⟩ 1 1 [.int .i64 0] rfl rfl (cell_one_new _ _ _) (by simp [Value.oneCell']) (by simp only [maxLen]; omega) (by omega) (by simp; omega) ?_; intro v' w' hown' hg' _hnil; obtain ⟨A', c', rfl⟩ := own_slice hown'; have htop' := Whole.grown (HT.out.alloc _) hg' (Ne.symm (own_apart HO1.out HT.out (by decide))); have hf' := htop'.frozen 1; have hc' : w'.cell? ⟨w.heap.size, 1, none⟩ = some (.slice A k c) := by { rw [htop'.cell]; rfl }; have hc2' : w'.cell? ⟨w.heap.size, 2, none⟩ = some (.slice B k d) := by { rw [htop'.cell]; rfl }; have ho2' := own_kept (HO2.out.alloc _) (HO1.out.alloc _) hg' (by decide); have HTa := Lib.hid htop'; have HO1' := Lib.hid hown'; have HO2' := Lib.hid ho2'; have HG' := Lib.hid hg'; clear htop' hown' hg' _hnil ho2')
        have ht2 := HTa.out.put 1 (.slice A' (k + 1) c')
        have o1' := own_far (p := ⟨w.heap.size, 1, none⟩) HO1'.out (own_apart HO1'.out HTa.out (by decide)) (.slice A' (k + 1) c')
        have o2' := own_far (p := ⟨w.heap.size, 1, none⟩) HO2'.out (own_apart HO2'.out HTa.out (by decide)) (.slice A' (k + 1) c')
        have hb2 : Below w.heap.size w (w'.setCell ⟨w.heap.size, 1, none⟩ (.slice A' (k + 1) c')) := ((HB.out.alloc hsz _).grown HG'.out (by simp; omega) (fun j hj => (HO1.out.lt j hj).1)).setCell (p := ⟨w.heap.size, 1, none⟩) (Nat.le_refl _) _
        clear HG' HTa HO1' HO2' HB HO1 HO2 HT hf' hc' hc2' hc1 hc2 hsz hlt2
        generalize w'.setCell ⟨w.heap.size, 1, none⟩ (.slice A' (k + 1) c') = w2 at *
        have hsz := hb2.size
        have hlt2 : w.heap.size < w2.heap.size := ht2.lt
        have hc2 : w2.cell? ⟨w.heap.size, 2, none⟩ = some (.slice B k d) := by rw [ht2.cell]; rfl
        have HT := Lib.hid ht2
        have HO1 := Lib.hid o1'
        have HO2 := Lib.hid o2'
        have HB := Lib.hid hb2
        clear ht2 o1' o2' hb2
        go_wp2_with (at_builtin; refine wpList_append_own _ rfl (.tmp 34) (.tmp 35) _ rfl w.heap.size 4 j0 _ 1 1 Try.underlying34 hj0 hy0 hy1 hy2 rfl (by omega) _ k _ rfl (HO2.out.alloc _) ⟨w2.heap.size, 0, none⟩ 1 1 [.bool false] rfl rfl (cell_one_new _ _ _) (by simp [Value.oneCell']) (by simp only [maxLen]; omega) (by omega) (by simp; omega) ?_; intro v' w3 hown' hg' _hnil; obtain ⟨B', d', rfl⟩ := own_slice hown'; have htop' := Whole.grown (HT.out.alloc _) hg' (Ne.symm (own_apart HO2.out HT.out (by decide))); have hf' := htop'.frozen 2; have hc' : w3.cell? ⟨w.heap.size, 2, none⟩ = some (.slice B k d) := by { rw [htop'.cell]; rfl }; have ho1' := own_kept (HO1.out.alloc _) (HO2.out.alloc _) hg' (by decide); have HTa := Lib.hid htop'; have HO1' := Lib.hid ho1'; have HO2' := Lib.hid hown'; have HG' := Lib.hid hg'; clear htop' hown' hg' _hnil ho1')
        go_roundw
        case rel =>
          refine ⟨k + 1, by omega, by go_num, ⟨A', c', B', d', ?_, ?_, ?_, by rw [fresh_length]; omega, hf0, hf1⟩, ?_⟩
          · rw [fresh_length]; exact HTa.out.put 2 _
          · rw [fresh_length, ← gensOf_more]
            exact own_far (p := ⟨w.heap.size, 2, none⟩) HO1'.out (own_apart HO1'.out HTa.out (by decide)) _
          · rw [fresh_length, ← livesOf_more]
            exact own_far (p := ⟨w.heap.size, 2, none⟩) HO2'.out (own_apart HO2'.out HTa.out (by decide)) _
          · exact ((HB.out.alloc hsz _).grown HG'.out (by simp; omega) (fun j hj => (HO2.out.lt j hj).1)).setCell (p := ⟨w.heap.size, 2, none⟩) (Nat.le_refl _) _
        case measure => simp [intOf]; omega
      · obtain rfl : k = slotsOf n := by omega
        have HR : Hid (∃ A c B d, RfAt wr w.heap.size w.heap.size A c B d _ (fresh (slotsOf n)) false false) := ⟨A, c, B, d, hr⟩
        have HB := Lib.hid hb
        have hno : n ≤ (slotsOf n : Int) ∨ ((slotsOf n : Int) < n ∧ 1000 ≤ (slotsOf n : Int)) := by rw [hN.out]; omega
        clear hr hb hlt
        generalize slotsOf n = k at *
        rcases hno with h1 | ⟨h1, h2⟩
        case' inr => have hd : decide ((k : Int) < 1000) = false := by simp; omega
        all_goals
          go_wp2
          go_ret
          exact ⟨rfl, HR.out, HB.out⟩

theorem rfNew_any (first n : Int) (w : World) : Calls Try.prog 9 #[.int .i64 first, .int .i64 n] w (RfMade w (firstOf first) (slotsOf n)) :=
  rfNew_in first n (firstOf first) (by unfold firstOf; repeat' split
                                       all_goals omega) w
end Go.Proofs.Ytlgaihlbfjndhaa
