/-
  Layer 1: the reference's memory: what it is made of, and what an access of it does.
-/
import Derived.Test.YtodclnfhhaiblaaCellDo
namespace Go.Proofs.Ytodclnfhhaiblaa
open Go.ChangeShapes Go.WideShapes Go.ChangeAt Go.RowKit
set_option linter.unusedVariables false

/-- The reference's memory: its struct in block b, its numbers in a row from 'base' on. -/
structure RefAt (w : World) (b base : Nat) (A : Option Addr) (c : Nat) (cs : List Int) (cnt : Int) : Prop where
  top : Whole w b 48 #[.slice A cs.length c, .int .i64 cnt]
  own : w.ownsRow base 2 1 (.slice A cs.length c) cs.length (cs.map (Value.int .i64))
  few : cs.length ≤ 65536
  lo : 0 ≤ cnt
  hi : cnt ≤ 4611686018427387904

/-- Its blocks. -/
def Ref (b : Nat) (A : Option Addr) (k : Nat) : Prop := k = b ∨ ∃ x : Addr, A = some x ∧ k = x.block

section
variable {w w' : World} {b base : Nat} {A : Option Addr} {c : Nat} {cs : List Int} {cnt : Int}
theorem RefAt.c0 (h : RefAt w b base A c cs cnt) : w.cell? ⟨b, 0, none⟩ = some (.slice A cs.length c) := by rw [h.top.cell]; rfl
theorem RefAt.c1 (h : RefAt w b base A c cs cnt) : w.cell? ⟨b, 1, none⟩ = some (.int .i64 cnt) := by rw [h.top.cell]; rfl
theorem RefAt.f1 (h : RefAt w b base A c cs cnt) : w.frozen? ⟨b, 1, none⟩ = false := h.top.frozen 1
theorem RefAt.only {S : Nat → Prop} (h : RefAt w b base A c cs cnt) (ho : Only S w w') (hS : ∀ k, Ref b A k → ¬ S k) : RefAt w' b base A c cs cnt :=
  ⟨h.top.only ho (hS b (.inl rfl)), own_only h.own ho (fun k hk => hS k (by
    cases A with
    | none => simp [Value.ownBlock] at hk
    | some x => exact .inr ⟨x, rfl, by simpa [Value.ownBlock, eq_comm] using hk⟩)), h.few, h.lo, h.hi⟩
theorem RefAt.alloc (h : RefAt w b base A c cs cnt) (o : Obj) : RefAt (w.alloc o) b base A c cs cnt := h.only ((Only.refl (fun _ => False) w).alloc o) (fun _ _ => id)
theorem RefAt.drewN (h : RefAt w b base A c cs cnt) (n : Nat) : RefAt (w.drewN n) b base A c cs cnt := h.only ((Only.refl (fun _ => False) w).drewN n) (fun _ _ => id)
theorem RefAt.count (h : RefAt w b base A c cs cnt) (hc : cnt + 1 ≤ 4611686018427387904) : RefAt (w.setCell ⟨b, 1, none⟩ (.int .i64 (cnt + 1))) b base A c cs (cnt + 1) :=
  ⟨h.top.put 1 _, own_only (S := fun k => k = b) h.own ((Only.refl (fun k => k = b) w).setCell (p := ⟨b, 1, none⟩) (.inl rfl) _) (fun k hk e => by subst e; exact own_apart h.own h.top (by decide) hk), h.few, by have := h.lo; omega, hc⟩
theorem RefAt.form (h : RefAt w b base A c cs cnt) (hp : 0 < cs.length) : ∃ g, A = some ⟨g, 0, none⟩ ∧ base ≤ g ∧ g < w.heap.size ∧ g ≠ b := by
  rcases h.own.2 with ⟨_, h0⟩ | ⟨g, cap, cur, hv, hb, hh, _⟩
  · omega
  · injection hv with h1
    exact ⟨g, h1, hb, Whole.lt (t := 2) hh, Whole.apart (t := 2) hh h.top (by decide)⟩
theorem RefAt.at_ {g : Nat} (h : RefAt w b base (some ⟨g, 0, none⟩) c cs cnt) (i : Nat) (hi : i < cs.length) : w.cell? ⟨g, i, none⟩ = some (.int .i64 (nth cs i)) := by
  rw [h.own.cellAt i (by omega), List.getElem?_map, nth, List.getD_eq_getElem?_getD, List.getElem?_eq_getElem hi]
  rfl
theorem RefAt.fr {g : Nat} (h : RefAt w b base (some ⟨g, 0, none⟩) c cs cnt) (i : Nat) : w.frozen? ⟨g, i, none⟩ = false := h.own.frozenAt i
theorem RefAt.store {g : Nat} (h : RefAt w b base (some ⟨g, 0, none⟩) c cs cnt) (hg : g ≠ b) (i : Nat) (v : Int) : RefAt (w.setCell ⟨g, i, none⟩ (.int .i64 v)) b base (some ⟨g, 0, none⟩) c (cs.set i v) cnt :=
  ⟨by rw [List.length_set]; exact h.top.far (Ne.symm hg) _, by rw [List.length_set, List.map_set]; exact (h.own.stored i (.int .i64 v)).1, by rw [List.length_set]; exact h.few, h.lo, h.hi⟩
end

/-- What is left by an access of the reference's memory. -/
def DidRef (w : World) (b base : Nat) (A : Option Addr) (c : Nat) (r : Int × Int) (cs : List Int) (cnt : Int) (e : Ending) (w' : World) : Prop :=
  e = .returned (.tuple #[.int .i64 r.1, .int .i64 r.2]) ∧ RefAt w' b base A c cs cnt ∧ Only (Ref b A) w w'

/-- The op that was boxed. -/
structure Boxed (w : World) (o : Nat) (kd i v old : Int) : Prop where
  o0 : w.cell? ⟨o, 0, none⟩ = some (.int .u8 kd)
  o1 : w.cell? ⟨o, 1, none⟩ = some (.int .i64 i)
  o2 : w.cell? ⟨o, 2, none⟩ = some (.int .i64 v)
  o3 : w.cell? ⟨o, 3, none⟩ = some (.int .i64 old)

theorem Boxed.of {w w' : World} {o : Nat} {kd i v old : Int} {S : Nat → Prop} (h : Whole w o 81 #[.int .u8 kd, .int .i64 i, .int .i64 v, .int .i64 old]) (ho : Only S w w') (hS : ¬ S o) : Boxed w' o kd i v old := by
  have h' := h.only ho hS
  exact ⟨by rw [h'.cell]; rfl, by rw [h'.cell]; rfl, by rw [h'.cell]; rfl, by rw [h'.cell]; rfl⟩

set_option maxHeartbeats 2000000 in
theorem ref_out {w : World} {b base : Nat} {A : Option Addr} {c : Nat} {cs : List Int} {cnt : Int} (kd i v old : Int) (h : RefAt w b base A c cs cnt) (hout : ¬ Within i cs) :
    Calls Try.prog 33 #[.pointer (some ⟨b, 0, none⟩), .agg #[.int .u8 kd, .int .i64 i, .int .i64 v, .int .i64 old]] w (DidRef w b base A c (0, 1) cs cnt) := by
  have h' := h.alloc (.cells #[.int .u8 kd, .int .i64 i, .int .i64 v, .int .i64 old] 81)
  have hc := h'.c0
  have H := Lib.hid h'
  clear h h'
  have ho : i < 0 ∨ (0 ≤ i ∧ (cs.length : Int) ≤ i) := by unfold Within at hout; omega
  clear hout
  rcases ho with h1 | ⟨h1, h2⟩
  · have hd : decide (i < 0) = true := by simpa using h1
    go_enter Try.func33, Try.ntmps33
    go_upto_region 1 with (fail)
    go_quiet (fail)
    go_wp2_with fail
    go_ret2
    exact ⟨rfl, H.out.drewN _, ((Only.refl _ _).alloc _).drewN _⟩
  · have hd : decide (i < 0) = false := by simp; omega
    go_enter Try.func33, Try.ntmps33
    go_upto_region 1 with (fail)
    go_quiet (fail)
    go_wp2_with fail
    go_ret2
    exact ⟨rfl, H.out.drewN _, ((Only.refl _ _).alloc _).drewN _⟩


set_option maxHeartbeats 4000000 in
theorem ref_in {w : World} {b base : Nat} {A : Option Addr} {c : Nat} {cs : List Int} {cnt : Int} (kd i v old : Int) (hk0 : 0 ≤ kd) (hk1 : kd ≤ 255) (h : RefAt w b base A c cs cnt) (hin : Within i cs) (hu : cnt + 1 ≤ 4611686018427387904) :
    Calls Try.prog 33 #[.pointer (some ⟨b, 0, none⟩), .agg #[.int .u8 kd, .int .i64 i, .int .i64 v, .int .i64 old]] w (DidRef w b base A c (told (kd % 4) i v old cs) (turned (kd % 4) i v old cs) (cnt + 1)) := by
  obtain ⟨hi0, hi1⟩ := hin
  obtain ⟨k, rfl⟩ := Int.eq_ofNat_of_zero_le hi0
  have hkl : k < cs.length := by omega
  have HIN : Hid (Within (k : Int) cs) := ⟨hi0, hi1⟩
  obtain ⟨g, rfl, hg1, hg2, hg3⟩ := h.form (by omega)
  have hbb : b < w.heap.size := h.top.lt
  have h' := h.alloc (.cells #[.int .u8 kd, .int .i64 k, .int .i64 v, .int .i64 old] 81)
  have hc := h'.c0
  have hc1 := h'.c1
  have hf1 := h'.f1
  have hl := h.lo
  have hn := h.few
  have hq : kd % 4 = 0 ∨ kd % 4 = 1 ∨ kd % 4 = 2 ∨ kd % 4 = 3 := by omega
  have HQ := Lib.hid hq
  have H := Lib.hid h'
  have hd : decide ((k : Int) < 0) = false := by simp
  clear h h' hq
  go_enter Try.func33, Try.ntmps33
  go_upto_region 1 with (fail)
  go_quiet (fail)
  go_upto_region 4 with (fail)
  have R3 := (H.out.drewN nq).count hu
  have hnr : ¬ Ref b (some ⟨g, 0, none⟩) w.heap.size := by
    rintro (e | ⟨x, e, e2⟩)
    · omega
    · injection e with e
      subst e
      have : w.heap.size = g := e2
      omega
  have O2 : Only (Ref b (some ⟨g, 0, none⟩)) (w.alloc (.cells #[.int .u8 kd, .int .i64 k, .int .i64 v, .int .i64 old] 81)) (((w.alloc (.cells #[.int .u8 kd, .int .i64 k, .int .i64 v, .int .i64 old] 81)).drewN nq).setCell ⟨b, 1, none⟩ (.int .i64 (cnt + 1))) :=
    ((Only.refl _ _).drewN nq).setCell (p := ⟨b, 1, none⟩) (.inl (.inl rfl)) _
  have B3 := Boxed.of (Whole.new w _ _) O2 hnr
  have O3 := only_new O2
  clear O2
  generalize (((w.alloc (.cells #[.int .u8 kd, .int .i64 k, .int .i64 v, .int .i64 old] 81)).drewN nq).setCell ⟨b, 1, none⟩ (.int .i64 (cnt + 1))) = w3 at *
  have hc0 := R3.c0
  have hck := R3.at_ k hkl
  have hfk := R3.fr k
  obtain ⟨ho0, ho1, ho2, ho3⟩ := B3
  have RR := Lib.hid R3
  have OO := Lib.hid O3
  clear R3 O3 hc hc1 hf1 H
  rcases HQ.out with hq | hq | hq | hq
  · have h0 : (kd % 4 == 0) = true := beq_iff_eq.2 hq
    have HQ0 := Lib.hid hq
    clear hq
    generalize hx : nth cs k = x at *
    have HX := Lib.hid hx
    clear hx
    go_quiet (fail)
    go_wp2_with fail
    go_ret2
    exact ⟨by rw [told_0 HIN.out HQ0.out, Int.toNat_natCast, HX.out]; rfl, by rw [turned_0 HIN.out HQ0.out]; exact RR.out.drewN _, OO.out.drewN _⟩
  · have h0 : (kd % 4 == 0) = false := beq_eq_false_iff_ne.2 (by omega)
    have h1 : (kd % 4 == 1) = true := beq_iff_eq.2 hq
    have HQ0 := Lib.hid hq
    clear hq
    generalize hx : nth cs k = x at *
    have HX := Lib.hid hx
    clear hx
    go_quiet (fail)
    go_upto_region 9 with (fail)
    go_region
    all_goals (go_wp2_with fail)
    all_goals go_ret2
    all_goals (exact ⟨by rw [told_1 HIN.out HQ0.out]; rfl, by rw [turned_1 HIN.out HQ0.out, Int.toNat_natCast]; exact (RR.out.drewN _).store hg3 _ _, (OO.out.drewN _).setCell (p := ⟨g, k, none⟩) (.inl (.inr ⟨_, rfl, rfl⟩)) _⟩)
  · have h0 : (kd % 4 == 0) = false := beq_eq_false_iff_ne.2 (by omega)
    have h1 : (kd % 4 == 1) = false := beq_eq_false_iff_ne.2 (by omega)
    have h2 : (kd % 4 == 2) = true := beq_iff_eq.2 hq
    have HQ0 := Lib.hid hq
    clear hq
    generalize hx : nth cs k = x at *
    have HX := Lib.hid hx
    clear hx
    go_quiet (fail)
    go_upto_region 12 with (fail)
    go_region
    all_goals (go_wp2_with fail)
    all_goals go_ret2
    all_goals (refine ⟨by rw [told_2 HIN.out HQ0.out, Int.toNat_natCast, HX.out]; rfl, ?_, (OO.out.drewN _).setCell (p := ⟨g, k, none⟩) (.inl (.inr ⟨_, rfl, rfl⟩)) _⟩)
    all_goals (rw [turned_2 HIN.out HQ0.out, Int.toNat_natCast, HX.out, ← wrap_both]; exact (RR.out.drewN _).store hg3 _ _)
  · have h0 : (kd % 4 == 0) = false := beq_eq_false_iff_ne.2 (by omega)
    have h1 : (kd % 4 == 1) = false := beq_eq_false_iff_ne.2 (by omega)
    have h2 : (kd % 4 == 2) = false := beq_eq_false_iff_ne.2 (by omega)
    have HQ0 := Lib.hid hq
    clear hq
    by_cases hs : nth cs k = old
    · rw [hs] at hck
      have HS : Hid (nth cs (k : Int).toNat = old) := by rw [Int.toNat_natCast]; exact hs
      have hne : (old != old) = false := by simp
      clear hs
      go_quiet (fail)
      go_upto_region 16 with (fail)
      go_region
      all_goals (go_wp2_with fail)
      all_goals go_ret2
      all_goals (exact ⟨by rw [told_3 HIN.out HQ0.out HS.out]; rfl, by rw [turned_3 HIN.out HQ0.out HS.out, Int.toNat_natCast]; exact (RR.out.drewN _).store hg3 _ _, (OO.out.drewN _).setCell (p := ⟨g, k, none⟩) (.inl (.inr ⟨_, rfl, rfl⟩)) _⟩)
    · have hne : (nth cs k != old) = true := bne_iff_ne.2 hs
      have HS : Hid (¬ nth cs (k : Int).toNat = old) := by rw [Int.toNat_natCast]; exact hs
      clear hs
      generalize nth cs k = x at *
      go_quiet (fail)
      go_wp2_with fail
      go_ret2
      exact ⟨by rw [told_4 HIN.out HQ0.out HS.out]; rfl, by rw [turned_4 HIN.out HQ0.out HS.out]; exact RR.out.drewN _, OO.out.drewN _⟩

theorem ref_any {w : World} {b base : Nat} {A : Option Addr} {c : Nat} {cs : List Int} {cnt : Int} (kd i v old : Int) (hk0 : 0 ≤ kd) (hk1 : kd ≤ 255) (h : RefAt w b base A c cs cnt) (hu : cnt + 1 ≤ 4611686018427387904) :
    Calls Try.prog 33 #[.pointer (some ⟨b, 0, none⟩), .agg #[.int .u8 kd, .int .i64 i, .int .i64 v, .int .i64 old]] w (DidRef w b base A c (told (kd % 4) i v old cs) (turned (kd % 4) i v old cs) (cnt + tick i cs)) := by
  by_cases hin : Within i cs
  · rw [tick_in hin]
    exact ref_in kd i v old hk0 hk1 h hin hu
  · rw [tick_out hin, told_out hin, turned_out hin, Int.add_zero]
    exact ref_out kd i v old h hin

end Go.Proofs.Ytodclnfhhaiblaa
