/-
  Layer 7: whatever is put is there, in place of what was, and joined with what it goes on from.
-/
import Derived.Test.YteockpmadpbjiaaListHold
namespace Go.Proofs.Yteockpmadpbjiaa
open Go.ChangeShapes Go.WideShapes Go.ChangeAt Go.RowKit Go.Shelf
set_option linter.unusedVariables false
attribute [local go_sem ↓] Go.wp_at_zero Go.wp_at_succ

set_option maxHeartbeats 2000000 in
theorem puts_many (A : Option Addr) (n c : Nat) (a : Ar) (w : World) (hn : 20 < n) :
    Calls Try.prog 7 #[.slice A n c, a.v] w fun e w' => e = .returned (.bool true) ∧ Below w.heap.size w w' := by
  have W0 := Lib.hid list_awake
  have hz : (20 : Int) < (n : Int) := by omega
  obtain ⟨a0, a1, a2, a3, a4, a5⟩ := a
  simp only [Ar.v]
  go_enter Try.func7, Try.ntmps7
  go_wp2_with fail
  refine (W0.out _).mono ?_
  rintro e w1 ⟨rfl, hb1⟩
  have B1 := Lib.hid (below_then (below_new w _) hb1 (Nat.le_refl _))
  clear hb1
  go_wp2_with fail
  refine (W0.out _).mono ?_
  rintro e w2 ⟨rfl, hb2⟩
  have B2 := Lib.hid (below_then B1.out hb2 (Nat.le_refl _))
  clear hb2
  go_wp2_with fail
  go_ret
  exact ⟨rfl, B2.out⟩

set_option maxHeartbeats 2000000 in
theorem puts_wrong (l : List Ar) (v : Value) (a : Ar) (w : World) (hl : l.length ≤ 20) (hA : Holds w v l) (hf : ¬ Formed a) :
    Calls Try.prog 7 #[v, a.v] w fun e w' => e = .returned (.bool true) ∧ Below w.heap.size w w' := by
  have W0 := Lib.hid list_awake
  have XF := Lib.hid (refFormed_any a)
  rw [decide_eq_false hf] at XF
  have G0 := Lib.hid ((Bag.new w).add 24 a.cells)
  have KL := Lib.hid (hA.still (below_new w (.cells a.cells 24)))
  have CM : Hid (∀ w' u, Holds w' u l → Calls Try.prog 11 #[u] w' fun e w'' => ∃ v', e = .returned v' ∧ Holds w'' v' (madeL l) ∧ Below w'.heap.size w' w'') := Lib.hid (fun w' u h => made_c h (by omega))
  have hX := madeL_right l
  generalize madeL l = X at *
  have CP : Hid (∀ w' u, Holds w' u X → Calls Try.prog 12 #[u, a.v] w' fun e w'' => e = .returned (.slice none 0 0) ∧ Below w'.heap.size w' w'') := Lib.hid (fun w' u h => by
    obtain ⟨A, c, rfl, hc, hA⟩ := h
    exact put_no A X c a (by have := right_len hX; omega) (fun h => hf h.2) w' hA)
  obtain ⟨A, c, rfl⟩ : ∃ A c, v = .slice A l.length c := by obtain ⟨A, c, e, _⟩ := hA; exact ⟨A, c, e⟩
  clear hA hf hX
  generalize l.length = n at *
  have hz : ¬ (20 : Int) < (n : Int) := by omega
  obtain ⟨a0, a1, a2, a3, a4, a5⟩ := a
  simp only [Ar.v, Ar.cells] at XF G0 CP KL ⊢
  go_enter Try.func7, Try.ntmps7
  go_wp2_with fail
  refine (W0.out _).mono ?_
  rintro e w1 ⟨rfl, hb⟩
  have G1 := Lib.hid (G0.out.still hb)
  have K1 := Lib.hid (KL.out.still hb)
  clear hb G0 KL
  go_wp2_with fail
  refine (CM.out _ _ K1.out).mono ?_
  rintro e w2 ⟨vx, rfl, hX, hb⟩
  have G2 := Lib.hid (G1.out.still hb)
  have KX := Lib.hid hX
  clear hb G1 K1 CM hX
  obtain ⟨d0, d1, d2, d3, d4, d5⟩ := row6 G2.out.v0
  go_wp2_with fail
  refine (CP.out _ _ KX.out).mono ?_
  rintro e w3 ⟨rfl, hb⟩
  have G3 := Lib.hid (G2.out.still hb)
  clear hb G2 CP d0 d1 d2 d3 d4 d5
  obtain ⟨d0, d1, d2, d3, d4, d5⟩ := row6 G3.out.v0
  go_wp2_with fail
  refine (XF.out _).mono ?_
  rintro e w4 ⟨rfl, hb⟩
  have G4 := Lib.hid (G3.out.still hb)
  clear hb G3 d0 d1 d2 d3 d4 d5
  go_wp2_with fail
  go_ret
  exact ⟨rfl, G4.out.bel⟩

theorem lit_far {w w' : World} {row : Option Nat} {b : Nat} {a : Ar} (hg : w.grownBy w' row) (hlt : b < w.heap.size) (hne : some b ≠ row) (hc : ∀ j u, (Ar.cl a)[j]? = some u → w.cell? ((⟨b, 0, none⟩ : Addr).add j) = some u) :
    ∀ j u, (Ar.cl a)[j]? = some u → w'.cell? ((⟨b, 0, none⟩ : Addr).add j) = some u := fun j u hu => by
  rw [Addr.add_lit]
  have h := hc j u hu
  rw [Addr.add_lit] at h
  exact (World.cell?_of_block (w := w) (hg.block b hlt hne)).trans h

set_option maxRecDepth 4000 in
set_option maxHeartbeats 8000000 in
theorem puts_few (l : List Ar) (v : Value) (a : Ar) (w : World) (hl : l.length ≤ 20) (hA : Holds w v l) (hf : Formed a) :
    Calls Try.prog 7 #[v, a.v] w fun e w' => e = .returned (.bool true) ∧ Below w.heap.size w w' := by
  have W0 := Lib.hid list_awake
  have XF := Lib.hid (refFormed_any a)
  rw [decide_eq_true hf] at XF
  have G0 := Lib.hid ((Bag.new w).add 24 a.cells)
  have KL := Lib.hid (hA.still (below_new w (.cells a.cells 24)))
  have CM : Hid (∀ w' u, Holds w' u l → Calls Try.prog 11 #[u] w' fun e w'' => ∃ v', e = .returned v' ∧ Mine w'.heap.size w'' v' (madeL l) ∧ Below w'.heap.size w' w'') := Lib.hid (fun w' u h => by
    obtain ⟨A, c, rfl, hc, hA⟩ := h
    exact made_any A c l (by omega) hc w' hA)
  have hlm := madeL_len l hl
  have hX := madeL_right l
  generalize madeL l = X at *
  have CP : Hid (∀ w' u, Holds w' u X → Calls Try.prog 12 #[u, a.v] w' fun e w'' => ∃ v', e = .returned v' ∧ Holds w'' v' (putC X a) ∧ Below w'.heap.size w' w'') := Lib.hid (fun w' u h => put_c h hX hf)
  have CN : Hid (∀ w' u, Holds w' u (X ++ [a]) → Calls Try.prog 11 #[u] w' fun e w'' => ∃ v', e = .returned v' ∧ Holds w'' v' (putC X a) ∧ Below w'.heap.size w' w'') := Lib.hid (fun w' u h => by
    have := made_c h (by simp; omega)
    rwa [puts_made hX hf] at this)
  have SP : Hid (∀ w' u u', Holds w' u (putC X a) → Holds w' u' (putC X a) → Calls Try.prog 15 #[u, u'] w' fun e w'' => e = .returned (.bool true) ∧ Below w'.heap.size w' w'') := Lib.hid (fun w' u u' h h' => same_c h h' rfl (putC_right hX hf))
  obtain ⟨A, c, rfl⟩ : ∃ A c, v = .slice A l.length c := by obtain ⟨A, c, e, _⟩ := hA; exact ⟨A, c, e⟩
  obtain ⟨i0, hi0, hz0, hz1, hz2⟩ := info_parts area_info
  have HI0 : Hid (Try.prog.info? 24 = some i0) := Lib.hid hi0
  have H0 : Hid (i0.zero = some Ar.nil.v) := Lib.hid hz0
  have H1 : Hid (i0.size = 6) := Lib.hid hz1
  have H2 : Hid (i0.bytes = 48) := Lib.hid hz2
  clear hi0 hz0 hz1 hz2 hA hf hX
  generalize putC X a = P at *
  generalize l.length = n at *
  have hz : ¬ (20 : Int) < (n : Int) := by omega
  obtain ⟨a0, a1, a2, a3, a4, a5⟩ := a
  simp only [Ar.v, Ar.cells] at XF G0 CP KL ⊢
  go_enter Try.func7, Try.ntmps7
  go_wp2_with fail
  refine (W0.out _).mono ?_
  rintro e w1 ⟨rfl, hb⟩
  have G1 := Lib.hid (G0.out.still hb)
  have K1 := Lib.hid (KL.out.still hb)
  clear hb G0 KL
  go_wp2_with fail
  refine (CM.out _ _ K1.out).mono ?_
  rintro e w2 ⟨vx, rfl, hm, hb⟩
  have G2 := Lib.hid (G1.out.still hb)
  have M2 := Lib.hid hm
  clear hb G1 K1 CM hm
  obtain ⟨d0, d1, d2, d3, d4, d5⟩ := row6 G2.out.v0
  go_wp2_with fail
  refine (CP.out _ _ M2.out.holds).mono ?_
  rintro e w3 ⟨vp, rfl, hP, hb⟩
  have G3 := Lib.hid (G2.out.still hb)
  have M3 := Lib.hid (M2.out.still hb)
  have KP := Lib.hid hP
  clear hb G2 CP M2 hP d0 d1 d2 d3 d4 d5
  obtain ⟨d0, d1, d2, d3, d4, d5⟩ := row6 G3.out.v0
  go_wp2_with fail
  refine (XF.out _).mono ?_
  rintro e w4 ⟨rfl, hb⟩
  have G4 := Lib.hid (G3.out.still hb)
  have M4 := Lib.hid (M3.out.still hb)
  have KP := Lib.hid (KP.out.still hb)
  clear hb G3 M3 d0 d1 d2 d3 d4 d5
  obtain ⟨A5, c5, rfl⟩ := M4.out.is
  obtain ⟨d0, d1, d2, d3, d4, d5⟩ := row6 G4.out.v0
  have HK : Hid (∀ w', Below w4.heap.size w4 w' → (w'.cell? ⟨w.heap.size, 0, none⟩ = some (.int .i64 a0) ∧ w'.cell? ⟨w.heap.size, 1, none⟩ = some (.int .i64 a1) ∧ w'.cell? ⟨w.heap.size, 2, none⟩ = some (.int .i64 a2) ∧ w'.cell? ⟨w.heap.size, 3, none⟩ = some (.bool a3) ∧ w'.cell? ⟨w.heap.size, 4, none⟩ = some (.int .i64 a4) ∧ w'.cell? ⟨w.heap.size, 5, none⟩ = some (.int .i64 a5))) := Lib.hid (fun w' h => row6 (G4.out.still h).v0)
  clear d0 d1 d2 d3 d4 d5
  have O3 : Hid (((w4.drew.alloc (.cells (Ar.cells ⟨a0, a1, a2, a3, a4, a5⟩) 24)).alloc (.cells #[] 24)).ownsRow w4.heap.size 24 6 (.slice (some ⟨w4.heap.size + 1, 0, none⟩) 0 0) 0 []) := Lib.hid (by
    have := World.ownsRow_made (base := w4.heap.size) (e := 24) (size := 6) (w4.drew.alloc (.cells (Ar.cells ⟨a0, a1, a2, a3, a4, a5⟩) 24)) #[] 0 (by simp) (by simp) rfl
    rw [World.size_alloc] at this
    exact this)
  have N2 : Hid (∀ j u, (Ar.cl ⟨a0, a1, a2, a3, a4, a5⟩)[j]? = some u → ((w4.drew.alloc (.cells #[] 24)).alloc (.cells (Ar.cells ⟨a0, a1, a2, a3, a4, a5⟩) 24)).cell? ((⟨w4.heap.size + 1, 0, none⟩ : Addr).add j) = some u) := Lib.hid (fun j u hu => by
    have h6 := new6 (w4.drew.alloc (.cells #[] 24)) ⟨a0, a1, a2, a3, a4, a5⟩ 24 j u hu
    rw [World.size_alloc] at h6
    exact h6)
  have N3 : Hid (∀ j u, (Ar.cl ⟨a0, a1, a2, a3, a4, a5⟩)[j]? = some u → ((w4.drew.alloc (.cells (Ar.cells ⟨a0, a1, a2, a3, a4, a5⟩) 24)).alloc (.cells #[] 24)).cell? ((⟨w4.heap.size, 0, none⟩ : Addr).add j) = some u) := Lib.hid (fun j u hu => by
    have h6 := new6 w4.drew ⟨a0, a1, a2, a3, a4, a5⟩ 24 j u hu
    refine (Below.cell (below_new (w4.drew.alloc (.cells (Ar.cells ⟨a0, a1, a2, a3, a4, a5⟩) 24)) (.cells #[] 24)) ?_).trans h6
    rw [Addr.add_lit]
    simp)
  by_cases hx0 : X.length = 0
  · obtain rfl : X = [] := List.eq_nil_of_length_eq_zero hx0
    simp only [List.length_nil] at *
    cases A5 with
    | none =>
      go_wp2_with fail
      go_region_held3 (fun w' => w'.cell? ⟨w.heap.size, 0, none⟩ = some (.int .i64 a0) ∧ w'.cell? ⟨w.heap.size, 1, none⟩ = some (.int .i64 a1) ∧ w'.cell? ⟨w.heap.size, 2, none⟩ = some (.int .i64 a2) ∧ w'.cell? ⟨w.heap.size, 3, none⟩ = some (.bool a3) ∧ w'.cell? ⟨w.heap.size, 4, none⟩ = some (.int .i64 a4) ∧ w'.cell? ⟨w.heap.size, 5, none⟩ = some (.int .i64 a5))
        (first | exact HK.out _ BB8.out | exact HK.out _ BB7.out | exact HK.out _ BB6.out | exact HK.out _ (below_drew (Below.refl w4.heap.size w4)) | exact HK.out _ ((below_drew (Below.refl w4.heap.size w4)).alloc (Nat.le_refl _) (.cells #[] 24)) | exact HK.out _ (((below_drew (Below.refl w4.heap.size w4)).alloc (Nat.le_refl _) (.cells #[] 24)).alloc (by simp) (.cells (Ar.cells ⟨a0, a1, a2, a3, a4, a5⟩) 24)) | exact HK.out _ (((below_drew (Below.refl w4.heap.size w4)).alloc (Nat.le_refl _) (.cells (Ar.cells ⟨a0, a1, a2, a3, a4, a5⟩) 24)).alloc (by simp) (.cells #[] 24)) | exact HK.out _ ((below_drew (Below.refl w4.heap.size w4)).alloc (Nat.le_refl _) (.cells (Ar.cells ⟨a0, a1, a2, a3, a4, a5⟩) 24)))
        (first
        | (go_at_call 15; refine (SP.out _ _ _ KP.out K33.out).mono ?_; rintro e w8 ⟨rfl, hb⟩; have BB8 := Lib.hid (below_then BB7.out hb (Nat.le_refl _)); clear hb SP)
        | (go_at_call 11; refine (CN.out _ _ M6.out.holds).mono ?_; rintro e w7 ⟨v33, rfl, h33, hb⟩; have BB7 := Lib.hid (below_then BB6.out hb (Nat.le_refl _)); have K33 := Lib.hid h33; have KP := Lib.hid ((KP.out.still BB6.out).still hb); clear hb h33 CN)
        | (refine step_append_lies _ (by rfl) (.tmp 29) (.tmp 31) _ (by rfl) w4.heap.size 24 i0 _ 6 48 Try.underlying22 HI0.out H0.out H1.out H2.out rfl (by omega) _ 0 _ (by rfl) (World.ownsRow.alloc (show (w4.drew.alloc (.cells #[] 24)).ownsRow w4.heap.size 24 6 (.slice (some ⟨w4.heap.size, 0, none⟩) 0 0) 0 [] from World.ownsRow_made w4.drew #[] 0 (Nat.le_refl _) (by simp) rfl) (.cells (Ar.cells ⟨a0, a1, a2, a3, a4, a5⟩) 24)) ⟨w4.heap.size + 1, 0, none⟩ 1 1 (Ar.cl ⟨a0, a1, a2, a3, a4, a5⟩) (by rfl) rfl N2.out (cl_one _) (by omega) (by simp only [maxLen]; omega) (by omega) (by simp <;> omega) _ rfl ?_; intro g2 c2 w6 hown hgrow hat hlt; rw [Nat.zero_add] at hown ⊢; have M6 : Hid (Mine w4.heap.size w6 (.slice (some ⟨g2, 0, none⟩) 1 c2) ([] ++ [⟨a0, a1, a2, a3, a4, a5⟩])) := Lib.hid (mine_more (l := []) (l' := [⟨a0, a1, a2, a3, a4, a5⟩]) rfl (by rw [cls_single]; exact hown)); have BB6 := Lib.hid (Below.grown (((below_drew (Below.refl w4.heap.size w4)).alloc (Nat.le_refl _) (.cells #[] 24)).alloc (by simp) (.cells (Ar.cells ⟨a0, a1, a2, a3, a4, a5⟩) 24)) hgrow (by simp <;> omega) (fun k hk => by simp [Value.ownBlock] at hk; omega)); clear hown hgrow hat hlt)
        | (refine step_append_lies _ (by rfl) (.tmp 29) (.tmp 31) _ (by rfl) w4.heap.size 24 i0 _ 6 48 Try.underlying22 HI0.out H0.out H1.out H2.out rfl (by omega) _ 0 _ (by rfl) O3.out ⟨w4.heap.size, 0, none⟩ 1 1 (Ar.cl ⟨a0, a1, a2, a3, a4, a5⟩) (by rfl) rfl N3.out (cl_one _) (by omega) (by simp only [maxLen]; omega) (by omega) (by simp <;> omega) _ rfl ?_; intro g2 c2 w6 hown hgrow hat hlt; rw [Nat.zero_add] at hown ⊢; have M6 : Hid (Mine w4.heap.size w6 (.slice (some ⟨g2, 0, none⟩) 1 c2) ([] ++ [⟨a0, a1, a2, a3, a4, a5⟩])) := Lib.hid (mine_more (l := []) (l' := [⟨a0, a1, a2, a3, a4, a5⟩]) rfl (by rw [cls_single]; exact hown)); have BB6 := Lib.hid (Below.grown (((below_drew (Below.refl w4.heap.size w4)).alloc (Nat.le_refl _) (.cells (Ar.cells ⟨a0, a1, a2, a3, a4, a5⟩) 24)).alloc (by simp) (.cells #[] 24)) hgrow (by simp <;> omega) (fun k hk => by simp [Value.ownBlock] at hk; omega)); clear hown hgrow hat hlt)
        | fail)
      all_goals (
        go_wp2_with fail
        go_ret
        exact ⟨rfl, below_then G4.out.bel BB8.out (Nat.le_refl _)⟩)
    | some ad5 =>
      go_wp2_with fail
      go_region_held3 (fun w' => w'.cell? ⟨w.heap.size, 0, none⟩ = some (.int .i64 a0) ∧ w'.cell? ⟨w.heap.size, 1, none⟩ = some (.int .i64 a1) ∧ w'.cell? ⟨w.heap.size, 2, none⟩ = some (.int .i64 a2) ∧ w'.cell? ⟨w.heap.size, 3, none⟩ = some (.bool a3) ∧ w'.cell? ⟨w.heap.size, 4, none⟩ = some (.int .i64 a4) ∧ w'.cell? ⟨w.heap.size, 5, none⟩ = some (.int .i64 a5))
        (first | exact HK.out _ BB8.out | exact HK.out _ BB7.out | exact HK.out _ BB6.out | exact HK.out _ (below_drew (Below.refl w4.heap.size w4)) | exact HK.out _ ((below_drew (Below.refl w4.heap.size w4)).alloc (Nat.le_refl _) (.cells #[] 24)) | exact HK.out _ (((below_drew (Below.refl w4.heap.size w4)).alloc (Nat.le_refl _) (.cells #[] 24)).alloc (by simp) (.cells (Ar.cells ⟨a0, a1, a2, a3, a4, a5⟩) 24)) | exact HK.out _ (((below_drew (Below.refl w4.heap.size w4)).alloc (Nat.le_refl _) (.cells (Ar.cells ⟨a0, a1, a2, a3, a4, a5⟩) 24)).alloc (by simp) (.cells #[] 24)) | exact HK.out _ ((below_drew (Below.refl w4.heap.size w4)).alloc (Nat.le_refl _) (.cells (Ar.cells ⟨a0, a1, a2, a3, a4, a5⟩) 24)))
        (first
        | (go_at_call 15; refine (SP.out _ _ _ KP.out K33.out).mono ?_; rintro e w8 ⟨rfl, hb⟩; have BB8 := Lib.hid (below_then BB7.out hb (Nat.le_refl _)); clear hb SP)
        | (go_at_call 11; refine (CN.out _ _ M6.out.holds).mono ?_; rintro e w7 ⟨v33, rfl, h33, hb⟩; have BB7 := Lib.hid (below_then BB6.out hb (Nat.le_refl _)); have K33 := Lib.hid h33; have KP := Lib.hid ((KP.out.still BB6.out).still hb); clear hb h33 CN)
        | (refine step_append_lies _ (by rfl) (.tmp 29) (.tmp 31) _ (by rfl) w4.heap.size 24 i0 _ 6 48 Try.underlying22 HI0.out H0.out H1.out H2.out rfl (by omega) _ 0 _ (by rfl) (World.ownsRow.alloc (show (w4.drew.alloc (.cells #[] 24)).ownsRow w4.heap.size 24 6 (.slice (some ⟨w4.heap.size, 0, none⟩) 0 0) 0 [] from World.ownsRow_made w4.drew #[] 0 (Nat.le_refl _) (by simp) rfl) (.cells (Ar.cells ⟨a0, a1, a2, a3, a4, a5⟩) 24)) ⟨w4.heap.size + 1, 0, none⟩ 1 1 (Ar.cl ⟨a0, a1, a2, a3, a4, a5⟩) (by rfl) rfl N2.out (cl_one _) (by omega) (by simp only [maxLen]; omega) (by omega) (by simp <;> omega) _ rfl ?_; intro g2 c2 w6 hown hgrow hat hlt; rw [Nat.zero_add] at hown ⊢; have M6 : Hid (Mine w4.heap.size w6 (.slice (some ⟨g2, 0, none⟩) 1 c2) ([] ++ [⟨a0, a1, a2, a3, a4, a5⟩])) := Lib.hid (mine_more (l := []) (l' := [⟨a0, a1, a2, a3, a4, a5⟩]) rfl (by rw [cls_single]; exact hown)); have BB6 := Lib.hid (Below.grown (((below_drew (Below.refl w4.heap.size w4)).alloc (Nat.le_refl _) (.cells #[] 24)).alloc (by simp) (.cells (Ar.cells ⟨a0, a1, a2, a3, a4, a5⟩) 24)) hgrow (by simp <;> omega) (fun k hk => by simp [Value.ownBlock] at hk; omega)); clear hown hgrow hat hlt)
        | (refine step_append_lies _ (by rfl) (.tmp 29) (.tmp 31) _ (by rfl) w4.heap.size 24 i0 _ 6 48 Try.underlying22 HI0.out H0.out H1.out H2.out rfl (by omega) _ 0 _ (by rfl) O3.out ⟨w4.heap.size, 0, none⟩ 1 1 (Ar.cl ⟨a0, a1, a2, a3, a4, a5⟩) (by rfl) rfl N3.out (cl_one _) (by omega) (by simp only [maxLen]; omega) (by omega) (by simp <;> omega) _ rfl ?_; intro g2 c2 w6 hown hgrow hat hlt; rw [Nat.zero_add] at hown ⊢; have M6 : Hid (Mine w4.heap.size w6 (.slice (some ⟨g2, 0, none⟩) 1 c2) ([] ++ [⟨a0, a1, a2, a3, a4, a5⟩])) := Lib.hid (mine_more (l := []) (l' := [⟨a0, a1, a2, a3, a4, a5⟩]) rfl (by rw [cls_single]; exact hown)); have BB6 := Lib.hid (Below.grown (((below_drew (Below.refl w4.heap.size w4)).alloc (Nat.le_refl _) (.cells (Ar.cells ⟨a0, a1, a2, a3, a4, a5⟩) 24)).alloc (by simp) (.cells #[] 24)) hgrow (by simp <;> omega) (fun k hk => by simp [Value.ownBlock] at hk; omega)); clear hown hgrow hat hlt)
        | fail)
      all_goals (
        go_wp2_with fail
        go_ret
        exact ⟨rfl, below_then G4.out.bel BB8.out (Nat.le_refl _)⟩)
  · obtain ⟨g, rfl⟩ : ∃ g, A5 = some ⟨g, 0, none⟩ := by
      rcases M4.out.2 with ⟨_, h0⟩ | ⟨g, cap, cur, hv, _⟩
      · omega
      · injection hv with h1; exact ⟨g, h1⟩
    have HXC : Hid (∀ w', Below w4.heap.size w4 w' → ∀ j u, (cls X)[j]? = some u → w'.cell? ((⟨g, 0, none⟩ : Addr).add j) = some u) := Lib.hid (fun w' h => World.ownsRow.cells (M4.out.still h) (g := g) (by simp [Value.ownBlock]))
    go_wp2_with fail
    go_region_held3 (fun w' => w'.cell? ⟨w.heap.size, 0, none⟩ = some (.int .i64 a0) ∧ w'.cell? ⟨w.heap.size, 1, none⟩ = some (.int .i64 a1) ∧ w'.cell? ⟨w.heap.size, 2, none⟩ = some (.int .i64 a2) ∧ w'.cell? ⟨w.heap.size, 3, none⟩ = some (.bool a3) ∧ w'.cell? ⟨w.heap.size, 4, none⟩ = some (.int .i64 a4) ∧ w'.cell? ⟨w.heap.size, 5, none⟩ = some (.int .i64 a5))
      (first | exact HK.out _ BB8.out | exact HK.out _ BB7.out | exact HK.out _ BB6.out | exact HK.out _ (BB5.out.alloc BB5.out.size _) | exact HK.out _ BB5.out | exact HK.out _ (below_drew (Below.refl w4.heap.size w4)) | exact HK.out _ ((below_drew (Below.refl w4.heap.size w4)).alloc (Nat.le_refl _) (.cells #[] 24)) | exact HK.out _ (((below_drew (Below.refl w4.heap.size w4)).alloc (Nat.le_refl _) (.cells #[] 24)).alloc (by simp) (.cells (Ar.cells ⟨a0, a1, a2, a3, a4, a5⟩) 24)) | exact HK.out _ (((below_drew (Below.refl w4.heap.size w4)).alloc (Nat.le_refl _) (.cells (Ar.cells ⟨a0, a1, a2, a3, a4, a5⟩) 24)).alloc (by simp) (.cells #[] 24)) | exact HK.out _ ((below_drew (Below.refl w4.heap.size w4)).alloc (Nat.le_refl _) (.cells (Ar.cells ⟨a0, a1, a2, a3, a4, a5⟩) 24)))
      (first
      | (go_at_call 15; refine (SP.out _ _ _ KP.out K33.out).mono ?_; rintro e w8 ⟨rfl, hb⟩; have BB8 := Lib.hid (below_then BB7.out hb (Nat.le_refl _)); clear hb SP)
      | (go_at_call 11; refine (CN.out _ _ M6.out.holds).mono ?_; rintro e w7 ⟨v33, rfl, h33, hb⟩; have BB7 := Lib.hid (below_then BB6.out hb (Nat.le_refl _)); have K33 := Lib.hid h33; have KP := Lib.hid ((KP.out.still BB6.out).still hb); clear hb h33 CN)
      | (refine step_append_lies _ (by rfl) (.tmp 29) (.tmp 31) _ (by rfl) w4.heap.size 24 i0 _ 6 48 Try.underlying22 HI0.out H0.out H1.out H2.out rfl (by omega) _ X.length _ (by rfl) M5.out ⟨w4.heap.size + 1, 0, none⟩ 1 1 (Ar.cl ⟨a0, a1, a2, a3, a4, a5⟩) (by rfl) rfl LC.out (cl_one _) (by omega) (by simp only [maxLen]; omega) (by omega) (by have := BB5.out.size; simp; omega) _ rfl ?_; intro g2 c2 w6 hown hgrow hat hlt; have M6 : Hid (Mine w4.heap.size w6 (.slice (some ⟨g2, 0, none⟩) (X.length + 1) c2) (X ++ [⟨a0, a1, a2, a3, a4, a5⟩])) := Lib.hid (mine_more (l := X) (l' := [⟨a0, a1, a2, a3, a4, a5⟩]) rfl (by rw [cls_single]; exact hown)); have BB6 := Lib.hid (Below.grown BB5.out hgrow (by have := BB5.out.size; simp; omega) (fun k hk => (M5.out.lt k hk).1)); clear hown hgrow hat hlt)
      | (refine step_append_lies _ (by rfl) (.tmp 29) (.tmp 31) _ (by rfl) w4.heap.size 24 i0 _ 6 48 Try.underlying22 HI0.out H0.out H1.out H2.out rfl (by omega) _ X.length _ (by rfl) M5.out ⟨w4.heap.size, 0, none⟩ 1 1 (Ar.cl ⟨a0, a1, a2, a3, a4, a5⟩) (by rfl) rfl LC3.out (cl_one _) (by omega) (by simp only [maxLen]; omega) (by omega) (by have := BB5.out.size; simp; omega) _ rfl ?_; intro g2 c2 w6 hown hgrow hat hlt; have M6 : Hid (Mine w4.heap.size w6 (.slice (some ⟨g2, 0, none⟩) (X.length + 1) c2) (X ++ [⟨a0, a1, a2, a3, a4, a5⟩])) := Lib.hid (mine_more (l := X) (l' := [⟨a0, a1, a2, a3, a4, a5⟩]) rfl (by rw [cls_single]; exact hown)); have BB6 := Lib.hid (Below.grown BB5.out hgrow (by have := BB5.out.size; simp; omega) (fun k hk => (M5.out.lt k hk).1)); clear hown hgrow hat hlt)
      | (refine step_append_lies _ (by rfl) (.tmp 29) (.tmp 31) _ (by rfl) w4.heap.size 24 i0 _ 6 48 Try.underlying22 HI0.out H0.out H1.out H2.out rfl (by omega) _ X.length _ (by rfl) (World.ownsRow.alloc M5.out (.cells (Ar.cells ⟨a0, a1, a2, a3, a4, a5⟩) 24)) ⟨w5.heap.size, 0, none⟩ 1 1 (Ar.cl ⟨a0, a1, a2, a3, a4, a5⟩) (by rfl) rfl (new6 w5 ⟨a0, a1, a2, a3, a4, a5⟩ 24) (cl_one _) (by omega) (by simp only [maxLen]; omega) (by omega) (by have := BB5.out.size; simp; omega) _ rfl ?_; intro g2 c2 w6 hown hgrow hat hlt; have M6 : Hid (Mine w4.heap.size w6 (.slice (some ⟨g2, 0, none⟩) (X.length + 1) c2) (X ++ [⟨a0, a1, a2, a3, a4, a5⟩])) := Lib.hid (mine_more (l := X) (l' := [⟨a0, a1, a2, a3, a4, a5⟩]) rfl (by rw [cls_single]; exact hown)); have BB6 := Lib.hid (Below.grown (BB5.out.alloc BB5.out.size (.cells (Ar.cells ⟨a0, a1, a2, a3, a4, a5⟩) 24)) hgrow (by have := BB5.out.size; simp; omega) (fun k hk => (M5.out.lt k hk).1)); clear hown hgrow hat hlt)
      | (refine step_append_lies _ (by rfl) (.tmp 27) (.tmp 28) _ (by rfl) w4.heap.size 24 i0 _ 6 48 Try.underlying22 HI0.out H0.out H1.out H2.out rfl (by omega) _ 0 _ (by rfl) (show (w4.drew.alloc (.cells #[] 24)).ownsRow w4.heap.size 24 6 (.slice (some ⟨w4.heap.size, 0, none⟩) 0 0) 0 [] from World.ownsRow_made w4.drew #[] 0 (Nat.le_refl _) (by simp) rfl) ⟨g, 0, none⟩ X.length c5 (cls X) (by rfl) (by rw [cls_len]) (HXC.out _ ((below_drew (Below.refl w4.heap.size w4)).alloc (Nat.le_refl _) (.cells #[] 24))) (cls_one _) (by omega) (by simp only [maxLen]; omega) (by omega) (by simp <;> omega) _ rfl ?_; intro g1 c1 w5 hown hgrow hat hlt; rw [Nat.zero_add] at hown ⊢; have M5 : Hid (Mine w4.heap.size w5 (.slice (some ⟨g1, 0, none⟩) X.length c1) X) := Lib.hid (by unfold Mine; rw [List.nil_append] at hown; exact hown); have BB5 := Lib.hid (Below.grown ((below_drew (Below.refl w4.heap.size w4)).alloc (Nat.le_refl _) (.cells #[] 24)) hgrow (by simp <;> omega) (fun k hk => by have e : w4.heap.size = k := by { simpa [Value.ownBlock] using hk }; omega)); clear hown hgrow hat hlt)
      | (refine step_append_lies _ (by rfl) (.tmp 27) (.tmp 28) _ (by rfl) w4.heap.size 24 i0 _ 6 48 Try.underlying22 HI0.out H0.out H1.out H2.out rfl (by omega) _ 0 _ (by rfl) (World.ownsRow.alloc (show (w4.drew.alloc (.cells #[] 24)).ownsRow w4.heap.size 24 6 (.slice (some ⟨w4.heap.size, 0, none⟩) 0 0) 0 [] from World.ownsRow_made w4.drew #[] 0 (Nat.le_refl _) (by simp) rfl) (.cells (Ar.cells ⟨a0, a1, a2, a3, a4, a5⟩) 24)) ⟨g, 0, none⟩ X.length c5 (cls X) (by rfl) (by rw [cls_len]) (HXC.out _ (((below_drew (Below.refl w4.heap.size w4)).alloc (Nat.le_refl _) (.cells #[] 24)).alloc (by simp) (.cells (Ar.cells ⟨a0, a1, a2, a3, a4, a5⟩) 24))) (cls_one _) (by omega) (by simp only [maxLen]; omega) (by omega) (by simp <;> omega) _ rfl ?_; intro g1 c1 w5 hown hgrow hat hlt; rw [Nat.zero_add] at hown ⊢; have M5 : Hid (Mine w4.heap.size w5 (.slice (some ⟨g1, 0, none⟩) X.length c1) X) := Lib.hid (by unfold Mine; rw [List.nil_append] at hown; exact hown); have BB5 := Lib.hid (Below.grown (((below_drew (Below.refl w4.heap.size w4)).alloc (Nat.le_refl _) (.cells #[] 24)).alloc (by simp) (.cells (Ar.cells ⟨a0, a1, a2, a3, a4, a5⟩) 24)) hgrow (by simp <;> omega) (fun k hk => by have e : w4.heap.size = k := by { simpa [Value.ownBlock] using hk }; omega)); have LC := Lib.hid (lit_far hgrow (b := w4.heap.size + 1) (by simp <;> omega) (by simp [Value.ownBlock]) N2.out); clear hown hgrow hat hlt)
      | (refine step_append_lies _ (by rfl) (.tmp 27) (.tmp 28) _ (by rfl) w4.heap.size 24 i0 _ 6 48 Try.underlying22 HI0.out H0.out H1.out H2.out rfl (by omega) _ 0 _ (by rfl) O3.out ⟨g, 0, none⟩ X.length c5 (cls X) (by rfl) (by rw [cls_len]) (HXC.out _ (((below_drew (Below.refl w4.heap.size w4)).alloc (Nat.le_refl _) (.cells (Ar.cells ⟨a0, a1, a2, a3, a4, a5⟩) 24)).alloc (by simp) (.cells #[] 24))) (cls_one _) (by omega) (by simp only [maxLen]; omega) (by omega) (by simp <;> omega) _ rfl ?_; intro g1 c1 w5 hown hgrow hat hlt; rw [Nat.zero_add] at hown ⊢; have M5 : Hid (Mine w4.heap.size w5 (.slice (some ⟨g1, 0, none⟩) X.length c1) X) := Lib.hid (by unfold Mine; rw [List.nil_append] at hown; exact hown); have BB5 := Lib.hid (Below.grown (((below_drew (Below.refl w4.heap.size w4)).alloc (Nat.le_refl _) (.cells (Ar.cells ⟨a0, a1, a2, a3, a4, a5⟩) 24)).alloc (by simp) (.cells #[] 24)) hgrow (by simp <;> omega) (fun k hk => by have e : w4.heap.size + 1 = k := by { simpa [Value.ownBlock] using hk }; omega)); have LC3 := Lib.hid (lit_far hgrow (b := w4.heap.size) (by simp <;> omega) (by simp [Value.ownBlock]) N3.out); clear hown hgrow hat hlt)
      | fail)
    all_goals (
      go_wp2_with fail
      go_ret
      exact ⟨rfl, below_then G4.out.bel BB8.out (Nat.le_refl _)⟩)
theorem puts_any (l : List Ar) (v : Value) (a : Ar) (w : World) (hA : Holds w v l) :
    Calls Try.prog 7 #[v, a.v] w fun e w' => e = .returned (.bool true) ∧ Below w.heap.size w w' := by
  by_cases hn : l.length ≤ 20
  · by_cases hf : Formed a
    · exact puts_few l v a w hn hA hf
    · exact puts_wrong l v a w hn hA hf
  · obtain ⟨A, c, rfl⟩ : ∃ A c, v = .slice A l.length c := by obtain ⟨A, c, e, _⟩ := hA; exact ⟨A, c, e⟩
    exact puts_many A l.length c a w (by omega)
end Go.Proofs.Yteockpmadpbjiaa
