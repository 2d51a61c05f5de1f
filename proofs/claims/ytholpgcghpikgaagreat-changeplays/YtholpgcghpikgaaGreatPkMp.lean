/-
  Texts of our own, one behind the other (MapPlace, MapKept): what the laws' proofs rest on; each says at its head what it holds. No conditions.
-/
import Derived.Test.YtholpgcghpikgaaGreatPkM
import Derived.Test.YtholpgcghpikgaaGreatPkG
import Derived.Test.YtholpgcghpikgaaGreatPkLa
import Derived.Deep.RegionHeld3
/-
  Layer 10: where something is mapped: a contract for the call.
-/
namespace Go.Proofs.YtholpgcghpikgaaGreat
open Go.ChangeShapes Go.WideShapes Go.ChangeAt Go.RowKit Go.Shelf
set_option linter.unusedVariables false

/-! The place. -/
open Classical in
/-- Where something of a size is mapped, and its error. -/
noncomputable def plR (X : List Ar) (a s f : Int) : Int × Int :=
  if bitF f 1 = true then (if rgE a s ≠ 0 then (0, rgE a s) else if bitF f 2 = true ∧ insideL (rgA a s) (rgB a s) X ≠ [] then (0, 6) else (a, 0))
  else if FitsAt X a s then (a, 0)
  else if bitF f 8 = true then (if (lowOf (roomsL 65536 2097152 s X)).2 then (lowOf (roomsL 65536 2097152 s X)).1 else 0, if (lowOf (roomsL 65536 2097152 s X)).2 then 0 else 5)
  else (if (highOf s (roomsL 65536 2097152 s X)).2 then (highOf s (roomsL 65536 2097152 s X)).1 else 0, if (highOf s (roomsL 65536 2097152 s X)).2 then 0 else 5)

/-- What is answered. -/
def plV (r : Int × Int) : Value := .tuple #[.int .i64 r.1, .int .i64 r.2]

section
variable {w : World} {v : Value} {X : List Ar}
set_option maxHeartbeats 2000000 in
theorem place_wrong (h : Holds w v X) (hl : X.length ≤ 10000) (hX : ¬ MayL X) (a s f : Int) : Calls Tryz.prog 73 #[v, .int .i64 a, .int .i64 s, .int .i64 f] w fun e w' => e = .returned (plV (0, 1)) ∧ Below w.heap.size w w' := by
  have CL := Lib.hid (listE_c h hl)
  unfold liE at CL
  rw [if_neg hX] at CL
  clear hX hl
  obtain ⟨A, c, rfl⟩ := h.is
  clear h
  generalize X.length = n at *
  go_enter Tryz.func73, Tryz.ntmps73
  go_wp2_with fail
  refine CL.out.mono ?_
  rintro e w1 ⟨rfl, hb⟩
  have B := Lib.hid hb
  clear hb CL
  go_wp2_with fail
  go_ret2
  exact ⟨rfl, B.out⟩

set_option maxRecDepth 4000 in
set_option maxHeartbeats 4000000 in
theorem place_range (h : Holds w v X) (hX : MayL X) (a s f : Int) (hs : s ≤ 9223372036854775807) (hf : bitF f 1 = true) (he : rgE a s ≠ 0) : Calls Tryz.prog 73 #[v, .int .i64 a, .int .i64 s, .int .i64 f] w fun e w' => e = .returned (plV (0, rgE a s)) ∧ Below w.heap.size w w' := by
  have CL : Hid (∀ w' u, Holds w' u X → Calls Tryz.prog 42 #[u] w' fun e w'' => e = .returned (.int .i64 0) ∧ Below w'.heap.size w' w'') := Lib.hid (fun w' u h => by
    have := listE_c h (by have := hX.2; omega)
    unfold liE at this
    rwa [if_pos hX] at this)
  have CR := Lib.hid (range_any a s)
  have hXl : X.length ≤ 10000 := by have := hX.2; omega
  have k1 : (bits .and .i64 f 1 != 0) = true := hf
  have he' : (rgE a s != 0) = true := by simpa using he
  generalize rgE a s = er at *
  generalize rgA a s = ra at *
  generalize rgB a s = rb at *
  clear hf
  have KX := Lib.hid h
  have B := Lib.hid (Below.refl w.heap.size w)
  clear hX hXl
  obtain ⟨A, c, rfl⟩ := h.is
  clear h
  generalize hn : X.length = n at *
  clear hn
  go_enter Tryz.func73, Tryz.ntmps73
  go_wp2_with fail
  refine (CL.out _ _ KX.out).mono ?_
  rintro e w1 ⟨rfl, hb⟩
  have B := Lib.hid (below_then B.out hb (Nat.le_refl _))
  have KX := Lib.hid (KX.out.still hb)
  clear hb CL
  go_wp2_with fail
  refine (CR.out _).mono ?_
  rintro e w2 ⟨rfl, hb⟩
  have B := Lib.hid (below_then B.out hb (Nat.le_refl _))
  have KX := Lib.hid (KX.out.still hb)
  clear hb CR
  go_wp2_with fail
  go_ret2
  exact ⟨rfl, B.out⟩

set_option maxRecDepth 4000 in
set_option maxHeartbeats 4000000 in
theorem place_fixed (h : Holds w v X) (hX : MayL X) (a s f : Int) (hs : s ≤ 9223372036854775807) (hf : bitF f 1 = true) (he : rgE a s = 0) (h2 : bitF f 2 = false) : Calls Tryz.prog 73 #[v, .int .i64 a, .int .i64 s, .int .i64 f] w fun e w' => e = .returned (plV (a, 0)) ∧ Below w.heap.size w w' := by
  have CL : Hid (∀ w' u, Holds w' u X → Calls Tryz.prog 42 #[u] w' fun e w'' => e = .returned (.int .i64 0) ∧ Below w'.heap.size w' w'') := Lib.hid (fun w' u h => by
    have := listE_c h (by have := hX.2; omega)
    unfold liE at this
    rwa [if_pos hX] at this)
  have CR := Lib.hid (range_any a s)
  have hXl : X.length ≤ 10000 := by have := hX.2; omega
  have k1 : (bits .and .i64 f 1 != 0) = true := hf
  have k2 : (bits .and .i64 f 2 != 0) = false := h2
  rw [he] at CR
  generalize rgA a s = ra at *
  generalize rgB a s = rb at *
  clear hf h2 he
  have KX := Lib.hid h
  have B := Lib.hid (Below.refl w.heap.size w)
  clear hX hXl
  obtain ⟨A, c, rfl⟩ := h.is
  clear h
  generalize hn : X.length = n at *
  clear hn
  go_enter Tryz.func73, Tryz.ntmps73
  go_wp2_with fail
  refine (CL.out _ _ KX.out).mono ?_
  rintro e w1 ⟨rfl, hb⟩
  have B := Lib.hid (below_then B.out hb (Nat.le_refl _))
  have KX := Lib.hid (KX.out.still hb)
  clear hb CL
  go_wp2_with fail
  refine (CR.out _).mono ?_
  rintro e w2 ⟨rfl, hb⟩
  have B := Lib.hid (below_then B.out hb (Nat.le_refl _))
  have KX := Lib.hid (KX.out.still hb)
  clear hb CR
  go_wp2_with fail
  go_ret2
  exact ⟨rfl, B.out⟩

set_option maxRecDepth 4000 in
set_option maxHeartbeats 4000000 in
theorem place_exists (h : Holds w v X) (hX : MayL X) (a s f : Int) (hs : s ≤ 9223372036854775807) (hf : bitF f 1 = true) (he : rgE a s = 0) (h2 : bitF f 2 = true) (hi : insideL (rgA a s) (rgB a s) X ≠ []) : Calls Tryz.prog 73 #[v, .int .i64 a, .int .i64 s, .int .i64 f] w fun e w' => e = .returned (plV (0, 6)) ∧ Below w.heap.size w w' := by
  have CL : Hid (∀ w' u, Holds w' u X → Calls Tryz.prog 42 #[u] w' fun e w'' => e = .returned (.int .i64 0) ∧ Below w'.heap.size w' w'') := Lib.hid (fun w' u h => by
    have := listE_c h (by have := hX.2; omega)
    unfold liE at this
    rwa [if_pos hX] at this)
  have CR := Lib.hid (range_any a s)
  have hXl : X.length ≤ 10000 := by have := hX.2; omega
  have k1 : (bits .and .i64 f 1 != 0) = true := hf
  have k2 : (bits .and .i64 f 2 != 0) = true := h2
  have CW : Hid (∀ w' u, Holds w' u X → Calls Tryz.prog 105 #[u, .int .i64 (rgA a s), .int .i64 (rgB a s)] w' fun e w'' => ∃ A c, e = .returned (.slice A (insideL (rgA a s) (rgB a s) X).length c) ∧ Below w'.heap.size w' w'') := Lib.hid (fun w' u h => (within_c h hX.1 _ _).mono fun e w'' ⟨v', he, hh, hb⟩ => by
    obtain ⟨A, c, rfl⟩ := hh.is
    exact ⟨A, c, he, hb⟩)
  have hlen : 0 < (insideL (rgA a s) (rgB a s) X).length := List.length_pos_iff.2 hi
  rw [he] at CR
  generalize insideL (rgA a s) (rgB a s) X = I at *
  generalize I.length = m at *
  have hm : (0 : Int) < (m : Int) := by omega
  generalize rgA a s = ra at *
  generalize rgB a s = rb at *
  clear hf h2 he hi hlen
  have KX := Lib.hid h
  have B := Lib.hid (Below.refl w.heap.size w)
  clear hX hXl
  obtain ⟨A, c, rfl⟩ := h.is
  clear h
  generalize hn : X.length = n at *
  clear hn
  go_enter Tryz.func73, Tryz.ntmps73
  go_wp2_with fail
  refine (CL.out _ _ KX.out).mono ?_
  rintro e w1 ⟨rfl, hb⟩
  have B := Lib.hid (below_then B.out hb (Nat.le_refl _))
  have KX := Lib.hid (KX.out.still hb)
  clear hb CL
  go_wp2_with fail
  refine (CR.out _).mono ?_
  rintro e w2 ⟨rfl, hb⟩
  have B := Lib.hid (below_then B.out hb (Nat.le_refl _))
  have KX := Lib.hid (KX.out.still hb)
  clear hb CR
  go_wp2_with fail
  refine (CW.out _ _ KX.out).mono ?_
  rintro e w3 ⟨A3, c3, rfl, hb⟩
  have B := Lib.hid (below_then B.out hb (Nat.le_refl _))
  clear hb CW KX
  go_wp2_with fail
  go_ret2
  exact ⟨rfl, B.out⟩

set_option maxRecDepth 4000 in
set_option maxHeartbeats 4000000 in
theorem place_free (h : Holds w v X) (hX : MayL X) (a s f : Int) (hs : s ≤ 9223372036854775807) (hf : bitF f 1 = true) (he : rgE a s = 0) (h2 : bitF f 2 = true) (hi : insideL (rgA a s) (rgB a s) X = []) : Calls Tryz.prog 73 #[v, .int .i64 a, .int .i64 s, .int .i64 f] w fun e w' => e = .returned (plV (a, 0)) ∧ Below w.heap.size w w' := by
  have CL : Hid (∀ w' u, Holds w' u X → Calls Tryz.prog 42 #[u] w' fun e w'' => e = .returned (.int .i64 0) ∧ Below w'.heap.size w' w'') := Lib.hid (fun w' u h => by
    have := listE_c h (by have := hX.2; omega)
    unfold liE at this
    rwa [if_pos hX] at this)
  have CR := Lib.hid (range_any a s)
  have hXl : X.length ≤ 10000 := by have := hX.2; omega
  have k1 : (bits .and .i64 f 1 != 0) = true := hf
  have k2 : (bits .and .i64 f 2 != 0) = true := h2
  have CW : Hid (∀ w' u, Holds w' u X → Calls Tryz.prog 105 #[u, .int .i64 (rgA a s), .int .i64 (rgB a s)] w' fun e w'' => ∃ A c, e = .returned (.slice A (insideL (rgA a s) (rgB a s) X).length c) ∧ Below w'.heap.size w' w'') := Lib.hid (fun w' u h => (within_c h hX.1 _ _).mono fun e w'' ⟨v', he, hh, hb⟩ => by
    obtain ⟨A, c, rfl⟩ := hh.is
    exact ⟨A, c, he, hb⟩)
  rw [hi] at CW
  simp only [List.length_nil] at CW
  rw [he] at CR
  generalize rgA a s = ra at *
  generalize rgB a s = rb at *
  clear hf h2 he hi
  have KX := Lib.hid h
  have B := Lib.hid (Below.refl w.heap.size w)
  clear hX hXl
  obtain ⟨A, c, rfl⟩ := h.is
  clear h
  generalize hn : X.length = n at *
  clear hn
  go_enter Tryz.func73, Tryz.ntmps73
  go_wp2_with fail
  refine (CL.out _ _ KX.out).mono ?_
  rintro e w1 ⟨rfl, hb⟩
  have B := Lib.hid (below_then B.out hb (Nat.le_refl _))
  have KX := Lib.hid (KX.out.still hb)
  clear hb CL
  go_wp2_with fail
  refine (CR.out _).mono ?_
  rintro e w2 ⟨rfl, hb⟩
  have B := Lib.hid (below_then B.out hb (Nat.le_refl _))
  have KX := Lib.hid (KX.out.still hb)
  clear hb CR
  go_wp2_with fail
  refine (CW.out _ _ KX.out).mono ?_
  rintro e w3 ⟨A3, c3, rfl, hb⟩
  have B := Lib.hid (below_then B.out hb (Nat.le_refl _))
  clear hb CW KX
  go_wp2_with fail
  go_ret2
  exact ⟨rfl, B.out⟩

set_option maxRecDepth 4000 in
set_option maxHeartbeats 4000000 in
theorem place_hint (h : Holds w v X) (hX : MayL X) (a s f : Int) (hs : s ≤ 9223372036854775807) (hf : bitF f 1 = false) (hfit : FitsAt X a s) : Calls Tryz.prog 73 #[v, .int .i64 a, .int .i64 s, .int .i64 f] w fun e w' => e = .returned (plV (a, 0)) ∧ Below w.heap.size w w' := by
  have CL : Hid (∀ w' u, Holds w' u X → Calls Tryz.prog 42 #[u] w' fun e w'' => e = .returned (.int .i64 0) ∧ Below w'.heap.size w' w'') := Lib.hid (fun w' u h => by
    have := listE_c h (by have := hX.2; omega)
    unfold liE at this
    rwa [if_pos hX] at this)
  have CR := Lib.hid (range_any a s)
  have hXl : X.length ≤ 10000 := by have := hX.2; omega
  have k1 : (bits .and .i64 f 1 != 0) = false := hf
  have CF : Hid (∀ w' u, Holds w' u X → Calls Tryz.prog 106 #[u, .int .i64 a, .int .i64 s] w' fun e w'' => e = .returned (.bool true) ∧ Below w'.heap.size w' w'') := Lib.hid (fun w' u h => fits_yes h hXl hfit)
  generalize rgE a s = er at *
  generalize rgA a s = ra at *
  generalize rgB a s = rb at *
  clear hf hfit
  have KX := Lib.hid h
  have B := Lib.hid (Below.refl w.heap.size w)
  clear hX hXl
  obtain ⟨A, c, rfl⟩ := h.is
  clear h
  generalize hn : X.length = n at *
  clear hn
  go_enter Tryz.func73, Tryz.ntmps73
  go_wp2_with fail
  refine (CL.out _ _ KX.out).mono ?_
  rintro e w1 ⟨rfl, hb⟩
  have B := Lib.hid (below_then B.out hb (Nat.le_refl _))
  have KX := Lib.hid (KX.out.still hb)
  clear hb CL
  go_wp2_with fail
  refine (CR.out _).mono ?_
  rintro e w2 ⟨rfl, hb⟩
  have B := Lib.hid (below_then B.out hb (Nat.le_refl _))
  have KX := Lib.hid (KX.out.still hb)
  clear hb CR
  go_wp2_with fail
  refine (CF.out _ _ KX.out).mono ?_
  rintro e w3 ⟨rfl, hb⟩
  have B := Lib.hid (below_then B.out hb (Nat.le_refl _))
  have KX := Lib.hid (KX.out.still hb)
  clear hb CF
  go_wp2_with fail
  go_ret2
  exact ⟨rfl, B.out⟩

set_option maxRecDepth 4000 in
set_option maxHeartbeats 4000000 in
theorem place_low (h : Holds w v X) (hX : MayL X) (a s f : Int) (hs : s ≤ 9223372036854775807) (hf : bitF f 1 = false) (hfit : ¬ FitsAt X a s) (h8 : bitF f 8 = true) : Calls Tryz.prog 73 #[v, .int .i64 a, .int .i64 s, .int .i64 f] w fun e w' => e = .returned (plV (if (lowOf (roomsL 65536 2097152 s X)).2 then (lowOf (roomsL 65536 2097152 s X)).1 else 0, if (lowOf (roomsL 65536 2097152 s X)).2 then 0 else 5)) ∧ Below w.heap.size w w' := by
  have CL : Hid (∀ w' u, Holds w' u X → Calls Tryz.prog 42 #[u] w' fun e w'' => e = .returned (.int .i64 0) ∧ Below w'.heap.size w' w'') := Lib.hid (fun w' u h => by
    have := listE_c h (by have := hX.2; omega)
    unfold liE at this
    rwa [if_pos hX] at this)
  have CR := Lib.hid (range_any a s)
  have hXl : X.length ≤ 10000 := by have := hX.2; omega
  have k1 : (bits .and .i64 f 1 != 0) = false := hf
  have k8 : (bits .and .i64 f 8 != 0) = true := h8
  have CF : Hid (∀ w' u, Holds w' u X → Calls Tryz.prog 106 #[u, .int .i64 a, .int .i64 s] w' fun e w'' => e = .returned (.bool false) ∧ Below w'.heap.size w' w'') := Lib.hid (fun w' u h => fits_no h hXl hfit)
  have CG : Hid (∀ w' u, Holds w' u X → Calls Tryz.prog 108 #[u, .int .i64 65536, .int .i64 2097152, .int .i64 s] w' fun e w'' => e = .returned (.tuple #[.int .i64 (lowOf (roomsL 65536 2097152 s X)).1, .bool (lowOf (roomsL 65536 2097152 s X)).2]) ∧ Below w'.heap.size w' w'') := Lib.hid (fun w' u h => lowest_c h hXl 65536 2097152 s)
  generalize (lowOf (roomsL 65536 2097152 s X)) = r at *
  obtain ⟨r1, r2⟩ := r
  simp only at CG ⊢
  have CD := Lib.hid (found_any r1 r2)
  generalize (if r2 = true then r1 else 0) = x1 at *
  generalize (if r2 = true then (0 : Int) else 5) = x2 at *
  generalize rgE a s = er at *
  generalize rgA a s = ra at *
  generalize rgB a s = rb at *
  clear hf hfit h8
  have KX := Lib.hid h
  have B := Lib.hid (Below.refl w.heap.size w)
  clear hX hXl
  obtain ⟨A, c, rfl⟩ := h.is
  clear h
  generalize hn : X.length = n at *
  clear hn
  go_enter Tryz.func73, Tryz.ntmps73
  go_wp2_with fail
  refine (CL.out _ _ KX.out).mono ?_
  rintro e w1 ⟨rfl, hb⟩
  have B := Lib.hid (below_then B.out hb (Nat.le_refl _))
  have KX := Lib.hid (KX.out.still hb)
  clear hb CL
  go_wp2_with fail
  refine (CR.out _).mono ?_
  rintro e w2 ⟨rfl, hb⟩
  have B := Lib.hid (below_then B.out hb (Nat.le_refl _))
  have KX := Lib.hid (KX.out.still hb)
  clear hb CR
  go_wp2_with fail
  refine (CF.out _ _ KX.out).mono ?_
  rintro e w3 ⟨rfl, hb⟩
  have B := Lib.hid (below_then B.out hb (Nat.le_refl _))
  have KX := Lib.hid (KX.out.still hb)
  clear hb CF
  go_wp2_with fail
  refine (CG.out _ _ KX.out).mono ?_
  rintro e w4 ⟨rfl, hb⟩
  have B := Lib.hid (below_then B.out hb (Nat.le_refl _))
  have KX := Lib.hid (KX.out.still hb)
  clear hb CG
  go_wp2_with fail
  refine (CD.out _).mono ?_
  rintro e w5 ⟨rfl, hb⟩
  have B := Lib.hid (below_then B.out hb (Nat.le_refl _))
  have KX := Lib.hid (KX.out.still hb)
  clear hb CD
  go_wp2_with fail
  go_ret2
  exact ⟨rfl, B.out⟩

set_option maxRecDepth 4000 in
set_option maxHeartbeats 4000000 in
theorem place_high (h : Holds w v X) (hX : MayL X) (a s f : Int) (hs : s ≤ 9223372036854775807) (hf : bitF f 1 = false) (hfit : ¬ FitsAt X a s) (h8 : bitF f 8 = false) : Calls Tryz.prog 73 #[v, .int .i64 a, .int .i64 s, .int .i64 f] w fun e w' => e = .returned (plV (if (highOf s (roomsL 65536 2097152 s X)).2 then (highOf s (roomsL 65536 2097152 s X)).1 else 0, if (highOf s (roomsL 65536 2097152 s X)).2 then 0 else 5)) ∧ Below w.heap.size w w' := by
  have CL : Hid (∀ w' u, Holds w' u X → Calls Tryz.prog 42 #[u] w' fun e w'' => e = .returned (.int .i64 0) ∧ Below w'.heap.size w' w'') := Lib.hid (fun w' u h => by
    have := listE_c h (by have := hX.2; omega)
    unfold liE at this
    rwa [if_pos hX] at this)
  have CR := Lib.hid (range_any a s)
  have hXl : X.length ≤ 10000 := by have := hX.2; omega
  have k1 : (bits .and .i64 f 1 != 0) = false := hf
  have k8 : (bits .and .i64 f 8 != 0) = false := h8
  have CF : Hid (∀ w' u, Holds w' u X → Calls Tryz.prog 106 #[u, .int .i64 a, .int .i64 s] w' fun e w'' => e = .returned (.bool false) ∧ Below w'.heap.size w' w'') := Lib.hid (fun w' u h => fits_no h hXl hfit)
  have CG : Hid (∀ w' u, Holds w' u X → Calls Tryz.prog 109 #[u, .int .i64 65536, .int .i64 2097152, .int .i64 s] w' fun e w'' => e = .returned (.tuple #[.int .i64 (highOf s (roomsL 65536 2097152 s X)).1, .bool (highOf s (roomsL 65536 2097152 s X)).2]) ∧ Below w'.heap.size w' w'') := Lib.hid (fun w' u h => highest_c h hXl 65536 2097152 s hs)
  generalize (highOf s (roomsL 65536 2097152 s X)) = r at *
  obtain ⟨r1, r2⟩ := r
  simp only at CG ⊢
  have CD := Lib.hid (found_any r1 r2)
  generalize (if r2 = true then r1 else 0) = x1 at *
  generalize (if r2 = true then (0 : Int) else 5) = x2 at *
  generalize rgE a s = er at *
  generalize rgA a s = ra at *
  generalize rgB a s = rb at *
  clear hf hfit h8
  have KX := Lib.hid h
  have B := Lib.hid (Below.refl w.heap.size w)
  clear hX hXl
  obtain ⟨A, c, rfl⟩ := h.is
  clear h
  generalize hn : X.length = n at *
  clear hn
  go_enter Tryz.func73, Tryz.ntmps73
  go_wp2_with fail
  refine (CL.out _ _ KX.out).mono ?_
  rintro e w1 ⟨rfl, hb⟩
  have B := Lib.hid (below_then B.out hb (Nat.le_refl _))
  have KX := Lib.hid (KX.out.still hb)
  clear hb CL
  go_wp2_with fail
  refine (CR.out _).mono ?_
  rintro e w2 ⟨rfl, hb⟩
  have B := Lib.hid (below_then B.out hb (Nat.le_refl _))
  have KX := Lib.hid (KX.out.still hb)
  clear hb CR
  go_wp2_with fail
  refine (CF.out _ _ KX.out).mono ?_
  rintro e w3 ⟨rfl, hb⟩
  have B := Lib.hid (below_then B.out hb (Nat.le_refl _))
  have KX := Lib.hid (KX.out.still hb)
  clear hb CF
  go_wp2_with fail
  refine (CG.out _ _ KX.out).mono ?_
  rintro e w4 ⟨rfl, hb⟩
  have B := Lib.hid (below_then B.out hb (Nat.le_refl _))
  have KX := Lib.hid (KX.out.still hb)
  clear hb CG
  go_wp2_with fail
  refine (CD.out _).mono ?_
  rintro e w5 ⟨rfl, hb⟩
  have B := Lib.hid (below_then B.out hb (Nat.le_refl _))
  have KX := Lib.hid (KX.out.still hb)
  clear hb CD
  go_wp2_with fail
  go_ret2
  exact ⟨rfl, B.out⟩

open Classical in
theorem place_c (h : Holds w v X) (hX : MayL X) (a s f : Int) (hs : s ≤ 9223372036854775807) : Calls Tryz.prog 73 #[v, .int .i64 a, .int .i64 s, .int .i64 f] w fun e w' => e = .returned (plV (plR X a s f)) ∧ Below w.heap.size w w' := by
  unfold plR
  cases hf : bitF f 1 with
  | true =>
    rw [if_pos rfl]
    by_cases he : rgE a s = 0
    · rw [if_neg (fun h => h he)]
      cases h2 : bitF f 2 with
      | true =>
        by_cases hi : insideL (rgA a s) (rgB a s) X = []
        · rw [if_neg (fun h => h.2 hi)]; exact place_free h hX a s f hs hf he h2 hi
        · rw [if_pos ⟨rfl, hi⟩]; exact place_exists h hX a s f hs hf he h2 hi
      | false => rw [if_neg (by simp)]; exact place_fixed h hX a s f hs hf he h2
    · rw [if_pos he]; exact place_range h hX a s f hs hf he
  | false =>
    rw [if_neg (by simp)]
    by_cases hfit : FitsAt X a s
    · rw [if_pos hfit]; exact place_hint h hX a s f hs hf hfit
    · rw [if_neg hfit]
      cases h8 : bitF f 8 with
      | true => rw [if_pos rfl]; exact place_low h hX a s f hs hf hfit h8
      | false => rw [if_neg (by simp)]; exact place_high h hX a s f hs hf hfit h8
end

end Go.Proofs.YtholpgcghpikgaaGreat

/-
  Layer 10: what a map asks for: a contract for each call.
-/
namespace Go.Proofs.YtholpgcghpikgaaGreat
open Go.ChangeShapes Go.WideShapes Go.ChangeAt Go.RowKit Go.Shelf
set_option linter.unusedVariables false

/-! What a map asks for. -/
/-- Its place, and the place's error. -/
noncomputable def plE (X : List Ar) (c : Cl) : Int × Int := if MayL X then plR X c.a (szV c.n) c.f else (0, 1)
/-- What is wrong with it, and the area that it asks for. -/
noncomputable def wtE (X : List Ar) (c : Cl) : Int := firstE [liE X, szE c.n, prE c.p, fgE c.f, bkE c.b c.o (szV c.n), (plE X c).2]
noncomputable def wtA (X : List Ar) (c : Cl) : Ar := ⟨(plE X c).1, (plE X c).1 + szV c.n, c.p, bitF c.f 4, c.b, c.o⟩

theorem fits_in {X : List Ar} {a s : Int} (h : FitsAt X a s) : 65536 ≤ a ∧ a % 4096 = 0 ∧ a + s ≤ 2097152 := by
  obtain ⟨h1, h2, h3, g, hg, h4, h5⟩ := h
  have := (gapsL_good g hg).lo; have := (gapsL_good g hg).hi
  omega
open Classical in
/-- A place that is told lies in the space, in whole pages. -/
theorem plR_num {X : List Ar} {a n f : Int} (hn : szE n = 0) (h : (plR X a (szV n) f).2 = 0) : 65536 ≤ (plR X a (szV n) f).1 ∧ (plR X a (szV n) f).1 % 4096 = 0 ∧ (plR X a (szV n) f).1 + szV n ≤ 2097152 := by
  have hs := sz_sz hn
  have hp := sz_pages hn
  unfold plR at h ⊢
  by_cases h1 : bitF f 1 = true
  · rw [if_pos h1] at h ⊢
    by_cases he : rgE a (szV n) = 0
    · rw [if_neg (fun k => k he)] at h ⊢
      by_cases h2 : bitF f 2 = true ∧ insideL (rgA a (szV n)) (rgB a (szV n)) X ≠ []
      · rw [if_pos h2] at h; simp at h
      · rw [if_neg h2]
        have := rg_ok he
        rw [hs.1] at this
        simp only; omega
    · rw [if_pos he] at h; exact absurd h he
  · rw [if_neg h1] at h ⊢
    by_cases hf : FitsAt X a (szV n)
    · rw [if_pos hf]; exact fits_in hf
    · rw [if_neg hf] at h ⊢
      by_cases h8 : bitF f 8 = true
      · rw [if_pos h8] at h ⊢
        rcases low_is X 65536 2097152 (szV n) with ⟨e, _⟩ | ⟨b, e, hb, _⟩
        · rw [e] at h; simp at h
        · rw [e]; simp only [if_true]; exact fits_in hb.1
      · rw [if_neg h8] at h ⊢
        rcases high_is X 65536 2097152 (szV n) with ⟨e, _⟩ | ⟨b, e, hb, _⟩
        · rw [e] at h; simp at h
        · rw [e]; simp only [if_true]; exact fits_in hb.1
structure Asks (X : List Ar) (c : Cl) : Prop where
  may : MayL X
  n : szE c.n = 0
  p : prE c.p = 0
  f : fgE c.f = 0
  b : bkE c.b c.o (szV c.n) = 0
  e : plE X c = plR X c.a (szV c.n) c.f
  pl : (plE X c).2 = 0
theorem wt_zero {X : List Ar} {c : Cl} : wtE X c = 0 ↔ Asks X c := by
  unfold wtE
  rw [first_zero]
  constructor
  · intro h
    have hm : MayL X := by
      have := h (liE X) (by simp)
      unfold liE at this
      by_cases hm : MayL X
      · exact hm
      · rw [if_neg hm] at this; cases this
    exact ⟨hm, h _ (by simp), h _ (by simp), h _ (by simp), h _ (by simp), by unfold plE; rw [if_pos hm], h _ (by simp)⟩
  · rintro ⟨h1, h2, h3, h4, h5, h6, h7⟩ e he
    simp only [List.mem_cons, List.not_mem_nil, or_false] at he
    rcases he with rfl | rfl | rfl | rfl | rfl | rfl
    · unfold liE; rw [if_pos h1]
    · exact h2
    · exact h3
    · exact h4
    · exact h5
    · exact h7
theorem Asks.num {X : List Ar} {c : Cl} (h : Asks X c) : 65536 ≤ (plE X c).1 ∧ (plE X c).1 % 4096 = 0 ∧ (plE X c).1 + szV c.n ≤ 2097152 := by
  have := h.pl
  rw [h.e] at this ⊢
  exact plR_num h.n this
theorem Asks.formed {X : List Ar} {c : Cl} (h : Asks X c) : Formed (wtA X c) := by
  have hp := sz_pages h.n
  have hn := h.num
  have hb := bk_is c.b c.o (szV c.n)
  have hbz := h.b
  have hpr := h.p
  unfold prE at hpr
  refine (formed_iff _).2 ?_
  simp only [wtA]
  by_cases hq : 0 ≤ c.p ∧ c.p ≤ 7
  · omega
  · rw [if_neg hq] at hpr; cases hpr

/-- What is answered: an area and an error. -/
noncomputable def wtV (X : List Ar) (c : Cl) : Value := .tuple #[(if wtE X c = 0 then wtA X c else Ar.nil).v, .int .i64 (wtE X c)]
set_option maxRecDepth 4000 in
set_option maxHeartbeats 8000000 in
theorem wanted_c {w : World} {v : Value} {X : List Ar} (h : Holds w v X) (hl : X.length ≤ 10000) (c : Cl) (ho : i64 c.o) : Calls Tryz.prog 36 #[v, c.v] w fun e w' => e = .returned (wtV X c) ∧ Below w.heap.size w w' := by
  have G := Lib.hid (((Bag.new w).add 38 c.cells).add 52 Ar.nil.cells)
  have KX := Lib.hid (h.still G.out.bel)
  have CS := Lib.hid (size_any c.n)
  have CP : Hid (∀ w' u, Holds w' u X → Calls Tryz.prog 73 #[u, .int .i64 c.a, .int .i64 (szV c.n), .int .i64 c.f] w' fun e w'' => e = .returned (plV (plE X c)) ∧ Below w'.heap.size w' w'') := Lib.hid (fun w' u h => by
    unfold plE
    by_cases hm : MayL X
    · rw [if_pos hm]
      refine place_c h hm _ _ _ ?_
      rcases sz_is c.n with ⟨_, _, h3⟩ | ⟨_, _, h3⟩ | ⟨h1, _, h3⟩ <;> omega
    · rw [if_neg hm]; exact place_wrong h hl hm _ _ _)
  have CL : Hid (∀ w' u, Holds w' u X → Calls Tryz.prog 42 #[u] w' fun e w'' => e = .returned (.int .i64 (liE X)) ∧ Below w'.heap.size w' w'') := Lib.hid (fun w' u h => listE_c h hl)
  have CR := Lib.hid (prot_any c.p)
  have CF := Lib.hid (flagsE_any c.f)
  have hs0 : 0 ≤ szV c.n ∧ szV c.n ≤ 2031616 := by rcases sz_is c.n with ⟨_, _, h3⟩ | ⟨_, _, h3⟩ | ⟨h1, _, h3⟩ <;> omega
  have CB := Lib.hid (backing_any c.b c.o (szV c.n) hs0.1 (by omega) ho)
  have HZ : Hid (wtE X c = 0 → 65536 ≤ (plE X c).1 ∧ (plE X c).1 + szV c.n ≤ 2097152) := Lib.hid (fun h => by have := (wt_zero.1 h).num; omega)
  unfold wtV wtA
  have HE : Hid (firstE [liE X, szE c.n, prE c.p, fgE c.f, bkE c.b c.o (szV c.n), (plE X c).2] = wtE X c) := Lib.hid rfl
  generalize wtE X c = we at *
  generalize plE X c = pl at *
  obtain ⟨p1, p2⟩ := pl
  unfold plV at CP
  simp only at CP HE HZ ⊢
  generalize liE X = le at *
  generalize szE c.n = se at *
  generalize prE c.p = pe at *
  generalize fgE c.f = fe at *
  generalize bkE c.b c.o (szV c.n) = be at *
  generalize szV c.n = sv at *
  obtain ⟨A, cc, rfl⟩ := h.is
  clear h ho hl
  generalize hn : X.length = n at *
  clear hn
  have CO : Hid (∀ W : World, Calls Tryz.prog 41 #[.slice (some ⟨W.heap.size, 0, none⟩) 6 6] (W.alloc (.cells #[.int .i64 le, .int .i64 se, .int .i64 pe, .int .i64 fe, .int .i64 be, .int .i64 p2] 30)) fun e w' => e = .returned (.int .i64 we) ∧ w' = W.alloc (.cells #[.int .i64 le, .int .i64 se, .int .i64 pe, .int .i64 fe, .int .i64 be, .int .i64 p2] 30)) := Lib.hid (fun W => by
    have := or_six W 30 le se pe fe be p2
    rwa [HE.out] at this)
  clear HE
  obtain ⟨ck, ca, cn, cnw, ctw, cp, cf, cb, co⟩ := c
  rw [World.size_alloc] at G
  unfold Cl.v
  simp only [Cl.cells] at *
  go_enter Tryz.func36, Tryz.ntmps36
  go_wp2_with fail
  refine (CS.out _).mono ?_
  rintro e w1 ⟨rfl, hb⟩
  have G := Lib.hid (G.out.still hb)
  have KX := Lib.hid (KX.out.still hb)
  clear hb CS
  obtain ⟨c0, c1, c2, c3, c4, c5, c6, c7, c8⟩ := row9 (c := ⟨ck, ca, cn, cnw, ctw, cp, cf, cb, co⟩) (G.out.v1)
  simp only at c0 c1 c2 c3 c4 c5 c6 c7 c8
  go_wp2_with fail
  refine (CP.out _ _ KX.out).mono ?_
  rintro e w2 ⟨rfl, hb⟩
  have G := Lib.hid (G.out.still hb)
  have KX := Lib.hid ((KX.out.still hb).still (below_drew (Below.refl _ w2)))
  have BB := Lib.hid (below_drew (Below.refl w2.heap.size w2))
  clear hb CP c0 c1 c2 c3 c4 c5 c6 c7 c8
  have HG := Lib.hid (fun W h => G.out.still (w' := W) h)
  have HK : Hid (∀ W, Below w2.heap.size w2 W → (W.cell? ⟨w.heap.size, 5, none⟩ = some (.int .i64 cp) ∧ W.cell? ⟨w.heap.size, 6, none⟩ = some (.int .i64 cf) ∧ W.cell? ⟨w.heap.size, 7, none⟩ = some (.int .i64 cb) ∧ W.cell? ⟨w.heap.size, 8, none⟩ = some (.int .i64 co))) := Lib.hid (fun W h => by
    obtain ⟨c0, c1, c2, c3, c4, c5, c6, c7, c8⟩ := row9 (c := ⟨ck, ca, cn, cnw, ctw, cp, cf, cb, co⟩) ((HG.out W h).v1)
    exact ⟨c5, c6, c7, c8⟩)
  clear G
  go_wp2_with fail
  go_region_held3 (fun W => W.cell? ⟨w.heap.size, 5, none⟩ = some (.int .i64 cp) ∧ W.cell? ⟨w.heap.size, 6, none⟩ = some (.int .i64 cf) ∧ W.cell? ⟨w.heap.size, 7, none⟩ = some (.int .i64 cb) ∧ W.cell? ⟨w.heap.size, 8, none⟩ = some (.int .i64 co))
    (first | exact HK.out _ BB.out | exact HK.out _ (BB.out.alloc BB.out.size _))
    (first
    | (go_at_call 42; refine (CL.out _ _ KX.out).mono ?_; rintro e wn ⟨rfl, hb⟩; have BB := Lib.hid (below_then BB.out hb (Nat.le_refl _)); clear hb CL KX)
    | (go_at_call 74; refine (CR.out _).mono ?_; rintro e wn ⟨rfl, hb⟩; have BB := Lib.hid (below_then BB.out hb (Nat.le_refl _)); clear hb CR)
    | (go_at_call 75; refine (CF.out _).mono ?_; rintro e wn ⟨rfl, hb⟩; have BB := Lib.hid (below_then BB.out hb (Nat.le_refl _)); clear hb CF)
    | (go_at_call 76; refine (CB.out _).mono ?_; rintro e wn ⟨rfl, hb⟩; have BB := Lib.hid (below_then BB.out hb (Nat.le_refl _)); clear hb CB)
    | (go_at_call 41; refine (CO.out _).mono ?_; rintro e wo ⟨rfl, hw⟩; have BB : Hid (Below w2.heap.size w2 wo) := Lib.hid (by rw [hw]; exact BB.out.alloc BB.out.size _); clear hw CO)
    | fail)
  all_goals
    have G := Lib.hid (HG.out _ BB.out)
    obtain ⟨⟨d0, d1, d2, d3, d4, d5⟩, ⟨f0, f1, f2, f3, f4, f5⟩⟩ := six_of (G.out.v0)
    obtain ⟨c5, c6, c7, c8⟩ := HK.out _ BB.out
    by_cases hw : we = 0
    · obtain ⟨z1, z2⟩ := HZ.out hw
      have HR : Hid (∀ (x y : Ar), (if we = 0 then x else y) = x) := Lib.hid (fun x y => if_pos hw)
      subst hw
      clear HZ HK HG
      go_wp2_with fail
      refine bodyPost_ret (results_row_tmp rfl _ _ (w.heap.size + 1) 52 _ (0, 0) _ rfl (six_put G.out.v0 _ _ _ _ _ _) Tryz.underlying52 rfl (by kernel_rfl)) rfl ?_
      exact ⟨(by first | rfl | (rw [HR.out]; rfl)), G.out.bel.trans ((six_only _ (w.heap.size + 1) _ _ _ _ _ _).below (fun k hk => by omega) G.out.bel.size)⟩
    · have hw' : (we != 0) = true := by simpa using hw
      have HR : Hid (∀ (x y : Ar), (if we = 0 then x else y) = y) := Lib.hid (fun x y => if_neg hw)
      clear HZ HK HG
      go_wp2_with fail
      refine bodyPost_ret (results_row_tmp rfl _ _ (w.heap.size + 1) 52 _ (0, 0) _ rfl (six_put G.out.v0 _ _ _ _ _ _) Tryz.underlying52 rfl (by kernel_rfl)) rfl ?_
      exact ⟨(by first | rfl | (rw [HR.out]; rfl)), G.out.bel.trans ((six_only _ (w.heap.size + 1) _ _ _ _ _ _).below (fun k hk => by omega) G.out.bel.size)⟩
end Go.Proofs.YtholpgcghpikgaaGreat
