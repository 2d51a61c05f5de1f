/-
  Texts of our own, one behind the other (RmDo): what the laws' proofs rest on; each says at its head what it holds. No conditions.
-/
import Derived.Test.YtholpgcghpikgaaGreatPkQb
/-
  Layer 12: what is asked, and a remap: a contract for each call.
-/
namespace Go.Proofs.YtholpgcghpikgaaGreat
open Go.ChangeShapes Go.WideShapes Go.ChangeAt Go.RowKit Go.Shelf
set_option linter.unusedVariables false

theorem nineA {w : World} {q : Nat} {t : TypeId} {x0 x1 x2 x3 x4 x5 x6 x7 x8 : Value} (h : Whole w q t #[x0, x1, x2, x3, x4, x5, x6, x7, x8]) : w.cell? ⟨q, 0, none⟩ = some x0 ∧ w.cell? ⟨q, 1, none⟩ = some x1 ∧ w.cell? ⟨q, 2, none⟩ = some x2 ∧ w.cell? ⟨q, 3, none⟩ = some x3 ∧ w.cell? ⟨q, 4, none⟩ = some x4 ∧ w.cell? ⟨q, 5, none⟩ = some x5 ∧ w.cell? ⟨q, 6, none⟩ = some x6 ∧ w.cell? ⟨q, 7, none⟩ = some x7 ∧ w.cell? ⟨q, 8, none⟩ = some x8 :=
  ⟨h.cell 0, h.cell 1, h.cell 2, h.cell 3, h.cell 4, h.cell 5, h.cell 6, h.cell 7, h.cell 8⟩
theorem row10f {w : World} {q : Nat} {t : TypeId} {cs : Array Value} (h : Whole w q t cs) : w.frozen? ⟨q, 0, none⟩ = false ∧ w.frozen? ⟨q, 1, none⟩ = false ∧ w.frozen? ⟨q, 2, none⟩ = false ∧ w.frozen? ⟨q, 3, none⟩ = false ∧ w.frozen? ⟨q, 4, none⟩ = false ∧ w.frozen? ⟨q, 5, none⟩ = false ∧ w.frozen? ⟨q, 6, none⟩ = false ∧ w.frozen? ⟨q, 7, none⟩ = false ∧ w.frozen? ⟨q, 8, none⟩ = false ∧ w.frozen? ⟨q, 9, none⟩ = false :=
  ⟨h.frozen 0, h.frozen 1, h.frozen 2, h.frozen 3, h.frozen 4, h.frozen 5, h.frozen 6, h.frozen 7, h.frozen 8, h.frozen 9⟩
/-- Ten cells are written. -/
def set10 (w : World) (q : Nat) (x0 x1 x2 x3 x4 x5 x6 x7 x8 x9 : Value) : World := (((((((((w.setCell ⟨q, 0, none⟩ x0).setCell ⟨q, 1, none⟩ x1).setCell ⟨q, 2, none⟩ x2).setCell ⟨q, 3, none⟩ x3).setCell ⟨q, 4, none⟩ x4).setCell ⟨q, 5, none⟩ x5).setCell ⟨q, 6, none⟩ x6).setCell ⟨q, 7, none⟩ x7).setCell ⟨q, 8, none⟩ x8).setCell ⟨q, 9, none⟩ x9
theorem ten_put {w : World} {q : Nat} {t : TypeId} {a b c d e f g h i j : Value} (H : Whole w q t #[a, b, c, d, e, f, g, h, i, j]) (x0 x1 x2 x3 x4 x5 x6 x7 x8 x9 : Value) : Whole (set10 w q x0 x1 x2 x3 x4 x5 x6 x7 x8 x9) q t #[x0, x1, x2, x3, x4, x5, x6, x7, x8, x9] := by
  have h0 : Whole (w.setCell ⟨q, 0, none⟩ x0) q t #[x0, b, c, d, e, f, g, h, i, j] := Whole.put H 0 x0
  have h1 : Whole ((w.setCell ⟨q, 0, none⟩ x0).setCell ⟨q, 1, none⟩ x1) q t #[x0, x1, c, d, e, f, g, h, i, j] := Whole.put h0 1 x1
  have h2 : Whole (((w.setCell ⟨q, 0, none⟩ x0).setCell ⟨q, 1, none⟩ x1).setCell ⟨q, 2, none⟩ x2) q t #[x0, x1, x2, d, e, f, g, h, i, j] := Whole.put h1 2 x2
  have h3 : Whole ((((w.setCell ⟨q, 0, none⟩ x0).setCell ⟨q, 1, none⟩ x1).setCell ⟨q, 2, none⟩ x2).setCell ⟨q, 3, none⟩ x3) q t #[x0, x1, x2, x3, e, f, g, h, i, j] := Whole.put h2 3 x3
  have h4 : Whole (((((w.setCell ⟨q, 0, none⟩ x0).setCell ⟨q, 1, none⟩ x1).setCell ⟨q, 2, none⟩ x2).setCell ⟨q, 3, none⟩ x3).setCell ⟨q, 4, none⟩ x4) q t #[x0, x1, x2, x3, x4, f, g, h, i, j] := Whole.put h3 4 x4
  have h5 : Whole ((((((w.setCell ⟨q, 0, none⟩ x0).setCell ⟨q, 1, none⟩ x1).setCell ⟨q, 2, none⟩ x2).setCell ⟨q, 3, none⟩ x3).setCell ⟨q, 4, none⟩ x4).setCell ⟨q, 5, none⟩ x5) q t #[x0, x1, x2, x3, x4, x5, g, h, i, j] := Whole.put h4 5 x5
  have h6 : Whole (((((((w.setCell ⟨q, 0, none⟩ x0).setCell ⟨q, 1, none⟩ x1).setCell ⟨q, 2, none⟩ x2).setCell ⟨q, 3, none⟩ x3).setCell ⟨q, 4, none⟩ x4).setCell ⟨q, 5, none⟩ x5).setCell ⟨q, 6, none⟩ x6) q t #[x0, x1, x2, x3, x4, x5, x6, h, i, j] := Whole.put h5 6 x6
  have h7 : Whole ((((((((w.setCell ⟨q, 0, none⟩ x0).setCell ⟨q, 1, none⟩ x1).setCell ⟨q, 2, none⟩ x2).setCell ⟨q, 3, none⟩ x3).setCell ⟨q, 4, none⟩ x4).setCell ⟨q, 5, none⟩ x5).setCell ⟨q, 6, none⟩ x6).setCell ⟨q, 7, none⟩ x7) q t #[x0, x1, x2, x3, x4, x5, x6, x7, i, j] := Whole.put h6 7 x7
  have h8 : Whole (((((((((w.setCell ⟨q, 0, none⟩ x0).setCell ⟨q, 1, none⟩ x1).setCell ⟨q, 2, none⟩ x2).setCell ⟨q, 3, none⟩ x3).setCell ⟨q, 4, none⟩ x4).setCell ⟨q, 5, none⟩ x5).setCell ⟨q, 6, none⟩ x6).setCell ⟨q, 7, none⟩ x7).setCell ⟨q, 8, none⟩ x8) q t #[x0, x1, x2, x3, x4, x5, x6, x7, x8, j] := Whole.put h7 8 x8
  have h9 : Whole ((((((((((w.setCell ⟨q, 0, none⟩ x0).setCell ⟨q, 1, none⟩ x1).setCell ⟨q, 2, none⟩ x2).setCell ⟨q, 3, none⟩ x3).setCell ⟨q, 4, none⟩ x4).setCell ⟨q, 5, none⟩ x5).setCell ⟨q, 6, none⟩ x6).setCell ⟨q, 7, none⟩ x7).setCell ⟨q, 8, none⟩ x8).setCell ⟨q, 9, none⟩ x9) q t #[x0, x1, x2, x3, x4, x5, x6, x7, x8, x9] := Whole.put h8 9 x9
  exact h9
theorem ten_only (w : World) (q : Nat) (x0 x1 x2 x3 x4 x5 x6 x7 x8 x9 : Value) : Only (fun k => k = q) w (set10 w q x0 x1 x2 x3 x4 x5 x6 x7 x8 x9) :=
  ((((((((((Only.refl (fun k => k = q) w).setCell (p := ⟨q, 0, none⟩) (.inl rfl) _).setCell (p := ⟨q, 1, none⟩) (.inl rfl) _).setCell (p := ⟨q, 2, none⟩) (.inl rfl) _).setCell (p := ⟨q, 3, none⟩) (.inl rfl) _).setCell (p := ⟨q, 4, none⟩) (.inl rfl) _).setCell (p := ⟨q, 5, none⟩) (.inl rfl) _).setCell (p := ⟨q, 6, none⟩) (.inl rfl) _).setCell (p := ⟨q, 7, none⟩) (.inl rfl) _).setCell (p := ⟨q, 8, none⟩) (.inl rfl) _).setCell (p := ⟨q, 9, none⟩) (.inl rfl) _

section
variable {w : World} {v : Value} {X : List Ar}
set_option maxRecDepth 4000 in
set_option maxHeartbeats 8000000 in
theorem ask_err (h : Holds w v X) (hl : X.length ≤ 10000) (c : Cl) (he : rmE X c ≠ 0) : Calls Tryz.prog 81 #[v, c.v] w fun e w' => e = .returned (.tuple #[.agg #[.slice none 0 0, .int .i64 0, .int .i64 0, .int .i64 0, .bool false, .int .i64 0, .int .i64 0, .int .i64 0, .int .i64 0, .int .i64 0], .int .i64 (rmE X c)]) ∧ Below w.heap.size w w' := by
  have G := Lib.hid (((Bag.new w).add 38 c.cells).add 111 #[.slice none 0 0, .int .i64 0, .int .i64 0, .int .i64 0, .bool false, .int .i64 0, .int .i64 0, .int .i64 0, .int .i64 0, .int .i64 0])
  rw [World.size_alloc] at G
  have KX := Lib.hid (h.still G.out.bel)
  have CR := Lib.hid (range_any c.a c.n)
  have CZ := Lib.hid (size_any c.nw)
  have CF : Hid (∀ w' u, Holds w' u X → Calls Tryz.prog 49 #[u, .int .i64 (rgA c.a c.n)] w' fun e w'' => e = .returned (.tuple #[(fnA X (rgA c.a c.n)).v, .bool (fnO X (rgA c.a c.n)).isSome]) ∧ Below w'.heap.size w' w'') := Lib.hid (fun w' u h => rfind_c h hl _)
  have CL : Hid (∀ w' u, Holds w' u X → Calls Tryz.prog 118 #[u] w' fun e w'' => e = .returned (.int .i64 (liE X)) ∧ Below w'.heap.size w' w'') := Lib.hid (fun w' u h => rlistE_c h hl)
  have CG := Lib.hid (flags_any c.f 49)
  have CM := Lib.hid (moveE_any c.f)
  have CS := Lib.hid (sameE_any c.f (rgB c.a c.n - rgA c.a c.n) (szV c.nw))
  have CW := Lib.hid (wholeE_any (fnA X (rgA c.a c.n)) (rgB c.a c.n))
  have hw : IntKind.i64.wrap (rgB c.a c.n - rgA c.a c.n) = rgB c.a c.n - rgA c.a c.n := by
    have : 0 ≤ rgA c.a c.n ∧ rgA c.a c.n ≤ 2097152 ∧ 0 ≤ rgB c.a c.n ∧ rgB c.a c.n ≤ 2097152 := by
      by_cases hr : rgE c.a c.n = 0
      · have h1 := rg_ok hr
        have h2 := sz_pages h1.2.1
        omega
      · have h1 := rg_err hr
        omega
    rw [IntKind.wrap_i64]; omega
  have HE : Hid (firstE [liE X, flE c.f 49, mvE c.f, rgE c.a c.n, szE c.nw, smE c.f (rgB c.a c.n - rgA c.a c.n) (szV c.nw), whE (fnA X (rgA c.a c.n)) (rgB c.a c.n)] = rmE X c) := Lib.hid rfl
  generalize rmE X c = ee at *
  have he' : (ee != 0) = true := by simpa using he
  generalize liE X = le at *
  generalize flE c.f 49 = fe at *
  generalize mvE c.f = me at *
  generalize smE c.f (rgB c.a c.n - rgA c.a c.n) (szV c.nw) = sm at *
  generalize whE (fnA X (rgA c.a c.n)) (rgB c.a c.n) = we at *
  generalize rgE c.a c.n = re at *
  generalize szE c.nw = se at *
  generalize szV c.nw = sv at *
  generalize (fnO X (rgA c.a c.n)).isSome = ok at *
  generalize fnA X (rgA c.a c.n) = a at *
  obtain ⟨a0, a1, a2, a3, a4, a5⟩ := a
  simp only [Ar.v] at CF CW
  generalize rgA c.a c.n = ra at *
  generalize rgB c.a c.n = rb at *
  have CO : Hid (∀ W : World, Calls Tryz.prog 41 #[.slice (some ⟨W.heap.size, 0, none⟩) 7 7] (W.alloc (.cells #[.int .i64 le, .int .i64 fe, .int .i64 me, .int .i64 re, .int .i64 se, .int .i64 sm, .int .i64 we] 30)) fun e w' => e = .returned (.int .i64 ee) ∧ w' = W.alloc (.cells #[.int .i64 le, .int .i64 fe, .int .i64 me, .int .i64 re, .int .i64 se, .int .i64 sm, .int .i64 we] 30)) := Lib.hid (fun W => by
    have := or_seven W 30 le fe me re se sm we
    rwa [HE.out] at this)
  clear HE
  obtain ⟨A, cc, rfl⟩ := h.is
  clear h hl
  generalize hn : X.length = n at *
  clear hn
  obtain ⟨ck, ca, cn, cnw, ctw, cp, cf, cb, co⟩ := c
  unfold Cl.v
  simp only [Cl.cells] at *
  go_enter Tryz.func81, Tryz.ntmps81
  obtain ⟨c0, c1, c2, c3, c4, c5, c6, c7, c8⟩ := nineA G.out.v1
  go_wp2_with fail
  refine (CR.out _).mono ?_
  rintro e w1 ⟨rfl, hb⟩
  have G := Lib.hid (G.out.still hb)
  have KX := Lib.hid (KX.out.still hb)
  clear hb CR c0 c1 c2 c3 c4 c5 c6 c7 c8
  obtain ⟨c0, c1, c2, c3, c4, c5, c6, c7, c8⟩ := nineA G.out.v1
  go_wp2_with fail
  refine (CZ.out _).mono ?_
  rintro e w2 ⟨rfl, hb⟩
  have G := Lib.hid (G.out.still hb)
  have KX := Lib.hid (KX.out.still hb)
  clear hb CZ c0 c1 c2 c3 c4 c5 c6 c7 c8
  go_wp2_with fail
  refine (CF.out _ _ KX.out).mono ?_
  rintro e w3 ⟨rfl, hb⟩
  have G := Lib.hid ((G.out.still hb).add 52 #[.int .i64 a0, .int .i64 a1, .int .i64 a2, .bool a3, .int .i64 a4, .int .i64 a5])
  have KX := Lib.hid ((KX.out.still hb).still (below_new w3 (.cells #[.int .i64 a0, .int .i64 a1, .int .i64 a2, .bool a3, .int .i64 a4, .int .i64 a5] 52)))
  clear hb CF
  go_upto_region 4 with (fail)
  generalize hw4 : World.alloc w3 _ = w4 at *
  clear hw4
  generalize w3.heap.size = q at *
  have BB := Lib.hid (below_drew (Below.refl w4.heap.size w4))
  have KX := Lib.hid (KX.out.still (below_drew (Below.refl _ w4)))
  have HG := Lib.hid (fun W h => G.out.still (w' := W) h)
  have HK : Hid (∀ W, Below w4.heap.size w4 W → (W.cell? ⟨w.heap.size, 6, none⟩ = some (.int .i64 cf) ∧ (W.cell? ⟨q, 0, none⟩ = some (.int .i64 a0) ∧ W.cell? ⟨q, 1, none⟩ = some (.int .i64 a1) ∧ W.cell? ⟨q, 2, none⟩ = some (.int .i64 a2) ∧ W.cell? ⟨q, 3, none⟩ = some (.bool a3) ∧ W.cell? ⟨q, 4, none⟩ = some (.int .i64 a4) ∧ W.cell? ⟨q, 5, none⟩ = some (.int .i64 a5)))) := Lib.hid (fun W h => ⟨(HG.out W h).v2.cell 6, row6 (HG.out W h).v0⟩)
  clear G
  go_region_held3 (fun W => W.cell? ⟨w.heap.size, 6, none⟩ = some (.int .i64 cf) ∧ (W.cell? ⟨q, 0, none⟩ = some (.int .i64 a0) ∧ W.cell? ⟨q, 1, none⟩ = some (.int .i64 a1) ∧ W.cell? ⟨q, 2, none⟩ = some (.int .i64 a2) ∧ W.cell? ⟨q, 3, none⟩ = some (.bool a3) ∧ W.cell? ⟨q, 4, none⟩ = some (.int .i64 a4) ∧ W.cell? ⟨q, 5, none⟩ = some (.int .i64 a5)))
    (first | with_reducible exact HK.out _ BB.out | with_reducible exact HK.out _ (BB.out.alloc BB.out.size _))
    (first
    | (go_at_call 118; refine (CL.out _ _ KX.out).mono ?_; rintro e wn ⟨rfl, hb⟩; have BB := Lib.hid (below_then BB.out hb (Nat.le_refl _)); have KX := Lib.hid (KX.out.still hb); clear hb CL)
    | (go_at_call 110; refine (CG.out _).mono ?_; rintro e wn ⟨rfl, hb⟩; have BB := Lib.hid (below_then BB.out hb (Nat.le_refl _)); have KX := Lib.hid (KX.out.still hb); clear hb CG)
    | (go_at_call 119; refine (CM.out _).mono ?_; rintro e wn ⟨rfl, hb⟩; have BB := Lib.hid (below_then BB.out hb (Nat.le_refl _)); have KX := Lib.hid (KX.out.still hb); clear hb CM)
    | (go_at_call 120; refine (CS.out _).mono ?_; rintro e wn ⟨rfl, hb⟩; have BB := Lib.hid (below_then BB.out hb (Nat.le_refl _)); have KX := Lib.hid (KX.out.still hb); clear hb CS)
    | (go_at_call 121; refine (CW.out _).mono ?_; rintro e wn ⟨rfl, hb⟩; have BB := Lib.hid (below_then BB.out hb (Nat.le_refl _)); have KX := Lib.hid (KX.out.still hb); clear hb CW)
    | (go_at_call 41; refine (CO.out _).mono ?_; rintro e wo ⟨rfl, hw⟩; have BN : Hid (Below _ _ wo) := Lib.hid (by rw [hw]; exact below_new _ _); have BB := Lib.hid (below_then BB.out BN.out (Nat.le_refl _)); have KX := Lib.hid (KX.out.still BN.out); clear hw CO BN)
    | fail)
  all_goals
    have G := Lib.hid (HG.out _ BB.out)
    clear HG HK BB
    obtain ⟨d0, d1, d2, d3, d4, d5, d6, d7, d8, d9⟩ := row10 G.out.v1
    obtain ⟨f0, f1, f2, f3, f4, f5, f6, f7, f8, f9⟩ := row10f G.out.v1
    go_wp2_with fail
    refine bodyPost_ret (results_row_tmp rfl _ _ (w.heap.size + 1) 111 _ (0, 0) _ rfl (ten_put G.out.v1 _ _ _ _ _ _ _ _ _ _) Tryz.underlying111 rfl (by kernel_rfl)) rfl ?_
    exact ⟨rfl, G.out.bel.trans ((ten_only _ (w.heap.size + 1) _ _ _ _ _ _ _ _ _ _).below (fun k hk => by omega) G.out.bel.size)⟩

set_option maxRecDepth 4000 in
set_option maxHeartbeats 8000000 in
theorem ask_ok (h : Holds w v X) (hl : X.length ≤ 10000) (c : Cl) (he : rmE X c = 0) : Calls Tryz.prog 81 #[v, c.v] w fun e w' => e = .returned (.tuple #[(rmK X c).v v, .int .i64 0]) ∧ Below w.heap.size w w' := by
  have G := Lib.hid (((Bag.new w).add 38 c.cells).add 111 #[.slice none 0 0, .int .i64 0, .int .i64 0, .int .i64 0, .bool false, .int .i64 0, .int .i64 0, .int .i64 0, .int .i64 0, .int .i64 0])
  rw [World.size_alloc] at G
  have KX := Lib.hid (h.still G.out.bel)
  have CR := Lib.hid (range_any c.a c.n)
  have CZ := Lib.hid (size_any c.nw)
  have CF : Hid (∀ w' u, Holds w' u X → Calls Tryz.prog 49 #[u, .int .i64 (rgA c.a c.n)] w' fun e w'' => e = .returned (.tuple #[(fnA X (rgA c.a c.n)).v, .bool (fnO X (rgA c.a c.n)).isSome]) ∧ Below w'.heap.size w' w'') := Lib.hid (fun w' u h => rfind_c h hl _)
  have CL : Hid (∀ w' u, Holds w' u X → Calls Tryz.prog 118 #[u] w' fun e w'' => e = .returned (.int .i64 (liE X)) ∧ Below w'.heap.size w' w'') := Lib.hid (fun w' u h => rlistE_c h hl)
  have CG := Lib.hid (flags_any c.f 49)
  have CM := Lib.hid (moveE_any c.f)
  have CS := Lib.hid (sameE_any c.f (rgB c.a c.n - rgA c.a c.n) (szV c.nw))
  have CW := Lib.hid (wholeE_any (fnA X (rgA c.a c.n)) (rgB c.a c.n))
  have hw : IntKind.i64.wrap (rgB c.a c.n - rgA c.a c.n) = rgB c.a c.n - rgA c.a c.n := by
    have : 0 ≤ rgA c.a c.n ∧ rgA c.a c.n ≤ 2097152 ∧ 0 ≤ rgB c.a c.n ∧ rgB c.a c.n ≤ 2097152 := by
      by_cases hr : rgE c.a c.n = 0
      · have h1 := rg_ok hr
        have h2 := sz_pages h1.2.1
        omega
      · have h1 := rg_err hr
        omega
    rw [IntKind.wrap_i64]; omega
  have HE : Hid (firstE [liE X, flE c.f 49, mvE c.f, rgE c.a c.n, szE c.nw, smE c.f (rgB c.a c.n - rgA c.a c.n) (szV c.nw), whE (fnA X (rgA c.a c.n)) (rgB c.a c.n)] = rmE X c) := Lib.hid rfl
  have CP : Hid (Says 114 #[(fnA X (rgA c.a c.n)).v, .int .i64 (rgA c.a c.n), .int .i64 (rgB c.a c.n)] (.tuple #[(rmK X c).o.v, .bool true])) := Lib.hid (by
    obtain ⟨b, hb⟩ := rm_zero.1 he
    have := part_any (fnA X (rgA c.a c.n)) (rgA c.a c.n) (rgB c.a c.n)
    rwa [if_pos (by rw [hb.fn]; exact hb.part.1)] at this)
  have KZ : Hid ((rmK X c).z = szV c.nw ∧ (rmK X c).t = c.tw ∧ (rmK X c).f = c.f) := Lib.hid ⟨rfl, rfl, rfl⟩
  rw [he] at HE
  clear he
  generalize rmK X c = K at *
  obtain ⟨_, ⟨o0, o1, o2, o3, o4, o5⟩, kz, kt, kf⟩ := K
  have KZ1 := KZ.out.1
  have KZ2 := KZ.out.2.1
  have KZ3 := KZ.out.2.2
  simp only at KZ1 KZ2 KZ3
  subst KZ1 KZ2 KZ3
  unfold Ask.v Ask.cells
  simp only [Ar.v] at CP ⊢
  clear KZ
  generalize liE X = le at *
  generalize flE c.f 49 = fe at *
  generalize mvE c.f = me at *
  generalize smE c.f (rgB c.a c.n - rgA c.a c.n) (szV c.nw) = sm at *
  generalize whE (fnA X (rgA c.a c.n)) (rgB c.a c.n) = we at *
  generalize rgE c.a c.n = re at *
  generalize szE c.nw = se at *
  generalize szV c.nw = sv at *
  generalize (fnO X (rgA c.a c.n)).isSome = ok at *
  generalize fnA X (rgA c.a c.n) = a at *
  obtain ⟨a0, a1, a2, a3, a4, a5⟩ := a
  simp only [Ar.v] at CF CW CP
  generalize rgA c.a c.n = ra at *
  generalize rgB c.a c.n = rb at *
  have CO : Hid (∀ W : World, Calls Tryz.prog 41 #[.slice (some ⟨W.heap.size, 0, none⟩) 7 7] (W.alloc (.cells #[.int .i64 le, .int .i64 fe, .int .i64 me, .int .i64 re, .int .i64 se, .int .i64 sm, .int .i64 we] 30)) fun e w' => e = .returned (.int .i64 0) ∧ w' = W.alloc (.cells #[.int .i64 le, .int .i64 fe, .int .i64 me, .int .i64 re, .int .i64 se, .int .i64 sm, .int .i64 we] 30)) := Lib.hid (fun W => by
    have := or_seven W 30 le fe me re se sm we
    rwa [HE.out] at this)
  clear HE
  obtain ⟨A, cc, rfl⟩ := h.is
  clear h hl
  generalize hn : X.length = n at *
  clear hn
  obtain ⟨ck, ca, cn, cnw, ctw, cp, cf, cb, co⟩ := c
  unfold Cl.v
  simp only [Cl.cells] at *
  go_enter Tryz.func81, Tryz.ntmps81
  obtain ⟨c0, c1, c2, c3, c4, c5, c6, c7, c8⟩ := nineA G.out.v1
  go_wp2_with fail
  refine (CR.out _).mono ?_
  rintro e w1 ⟨rfl, hb⟩
  have G := Lib.hid (G.out.still hb)
  have KX := Lib.hid (KX.out.still hb)
  clear hb CR c0 c1 c2 c3 c4 c5 c6 c7 c8
  obtain ⟨c0, c1, c2, c3, c4, c5, c6, c7, c8⟩ := nineA G.out.v1
  go_wp2_with fail
  refine (CZ.out _).mono ?_
  rintro e w2 ⟨rfl, hb⟩
  have G := Lib.hid (G.out.still hb)
  have KX := Lib.hid (KX.out.still hb)
  clear hb CZ c0 c1 c2 c3 c4 c5 c6 c7 c8
  go_wp2_with fail
  refine (CF.out _ _ KX.out).mono ?_
  rintro e w3 ⟨rfl, hb⟩
  have G := Lib.hid ((G.out.still hb).add 52 #[.int .i64 a0, .int .i64 a1, .int .i64 a2, .bool a3, .int .i64 a4, .int .i64 a5])
  have KX := Lib.hid ((KX.out.still hb).still (below_new w3 (.cells #[.int .i64 a0, .int .i64 a1, .int .i64 a2, .bool a3, .int .i64 a4, .int .i64 a5] 52)))
  clear hb CF
  go_upto_region 4 with (fail)
  generalize hw4 : World.alloc w3 _ = w4 at *
  clear hw4
  generalize w3.heap.size = q at *
  have BB := Lib.hid (below_drew (Below.refl w4.heap.size w4))
  have KX := Lib.hid (KX.out.still (below_drew (Below.refl _ w4)))
  have HG := Lib.hid (fun W h => G.out.still (w' := W) h)
  have HK : Hid (∀ W, Below w4.heap.size w4 W → (W.cell? ⟨w.heap.size, 6, none⟩ = some (.int .i64 cf) ∧ (W.cell? ⟨q, 0, none⟩ = some (.int .i64 a0) ∧ W.cell? ⟨q, 1, none⟩ = some (.int .i64 a1) ∧ W.cell? ⟨q, 2, none⟩ = some (.int .i64 a2) ∧ W.cell? ⟨q, 3, none⟩ = some (.bool a3) ∧ W.cell? ⟨q, 4, none⟩ = some (.int .i64 a4) ∧ W.cell? ⟨q, 5, none⟩ = some (.int .i64 a5)))) := Lib.hid (fun W h => ⟨(HG.out W h).v2.cell 6, row6 (HG.out W h).v0⟩)
  clear G
  go_region_held3 (fun W => W.cell? ⟨w.heap.size, 6, none⟩ = some (.int .i64 cf) ∧ (W.cell? ⟨q, 0, none⟩ = some (.int .i64 a0) ∧ W.cell? ⟨q, 1, none⟩ = some (.int .i64 a1) ∧ W.cell? ⟨q, 2, none⟩ = some (.int .i64 a2) ∧ W.cell? ⟨q, 3, none⟩ = some (.bool a3) ∧ W.cell? ⟨q, 4, none⟩ = some (.int .i64 a4) ∧ W.cell? ⟨q, 5, none⟩ = some (.int .i64 a5)))
    (first | with_reducible exact HK.out _ BB.out | with_reducible exact HK.out _ (BB.out.alloc BB.out.size _))
    (first
    | (go_at_call 118; refine (CL.out _ _ KX.out).mono ?_; rintro e wn ⟨rfl, hb⟩; have BB := Lib.hid (below_then BB.out hb (Nat.le_refl _)); have KX := Lib.hid (KX.out.still hb); clear hb CL)
    | (go_at_call 110; refine (CG.out _).mono ?_; rintro e wn ⟨rfl, hb⟩; have BB := Lib.hid (below_then BB.out hb (Nat.le_refl _)); have KX := Lib.hid (KX.out.still hb); clear hb CG)
    | (go_at_call 119; refine (CM.out _).mono ?_; rintro e wn ⟨rfl, hb⟩; have BB := Lib.hid (below_then BB.out hb (Nat.le_refl _)); have KX := Lib.hid (KX.out.still hb); clear hb CM)
    | (go_at_call 120; refine (CS.out _).mono ?_; rintro e wn ⟨rfl, hb⟩; have BB := Lib.hid (below_then BB.out hb (Nat.le_refl _)); have KX := Lib.hid (KX.out.still hb); clear hb CS)
    | (go_at_call 121; refine (CW.out _).mono ?_; rintro e wn ⟨rfl, hb⟩; have BB := Lib.hid (below_then BB.out hb (Nat.le_refl _)); have KX := Lib.hid (KX.out.still hb); clear hb CW)
    | (go_at_call 41; refine (CO.out _).mono ?_; rintro e wo ⟨rfl, hw⟩; have BN : Hid (Below _ _ wo) := Lib.hid (by rw [hw]; exact below_new _ _); have BB := Lib.hid (below_then BB.out BN.out (Nat.le_refl _)); have KX := Lib.hid (KX.out.still BN.out); clear hw CO BN)
    | fail)
  all_goals
    have G := Lib.hid (HG.out _ BB.out)
    clear HG HK BB
    obtain ⟨d0, d1, d2, d3, d4, d5⟩ := row6 G.out.v0
    go_wp2_with fail
    refine (CP.out _).mono ?_
    rintro e w5 ⟨rfl, hb⟩
    have G := Lib.hid ((G.out.still hb).add 52 #[.int .i64 o0, .int .i64 o1, .int .i64 o2, .bool o3, .int .i64 o4, .int .i64 o5])
    clear hb CP d0 d1 d2 d3 d4 d5
    obtain ⟨d0, d1, d2, d3, d4, d5⟩ := row6 G.out.v0
    obtain ⟨c0, c1, c2, c3, c4, c5, c6, c7, c8⟩ := nineA G.out.v3
    obtain ⟨g0, g1, g2, g3, g4, g5, g6, g7, g8, g9⟩ := row10 G.out.v2
    obtain ⟨f0, f1, f2, f3, f4, f5, f6, f7, f8, f9⟩ := row10f G.out.v2
    go_upto_region 8 with (fail)
    generalize hw6 : World.alloc w5 _ = w6 at *
    clear hw6
    generalize w5.heap.size = q2 at *
    go_wp2_with fail
    refine bodyPost_ret (results_row_tmp rfl _ _ (w.heap.size + 1) 111 _ (0, 0) _ rfl (ten_put G.out.v2 _ _ _ _ _ _ _ _ _ _) Tryz.underlying111 rfl (by kernel_rfl)) rfl ?_
    exact ⟨rfl, G.out.bel.trans ((ten_only _ (w.heap.size + 1) _ _ _ _ _ _ _ _ _ _).below (fun k hk => by omega) G.out.bel.size)⟩

end
end Go.Proofs.YtholpgcghpikgaaGreat
