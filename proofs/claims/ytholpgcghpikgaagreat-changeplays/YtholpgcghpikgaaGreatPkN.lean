/-
  Texts of our own, one behind the other (MapDo, MapLaw, MapPure): what the laws' proofs rest on; each says at its head what it holds. No conditions.
-/
import Derived.Test.YtholpgcghpikgaaGreatPkMp
import Derived.Test.YtholpgcghpikgaaGreatPkLc
import Derived.Test.YtholpgcghpikgaaGreatPkB
/-
  Layer 10: mapping and unmapping: a contract for each call.
-/
namespace Go.Proofs.YtholpgcghpikgaaGreat
open Go.ChangeShapes Go.WideShapes Go.ChangeAt Go.RowKit Go.Shelf
set_option linter.unusedVariables false
attribute [local go_sem ↓] Go.wp_at_zero Go.wp_at_succ

/-- What a map comes to: the list, the error, the value. -/
noncomputable def mapR (X : List Ar) (c : Cl) : List Ar × Int × Int :=
  if wtE X c = 0 then (if (putC X (wtA X c)).length ≤ 24 then (putC X (wtA X c), 0, (wtA X c).s) else (X, 9, 0)) else (X, wtE X c, 0)
/-- What is wrong with an unmap. -/
def umE (X : List Ar) (c : Cl) : Int := firstE [liE X, rgE c.a c.n]
/-- What an unmap comes to. -/
def umR (X : List Ar) (c : Cl) : List Ar × Int × Int :=
  if umE X c = 0 then (if (outsideL (rgA c.a c.n) (rgB c.a c.n) X).length ≤ 24 then (outsideL (rgA c.a c.n) (rgB c.a c.n) X, 0, 0) else (X, 9, 0)) else (X, umE X c, 0)

theorem um_zero {X : List Ar} {c : Cl} : umE X c = 0 ↔ MayL X ∧ rgE c.a c.n = 0 := by
  unfold umE
  rw [first_zero]
  unfold liE
  by_cases hm : MayL X
  · simp [hm]
  · simp [hm]

section
variable {w : World} {v : Value} {X : List Ar}
set_option maxRecDepth 4000 in
set_option maxHeartbeats 4000000 in
theorem map_err (h : Holds w v X) (hl : X.length ≤ 10000) (c : Cl) (ho : i64 c.o) (he : wtE X c ≠ 0) : Calls Tryz.prog 19 #[v, c.v] w (Gives w X (wtE X c) 0) := by
  have G := Lib.hid (((Bag.new w).add 38 c.cells).add 34 (ansC 0 0))
  rw [World.size_alloc] at G
  have KX := Lib.hid (h.still G.out.bel)
  have CW : Hid (∀ w' u, Holds w' u X → Calls Tryz.prog 36 #[u, c.v] w' fun e w'' => e = .returned (.tuple #[Ar.nil.v, .int .i64 (wtE X c)]) ∧ Below w'.heap.size w' w'') := Lib.hid (fun w' u h => by
    have := wanted_c h hl c ho
    unfold wtV at this
    rwa [if_neg he] at this)
  have CC : Hid (∀ w' u, Holds w' u X → Calls Tryz.prog 37 #[u, .int .i64 (wtE X c)] w' (Gives w' X (wtE X c) 0)) := Lib.hid (fun w' u h => refused_c h hl _)
  generalize wtE X c = we at *
  have hw' : (we != 0) = true := by simpa using he
  obtain ⟨A, cc, rfl⟩ := h.is
  clear h ho hl
  generalize hn : X.length = n at *
  clear hn
  obtain ⟨ck, ca, cn, cnw, ctw, cp, cf, cb, co⟩ := c
  unfold Cl.v at *
  simp only [Cl.cells] at *
  go_enter Tryz.func19, Tryz.ntmps19
  go_wp2_with fail
  refine (CW.out _ _ KX.out).mono ?_
  rintro e w1 ⟨rfl, hb⟩
  have G := Lib.hid ((G.out.still hb).add 52 Ar.nil.cells)
  have KX := Lib.hid ((KX.out.still hb).still (below_new w1 (.cells Ar.nil.cells 52)))
  clear hb CW
  unfold Ar.v
  go_wp2_with fail
  refine (CC.out _ _ KX.out).mono ?_
  rintro e w2 ⟨v2, rfl, hm, hb⟩
  have SZ := Lib.hid (Nat.le_trans G.out.bel.size (Nat.le_refl _))
  have G := Lib.hid (G.out.still hb)
  have M := Lib.hid hm
  clear hm hb CC KX
  have W1 := G.out.v1
  obtain ⟨⟨c0, c1, c2, c3, c4, c5⟩, ⟨f0, f1, f2, f3, f4, f5⟩⟩ := six_of W1
  have HW1 := Lib.hid W1
  clear W1
  unfold ansV ansC
  go_wp2_with fail
  refine bodyPost_ret (results_tmp_row rfl _ _ (w.heap.size + 1) 34 (ansC we 0) (0, 0) _ rfl (six_put HW1.out _ _ _ _ _ _) Tryz.underlying34 rfl (by kernel_rfl)) rfl ?_
  exact ⟨v2, rfl, mine_far (M.out.base SZ.out) HW1.out _ _ _ _ _ _, G.out.bel.trans ((six_only w2 (w.heap.size + 1) _ _ _ _ _ _).below (fun k hk => by omega) G.out.bel.size)⟩

set_option maxRecDepth 4000 in
set_option maxHeartbeats 8000000 in
theorem map_put (h : Holds w v X) (c : Cl) (ho : i64 c.o) (he : wtE X c = 0) {Y : List Ar} {ae ax : Int}
    (hk : ∀ w' u u', Holds w' u X → Holds w' u' (putC X (wtA X c)) → Calls Tryz.prog 38 #[u, u', .int .i64 (wtA X c).s] w' (Gives w' Y ae ax)) : Calls Tryz.prog 19 #[v, c.v] w (Gives w Y ae ax) := by
  have hmay := (wt_zero.1 he).may
  have hform := (wt_zero.1 he).formed
  have G := Lib.hid (((Bag.new w).add 38 c.cells).add 34 (ansC 0 0))
  rw [World.size_alloc] at G
  have KX := Lib.hid (h.still G.out.bel)
  have CW : Hid (∀ w' u, Holds w' u X → Calls Tryz.prog 36 #[u, c.v] w' fun e w'' => e = .returned (.tuple #[(wtA X c).v, .int .i64 0]) ∧ Below w'.heap.size w' w'') := Lib.hid (fun w' u h => by
    have := wanted_c h (by have := hmay.2; omega) c ho
    unfold wtV at this
    rwa [if_pos he, he] at this)
  have CP : Hid (∀ w' u, Holds w' u X → Calls Tryz.prog 39 #[u, (wtA X c).v] w' fun e w'' => ∃ v', e = .returned v' ∧ Holds w'' v' (putC X (wtA X c)) ∧ Below w'.heap.size w' w'') := Lib.hid (fun w' u h => put_c h hmay.1 hform)
  have CK : Hid (∀ w' u u', Holds w' u X → Holds w' u' (putC X (wtA X c)) → Calls Tryz.prog 38 #[u, u', .int .i64 (wtA X c).s] w' fun e w'' => ∃ v', e = .returned (.tuple #[v', .agg #[.int .i64 ae, .int .i64 ax, .int .i64 0, .bool false, .int .i64 0, .int .i64 0]]) ∧ Mine w'.heap.size w'' v' Y ∧ Below w'.heap.size w' w'') := Lib.hid hk
  clear hk he hform hmay
  generalize putC X (wtA X c) = P at *
  generalize wtA X c = a at *
  obtain ⟨a0, a1, a2, a3, a4, a5⟩ := a
  obtain ⟨A, cc, rfl⟩ := h.is
  clear h ho
  generalize hn : X.length = n at *
  clear hn
  obtain ⟨ck, ca, cn, cnw, ctw, cp, cf, cb, co⟩ := c
  unfold Cl.v Ar.v at *
  simp only [Cl.cells] at *
  go_enter Tryz.func19, Tryz.ntmps19
  go_wp2_with fail
  refine (CW.out _ _ KX.out).mono ?_
  rintro e w1 ⟨rfl, hb⟩
  have SZ := Lib.hid (Nat.le_trans G.out.bel.size hb.size)
  have G := Lib.hid ((G.out.still hb).add 52 #[.int .i64 a0, .int .i64 a1, .int .i64 a2, .bool a3, .int .i64 a4, .int .i64 a5])
  have KX := Lib.hid ((KX.out.still hb).still (below_new w1 (.cells #[.int .i64 a0, .int .i64 a1, .int .i64 a2, .bool a3, .int .i64 a4, .int .i64 a5] 52)))
  clear hb CW
  go_upto_region 4 with (fail)
  generalize hw2 : World.alloc w1 _ = w2 at *
  clear hw2
  generalize w1.heap.size = q at *
  have HQ : Hid (q ≠ w.heap.size + 1) := Lib.hid (G.out.v0.apart G.out.v1 (by decide))
  have BB : Hid (Only (fun k => k = w.heap.size + 1) w2 w2.drew) := Lib.hid (Only.refl _ _).drew
  have BL : Hid (Below w2.heap.size w2 w2.drew) := Lib.hid (below_drew (Below.refl _ _))
  have KX : Hid (Holds w2.drew (.slice A n cc) X) := Lib.hid (KX.out.still (below_drew (Below.refl _ _)))
  have HG := Lib.hid (fun W h => G.out.still (w' := W) h)
  have HK : Hid (∀ W, Only (fun k => k = w.heap.size + 1) w2 W → (W.cell? ⟨q, 0, none⟩ = some (.int .i64 a0) ∧ W.cell? ⟨q, 1, none⟩ = some (.int .i64 a1) ∧ W.cell? ⟨q, 2, none⟩ = some (.int .i64 a2) ∧ W.cell? ⟨q, 3, none⟩ = some (.bool a3) ∧ W.cell? ⟨q, 4, none⟩ = some (.int .i64 a4) ∧ W.cell? ⟨q, 5, none⟩ = some (.int .i64 a5))) := Lib.hid (fun W h => row6 (G.out.v0.only h HQ.out))
  have S2 := Lib.hid G.out.bel.size
  clear G
  go_region_held3 (fun W => W.cell? ⟨q, 0, none⟩ = some (.int .i64 a0) ∧ W.cell? ⟨q, 1, none⟩ = some (.int .i64 a1) ∧ W.cell? ⟨q, 2, none⟩ = some (.int .i64 a2) ∧ W.cell? ⟨q, 3, none⟩ = some (.bool a3) ∧ W.cell? ⟨q, 4, none⟩ = some (.int .i64 a4) ∧ W.cell? ⟨q, 5, none⟩ = some (.int .i64 a5))
    (first | exact HK.out _ BB.out | exact HK.out _ (BB.out.trans (six_only _ _ _ _ _ _ _ _)))
    (first
    | (go_at_call 39; refine (CP.out _ _ KX.out).mono ?_; rintro e wn ⟨vp, rfl, hn, hb⟩; have BB := Lib.hid (BB.out.trans (Only.of_below hb _)); have BL := Lib.hid (below_then BL.out hb (Nat.le_refl _)); have KP := Lib.hid hn; have KX := Lib.hid (KX.out.still hb); clear hb hn CP)
    | (go_at_call 38; refine (CK.out _ _ _ KX.out KP.out).mono ?_; rintro e wk ⟨vk, rfl, hm, hb⟩; have BB := Lib.hid (BB.out.trans (Only.of_below hb _)); have S3 := Lib.hid BL.out.size; have BL := Lib.hid (below_then BL.out hb (Nat.le_refl _)); have M := Lib.hid (hm.base (Nat.le_trans S2.out S3.out)); have G := Lib.hid (HG.out _ BL.out); clear hb hm CK KX KP; obtain ⟨⟨d0, d1, d2, d3, d4, d5⟩, ⟨f0, f1, f2, f3, f4, f5⟩⟩ := six_of (G.out.v1))
    | fail)
  all_goals
    go_wp2_with fail
    refine bodyPost_ret (results_tmp_row rfl _ _ (w.heap.size + 1) 34 (ansC ae ax) (0, 0) _ rfl (six_put G.out.v1 _ _ _ _ _ _) Tryz.underlying34 rfl (by kernel_rfl)) rfl ?_
    exact ⟨vk, rfl, mine_far M.out G.out.v1 _ _ _ _ _ _, G.out.bel.trans ((six_only wk (w.heap.size + 1) _ _ _ _ _ _).below (fun k hk => by omega) G.out.bel.size)⟩

theorem map_c (h : Holds w v X) (hl : X.length ≤ 10000) (c : Cl) (ho : i64 c.o) : Calls Tryz.prog 19 #[v, c.v] w (Gives w (mapR X c).1 (mapR X c).2.1 (mapR X c).2.2) := by
  unfold mapR
  by_cases he : wtE X c = 0
  · rw [if_pos he]
    by_cases hm : (putC X (wtA X c)).length ≤ 24
    · rw [if_pos hm]
      exact map_put h c ho he fun w' u u' h1 h2 => kept_few h1 h2 hm _
    · rw [if_neg hm]
      exact map_put h c ho he fun w' u u' h1 h2 => kept_many h1 hl h2 (by omega) _
  · rw [if_neg he]
    exact map_err h hl c ho he

/-! Unmapping. -/
set_option maxRecDepth 4000 in
set_option maxHeartbeats 4000000 in
theorem unmap_err (h : Holds w v X) (hl : X.length ≤ 10000) (c : Cl) (he : umE X c ≠ 0) : Calls Tryz.prog 20 #[v, c.v] w (Gives w X (umE X c) 0) := by
  have G := Lib.hid (((Bag.new w).add 38 c.cells).add 34 (ansC 0 0))
  rw [World.size_alloc] at G
  have KX := Lib.hid (h.still G.out.bel)
  have CR := Lib.hid (range_any c.a c.n)
  have CL : Hid (∀ w' u, Holds w' u X → Calls Tryz.prog 42 #[u] w' fun e w'' => e = .returned (.int .i64 (liE X)) ∧ Below w'.heap.size w' w'') := Lib.hid (fun w' u h => listE_c h hl)
  have CC : Hid (∀ w' u, Holds w' u X → Calls Tryz.prog 37 #[u, .int .i64 (umE X c)] w' (Gives w' X (umE X c) 0)) := Lib.hid (fun w' u h => refused_c h hl _)
  have CO : Hid (∀ W : World, Calls Tryz.prog 41 #[.slice (some ⟨W.heap.size, 0, none⟩) 2 2] (W.alloc (.cells #[.int .i64 (liE X), .int .i64 (rgE c.a c.n)] 30)) fun e w' => e = .returned (.int .i64 (umE X c)) ∧ w' = W.alloc (.cells #[.int .i64 (liE X), .int .i64 (rgE c.a c.n)] 30)) := Lib.hid (fun W => or_two W 30 (liE X) (rgE c.a c.n))
  generalize umE X c = we at *
  generalize liE X = le at *
  generalize rgE c.a c.n = re at *
  generalize rgA c.a c.n = ra at *
  generalize rgB c.a c.n = rb at *
  have hw' : (we != 0) = true := by simpa using he
  obtain ⟨A, cc, rfl⟩ := h.is
  clear h hl
  generalize hn : X.length = n at *
  clear hn
  obtain ⟨ck, ca, cn, cnw, ctw, cp, cf, cb, co⟩ := c
  unfold Cl.v
  simp only [Cl.cells] at *
  go_enter Tryz.func20, Tryz.ntmps20
  go_wp2_with fail
  refine (CR.out _).mono ?_
  rintro e w1 ⟨rfl, hb⟩
  have G := Lib.hid (G.out.still hb)
  have KX := Lib.hid (KX.out.still hb)
  clear hb CR
  go_wp2_with fail
  refine (CL.out _ _ KX.out).mono ?_
  rintro e w2 ⟨rfl, hb⟩
  have G := Lib.hid (G.out.still hb)
  have KX := Lib.hid (KX.out.still hb)
  clear hb CL
  go_wp2_with fail
  refine (CO.out _).mono ?_
  rintro e w3 ⟨rfl, hw⟩
  have BN : Hid (Below w2.heap.size w2 w3) := Lib.hid (by rw [hw]; exact below_new _ _)
  have G := Lib.hid (G.out.still BN.out)
  have KX := Lib.hid (KX.out.still BN.out)
  clear hw CO BN
  go_wp2_with fail
  refine (CC.out _ _ KX.out).mono ?_
  rintro e w4 ⟨v4, rfl, hm, hb⟩
  have SZ := Lib.hid G.out.bel.size
  have G := Lib.hid (G.out.still hb)
  have M := Lib.hid (hm.base SZ.out)
  clear hm hb CC KX
  obtain ⟨⟨c0, c1, c2, c3, c4, c5⟩, ⟨f0, f1, f2, f3, f4, f5⟩⟩ := six_of G.out.v0
  unfold ansV ansC
  go_wp2_with fail
  refine bodyPost_ret (results_tmp_row rfl _ _ (w.heap.size + 1) 34 (ansC we 0) (0, 0) _ rfl (six_put G.out.v0 _ _ _ _ _ _) Tryz.underlying34 rfl (by kernel_rfl)) rfl ?_
  exact gives_end G.out (by omega) M.out (Nat.le_refl _) we 0

set_option maxRecDepth 4000 in
set_option maxHeartbeats 4000000 in
theorem unmap_cut (h : Holds w v X) (c : Cl) (he : umE X c = 0) {Y : List Ar} {ae ax : Int}
    (hk : ∀ w' u u', Holds w' u X → Holds w' u' (outsideL (rgA c.a c.n) (rgB c.a c.n) X) → Calls Tryz.prog 38 #[u, u', .int .i64 0] w' (Gives w' Y ae ax)) : Calls Tryz.prog 20 #[v, c.v] w (Gives w Y ae ax) := by
  obtain ⟨hmay, hrg⟩ := um_zero.1 he
  have G := Lib.hid (((Bag.new w).add 38 c.cells).add 34 (ansC 0 0))
  rw [World.size_alloc] at G
  have KX := Lib.hid (h.still G.out.bel)
  have CR := Lib.hid (range_any c.a c.n)
  have CL : Hid (∀ w' u, Holds w' u X → Calls Tryz.prog 42 #[u] w' fun e w'' => e = .returned (.int .i64 (liE X)) ∧ Below w'.heap.size w' w'') := Lib.hid (fun w' u h => listE_c h (by have := hmay.2; omega))
  have CC : Hid (∀ w' u, Holds w' u X → Calls Tryz.prog 43 #[u, .int .i64 (rgA c.a c.n), .int .i64 (rgB c.a c.n)] w' fun e w'' => ∃ v', e = .returned v' ∧ Holds w'' v' (outsideL (rgA c.a c.n) (rgB c.a c.n) X) ∧ Below w'.heap.size w' w'') := Lib.hid (fun w' u h => cut_c h hmay.1 _ _)
  have CO : Hid (∀ W : World, Calls Tryz.prog 41 #[.slice (some ⟨W.heap.size, 0, none⟩) 2 2] (W.alloc (.cells #[.int .i64 (liE X), .int .i64 (rgE c.a c.n)] 30)) fun e w' => e = .returned (.int .i64 0) ∧ w' = W.alloc (.cells #[.int .i64 (liE X), .int .i64 (rgE c.a c.n)] 30)) := Lib.hid (fun W => by
    have := or_two W 30 (liE X) (rgE c.a c.n)
    rwa [show firstE [liE X, rgE c.a c.n] = 0 from he] at this)
  have CK : Hid (∀ w' u u', Holds w' u X → Holds w' u' (outsideL (rgA c.a c.n) (rgB c.a c.n) X) → Calls Tryz.prog 38 #[u, u', .int .i64 0] w' (Gives w' Y ae ax)) := Lib.hid hk
  clear hk he hmay hrg
  generalize liE X = le at *
  generalize rgE c.a c.n = re at *
  generalize rgA c.a c.n = ra at *
  generalize rgB c.a c.n = rb at *
  generalize outsideL ra rb X = P at *
  obtain ⟨A, cc, rfl⟩ := h.is
  clear h
  generalize hn : X.length = n at *
  clear hn
  obtain ⟨ck, ca, cn, cnw, ctw, cp, cf, cb, co⟩ := c
  unfold Cl.v
  simp only [Cl.cells] at *
  go_enter Tryz.func20, Tryz.ntmps20
  go_wp2_with fail
  refine (CR.out _).mono ?_
  rintro e w1 ⟨rfl, hb⟩
  have G := Lib.hid (G.out.still hb)
  have KX := Lib.hid (KX.out.still hb)
  clear hb CR
  go_wp2_with fail
  refine (CL.out _ _ KX.out).mono ?_
  rintro e w2 ⟨rfl, hb⟩
  have G := Lib.hid (G.out.still hb)
  have KX := Lib.hid (KX.out.still hb)
  clear hb CL
  go_wp2_with fail
  refine (CO.out _).mono ?_
  rintro e w3 ⟨rfl, hw⟩
  have BN : Hid (Below w2.heap.size w2 w3) := Lib.hid (by rw [hw]; exact below_new _ _)
  have G := Lib.hid (G.out.still BN.out)
  have KX := Lib.hid (KX.out.still BN.out)
  clear hw CO BN
  go_wp2_with fail
  refine (CC.out _ _ KX.out).mono ?_
  rintro e w4 ⟨v4, rfl, hp, hb⟩
  have G := Lib.hid (G.out.still hb)
  have KX := Lib.hid (KX.out.still hb)
  have KP := Lib.hid hp
  clear hp hb CC
  go_wp2_with fail
  refine (CK.out _ _ _ KX.out KP.out).mono ?_
  rintro e w5 ⟨v5, rfl, hm, hb⟩
  have SZ := Lib.hid G.out.bel.size
  have G := Lib.hid (G.out.still hb)
  have M := Lib.hid (hm.base SZ.out)
  clear hm hb CK KX KP
  obtain ⟨⟨c0, c1, c2, c3, c4, c5⟩, ⟨f0, f1, f2, f3, f4, f5⟩⟩ := six_of G.out.v0
  unfold ansV ansC
  go_wp2_with fail
  refine bodyPost_ret (results_tmp_row rfl _ _ (w.heap.size + 1) 34 (ansC ae ax) (0, 0) _ rfl (six_put G.out.v0 _ _ _ _ _ _) Tryz.underlying34 rfl (by kernel_rfl)) rfl ?_
  exact gives_end G.out (by omega) M.out (Nat.le_refl _) ae ax

theorem unmap_c (h : Holds w v X) (hl : X.length ≤ 10000) (c : Cl) : Calls Tryz.prog 20 #[v, c.v] w (Gives w (umR X c).1 (umR X c).2.1 (umR X c).2.2) := by
  unfold umR
  by_cases he : umE X c = 0
  · rw [if_pos he]
    by_cases hm : (outsideL (rgA c.a c.n) (rgB c.a c.n) X).length ≤ 24
    · rw [if_pos hm]
      exact unmap_cut h c he fun w' u u' h1 h2 => kept_few h1 h2 hm _
    · rw [if_neg hm]
      exact unmap_cut h c he fun w' u u' h1 h2 => kept_many h1 hl h2 (by omega) _
  · rw [if_neg he]
    exact unmap_err h hl c he
end
end Go.Proofs.YtholpgcghpikgaaGreat

/-
  Layer 10: what the laws ask: lists that may come, what a program that does nothing does not answer, and answers that are the same.
-/
namespace Go.Proofs.YtholpgcghpikgaaGreat
open Go.ChangeShapes Go.WideShapes Go.ChangeAt Go.RowKit Go.Shelf
set_option linter.unusedVariables false
attribute [local go_sem ↓] Go.wp_at_zero Go.wp_at_succ

/-! What a program that does nothing does not answer. -/
theorem gaps_nil : gapsL [] = [⟨65536, 2097152⟩] := by
  unfold gapsL
  rw [if_pos (show RightL [] from trivial)]
  simp [gapsFrom]
theorem high_nil : highOf 4096 (roomsL 65536 2097152 4096 []) = (2093056, true) := by
  rcases high_is [] 65536 2097152 4096 with ⟨h1, h2⟩ | ⟨a, h1, h2, h3⟩
  · exact absurd ⟨⟨by omega, by omega, by omega, _, by rw [gaps_nil]; exact List.mem_singleton.2 rfl, by simp, by simp⟩, by omega, by omega⟩ (h2 65536)
  · obtain ⟨⟨e1, _, _, g, hg, e2, e3⟩, e4, e5⟩ := h2
    have := h3 2093056 ⟨⟨by omega, by omega, by omega, _, by rw [gaps_nil]; exact List.mem_singleton.2 rfl, by simp, by simp⟩, by omega, by omega⟩
    rw [h1]
    congr 1
    omega
def wakeC : Cl := ⟨0, 0, 1, 0, 0, 1, 0, 0, 0⟩
theorem wake_sz : szE 1 = 0 ∧ szV 1 = 4096 := by decide
theorem wake_pl : plR [] 0 4096 0 = (2093056, 0) := by
  unfold plR
  rw [bit_zero 1, if_neg (by simp), if_neg (fun h => by have := fits_in h; omega), bit_zero 8, if_neg (by simp), high_nil]
  rfl
theorem wake_may : MayL [] := ⟨trivial, by simp⟩
theorem wake_e : wtE [] wakeC = 0 := by
  have hp : plE [] wakeC = (2093056, 0) := by
    unfold plE
    rw [if_pos wake_may]
    show plR [] 0 (szV 1) 0 = _
    rw [wake_sz.2, wake_pl]
  refine wt_zero.2 ⟨wake_may, wake_sz.1, by decide, ?_, ?_, ?_, by rw [hp]⟩
  · show fgE 0 = 0
    unfold fgE
    rw [bit_zero, if_neg (by simp)]
    unfold flE
    rw [if_neg]
    rintro (h | h)
    · omega
    · exact h ((andNot_zero 0 15 (by decide) (by decide)).2 (by simp))
  · show bkE 0 0 (szV 1) = 0
    rw [wake_sz.2]; decide
  · unfold plE; rw [if_pos wake_may]
theorem wake_r : ∃ a : Ar, mapR [] wakeC = ([a], 0, 2093056) := by
  have hp : plE [] wakeC = (2093056, 0) := by
    unfold plE
    rw [if_pos wake_may]
    show plR [] 0 (szV 1) 0 = _
    rw [wake_sz.2, wake_pl]
  have hf := (wt_zero.1 wake_e).formed
  unfold mapR
  rw [if_pos wake_e, putC_nil hf, if_pos (by simp)]
  refine ⟨wtA [] wakeC, ?_⟩
  rw [show (wtA [] wakeC).s = 2093056 from by unfold wtA; rw [hp]]
/-- What a map comes to is right. -/
theorem mapR_right {X : List Ar} (hX : MayL X) {c : Cl} : RightL (mapR X c).1 := by
  unfold mapR
  by_cases he : wtE X c = 0
  · rw [if_pos he]
    by_cases hm : (putC X (wtA X c)).length ≤ 24
    · rw [if_pos hm]; exact putC_right hX.1 (wt_zero.1 he).formed
    · rw [if_neg hm]; exact hX.1
  · rw [if_neg he]; exact hX.1
end Go.Proofs.YtholpgcghpikgaaGreat

/-
  Layer 10: what follows, without a program: what a map comes to.
-/
namespace Go.Proofs.YtholpgcghpikgaaGreat
set_option linter.unusedVariables false

/-! What a map comes to. -/
theorem mapR_is (X : List Ar) (c : Cl) : ((mapR X c).2.1 ≠ 0 ∧ (mapR X c).1 = X ∧ (mapR X c).2.2 = 0) ∨ (Asks X c ∧ (putC X (wtA X c)).length ≤ 24 ∧ mapR X c = (putC X (wtA X c), 0, (wtA X c).s)) := by
  unfold mapR
  by_cases he : wtE X c = 0
  · rw [if_pos he]
    by_cases hm : (putC X (wtA X c)).length ≤ 24
    · rw [if_pos hm]; exact .inr ⟨wt_zero.1 he, hm, rfl⟩
    · rw [if_neg hm]; exact .inl ⟨by simp, rfl, rfl⟩
  · rw [if_neg he]; exact .inl ⟨he, rfl, rfl⟩
theorem mapR_ok {X : List Ar} {c : Cl} (h : Asks X c) (hm : (putC X (wtA X c)).length ≤ 24) : mapR X c = (putC X (wtA X c), 0, (wtA X c).s) := by
  unfold mapR
  rw [if_pos (wt_zero.2 h), if_pos hm]
end Go.Proofs.YtholpgcghpikgaaGreat
