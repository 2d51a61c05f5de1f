/-
  Texts of our own, one behind the other (MapDo, MapLaw, MapPure): what the laws' proofs rest on; each says at its head what it holds. No conditions.
-/
import Derived.Test.YtfejoeidffnadaaPkM
import Derived.Test.YtfejoeidffnadaaPkLc
/-
  Layer 10: mapping and unmapping: a contract for each call.
-/
namespace Go.Proofs.Ytfejoeidffnadaa
open Go.ChangeShapes Go.WideShapes Go.ChangeAt Go.RowKit Go.Shelf
set_option linter.unusedVariables false
attribute [local go_sem ↓] Go.wp_at_zero Go.wp_at_succ

/-- What a map comes to: the list, the error, the value. -/
noncomputable def mapR (X : List Ar) (c : Cl) : List Ar × Int × Int :=
  if wtE X c = 0 then (if (putC X (wtA X c)).length ≤ 24 then (putC X (wtA X c), 0, (wtA X c).s) else (X, 9, 0)) else (X, wtE X c, 0)
/-- What is wrong with an unmap. -/
def umE (X : List Ar) (c : Cl) : Int := firstE [liE X, rgE c.a c.n]
/-- What an unmap comes to. -/
def umR (X : List Ar) (c : Cl) : List Ar × Int × Int :=
  if umE X c = 0 then (if (outsideL (rgA c.a c.n) (rgB c.a c.n) X).length ≤ 24 then (outsideL (rgA c.a c.n) (rgB c.a c.n) X, 0, 0) else (X, 9, 0)) else (X, umE X c, 0)

theorem um_zero {X : List Ar} {c : Cl} : umE X c = 0 ↔ MayL X ∧ rgE c.a c.n = 0 := by
  unfold umE
  rw [first_zero]
  unfold liE
  by_cases hm : MayL X
  · simp [hm]
  · simp [hm]

section
variable {w : World} {v : Value} {X : List Ar}
set_option maxRecDepth 4000 in
set_option maxHeartbeats 4000000 in
theorem map_err (h : Holds w v X) (hl : X.length ≤ 10000) (c : Cl) (ho : i64 c.o) (he : wtE X c ≠ 0) : Calls Try.prog 11 #[v, c.v] w (Gives w X (wtE X c) 0) := by
  have G := Lib.hid (((Bag.new w).add 24 c.cells).add 31 (ansC 0 0))
  rw [World.size_alloc] at G
  have KX := Lib.hid (h.still G.out.bel)
  have CW : Hid (∀ w' u, Holds w' u X → Calls Try.prog 22 #[u, c.v] w' fun e w'' => e = .returned (.tuple #[Ar.nil.v, .int .i64 (wtE X c)]) ∧ Below w'.heap.size w' w'') := Lib.hid (fun w' u h => by
    have := wanted_c h hl c ho
    unfold wtV at this
    rwa [if_neg he] at this)
  have CC : Hid (∀ w' u, Holds w' u X → Calls Try.prog 23 #[u, .int .i64 (wtE X c)] w' (Gives w' X (wtE X c) 0)) := Lib.hid (fun w' u h => refused_c h hl _)
  generalize wtE X c = we at *
  have hw' : (we != 0) = true := by simpa using he
  obtain ⟨A, cc, rfl⟩ := h.is
  clear h ho hl
  generalize hn : X.length = n at *
  clear hn
  obtain ⟨ck, ca, cn, cnw, ctw, cp, cf, cb, co⟩ := c
  unfold Cl.v at *
  simp only [Cl.cells] at *
  go_enter Try.func11, Try.ntmps11
  go_wp2_with fail
  refine (CW.out _ _ KX.out).mono ?_
  rintro e w1 ⟨rfl, hb⟩
  have G := Lib.hid ((G.out.still hb).add 48 Ar.nil.cells)
  have KX := Lib.hid ((KX.out.still hb).still (below_new w1 (.cells Ar.nil.cells 48)))
  clear hb CW
  unfold Ar.v
  go_wp2_with fail
  refine (CC.out _ _ KX.out).mono ?_
  rintro e w2 ⟨v2, rfl, hm, hb⟩
  have SZ := Lib.hid (Nat.le_trans G.out.bel.size (Nat.le_refl _))
  have G := Lib.hid (G.out.still hb)
  have M := Lib.hid hm
  clear hm hb CC KX
  have W1 := G.out.v1
  obtain ⟨⟨c0, c1, c2, c3, c4, c5⟩, ⟨f0, f1, f2, f3, f4, f5⟩⟩ := six_of W1
  have HW1 := Lib.hid W1
  clear W1
  unfold ansV ansC
  go_wp2_with fail
  refine bodyPost_ret (results_tmp_row rfl _ _ (w.heap.size + 1) 31 (ansC we 0) (0, 0) _ rfl (six_put HW1.out _ _ _ _ _ _) Try.underlying31 rfl (by kernel_rfl)) rfl ?_
  exact ⟨v2, rfl, mine_far (M.out.base SZ.out) HW1.out _ _ _ _ _ _, G.out.bel.trans ((six_only w2 (w.heap.size + 1) _ _ _ _ _ _).below (fun k hk => by omega) G.out.bel.size)⟩

set_option maxRecDepth 4000 in
set_option maxHeartbeats 8000000 in
theorem map_put (h : Holds w v X) (c : Cl) (ho : i64 c.o) (he : wtE X c = 0) {Y : List Ar} {ae ax : Int}
    (hk : ∀ w' u u', Holds w' u X → Holds w' u' (putC X (wtA X c)) → Calls Try.prog 24 #[u, u', .int .i64 (wtA X c).s] w' (Gives w' Y ae ax)) : Calls Try.prog 11 #[v, c.v] w (Gives w Y ae ax) := by
  have hmay := (wt_zero.1 he).may
  have hform := (wt_zero.1 he).formed
  have G := Lib.hid (((Bag.new w).add 24 c.cells).add 31 (ansC 0 0))
  rw [World.size_alloc] at G
  have KX := Lib.hid (h.still G.out.bel)
  have CW : Hid (∀ w' u, Holds w' u X → Calls Try.prog 22 #[u, c.v] w' fun e w'' => e = .returned (.tuple #[(wtA X c).v, .int .i64 0]) ∧ Below w'.heap.size w' w'') := Lib.hid (fun w' u h => by
    have := wanted_c h (by have := hmay.2; omega) c ho
    unfold wtV at this
    rwa [if_pos he, he] at this)
  have CP : Hid (∀ w' u, Holds w' u X → Calls Try.prog 25 #[u, (wtA X c).v] w' fun e w'' => ∃ v', e = .returned v' ∧ Holds w'' v' (putC X (wtA X c)) ∧ Below w'.heap.size w' w'') := Lib.hid (fun w' u h => put_c h hmay.1 hform)
  have CK : Hid (∀ w' u u', Holds w' u X → Holds w' u' (putC X (wtA X c)) → Calls Try.prog 24 #[u, u', .int .i64 (wtA X c).s] w' fun e w'' => ∃ v', e = .returned (.tuple #[v', .agg #[.int .i64 ae, .int .i64 ax, .int .i64 0, .bool false, .int .i64 0, .int .i64 0]]) ∧ Mine w'.heap.size w'' v' Y ∧ Below w'.heap.size w' w'') := Lib.hid hk
  clear hk he hform hmay
  generalize putC X (wtA X c) = P at *
  generalize wtA X c = a at *
  obtain ⟨a0, a1, a2, a3, a4, a5⟩ := a
  obtain ⟨A, cc, rfl⟩ := h.is
  clear h ho
  generalize hn : X.length = n at *
  clear hn
  obtain ⟨ck, ca, cn, cnw, ctw, cp, cf, cb, co⟩ := c
  unfold Cl.v Ar.v at *
  simp only [Cl.cells] at *
  go_enter Try.func11, Try.ntmps11
  go_wp2_with fail
  refine (CW.out _ _ KX.out).mono ?_
  rintro e w1 ⟨rfl, hb⟩
  have SZ := Lib.hid (Nat.le_trans G.out.bel.size hb.size)
  have G := Lib.hid ((G.out.still hb).add 48 #[.int .i64 a0, .int .i64 a1, .int .i64 a2, .bool a3, .int .i64 a4, .int .i64 a5])
  have KX := Lib.hid ((KX.out.still hb).still (below_new w1 (.cells #[.int .i64 a0, .int .i64 a1, .int .i64 a2, .bool a3, .int .i64 a4, .int .i64 a5] 48)))
  clear hb CW
  go_upto_region 4 with (fail)
  generalize hw2 : World.alloc w1 _ = w2 at *
  clear hw2
  generalize w1.heap.size = q at *
  have HQ : Hid (q ≠ w.heap.size + 1) := Lib.hid (G.out.v0.apart G.out.v1 (by decide))
  have BB : Hid (Only (fun k => k = w.heap.size + 1) w2 w2.drew) := Lib.hid (Only.refl _ _).drew
  have BL : Hid (Below w2.heap.size w2 w2.drew) := Lib.hid (below_drew (Below.refl _ _))
  have KX : Hid (Holds w2.drew (.slice A n cc) X) := Lib.hid (KX.out.still (below_drew (Below.refl _ _)))
  have HG := Lib.hid (fun W h => G.out.still (w' := W) h)
  have HK : Hid (∀ W, Only (fun k => k = w.heap.size + 1) w2 W → (W.cell? ⟨q, 0, none⟩ = some (.int .i64 a0) ∧ W.cell? ⟨q, 1, none⟩ = some (.int .i64 a1) ∧ W.cell? ⟨q, 2, none⟩ = some (.int .i64 a2) ∧ W.cell? ⟨q, 3, none⟩ = some (.bool a3) ∧ W.cell? ⟨q, 4, none⟩ = some (.int .i64 a4) ∧ W.cell? ⟨q, 5, none⟩ = some (.int .i64 a5))) := Lib.hid (fun W h => row6 (G.out.v0.only h HQ.out))
  have S2 := Lib.hid G.out.bel.size
  clear G
  go_region_held3 (fun W => W.cell? ⟨q, 0, none⟩ = some (.int .i64 a0) ∧ W.cell? ⟨q, 1, none⟩ = some (.int .i64 a1) ∧ W.cell? ⟨q, 2, none⟩ = some (.int .i64 a2) ∧ W.cell? ⟨q, 3, none⟩ = some (.bool a3) ∧ W.cell? ⟨q, 4, none⟩ = some (.int .i64 a4) ∧ W.cell? ⟨q, 5, none⟩ = some (.int .i64 a5))
    (first | exact HK.out _ BB.out | exact HK.out _ (BB.out.trans (six_only _ _ _ _ _ _ _ _)))
    (first
    | (go_at_call 25; refine (CP.out _ _ KX.out).mono ?_; rintro e wn ⟨vp, rfl, hn, hb⟩; have BB := Lib.hid (BB.out.trans (Only.of_below hb _)); have BL := Lib.hid (below_then BL.out hb (Nat.le_refl _)); have KP := Lib.hid hn; have KX := Lib.hid (KX.out.still hb); clear hb hn CP)
    | (go_at_call 24; refine (CK.out _ _ _ KX.out KP.out).mono ?_; rintro e wk ⟨vk, rfl, hm, hb⟩; have BB := Lib.hid (BB.out.trans (Only.of_below hb _)); have S3 := Lib.hid BL.out.size; have BL := Lib.hid (below_then BL.out hb (Nat.le_refl _)); have M := Lib.hid (hm.base (Nat.le_trans S2.out S3.out)); have G := Lib.hid (HG.out _ BL.out); clear hb hm CK KX KP; obtain ⟨⟨d0, d1, d2, d3, d4, d5⟩, ⟨f0, f1, f2, f3, f4, f5⟩⟩ := six_of (G.out.v1))
    | fail)
  all_goals
    go_wp2_with fail
    refine bodyPost_ret (results_tmp_row rfl _ _ (w.heap.size + 1) 31 (ansC ae ax) (0, 0) _ rfl (six_put G.out.v1 _ _ _ _ _ _) Try.underlying31 rfl (by kernel_rfl)) rfl ?_
    exact ⟨vk, rfl, mine_far M.out G.out.v1 _ _ _ _ _ _, G.out.bel.trans ((six_only wk (w.heap.size + 1) _ _ _ _ _ _).below (fun k hk => by omega) G.out.bel.size)⟩

theorem map_c (h : Holds w v X) (hl : X.length ≤ 10000) (c : Cl) (ho : i64 c.o) : Calls Try.prog 11 #[v, c.v] w (Gives w (mapR X c).1 (mapR X c).2.1 (mapR X c).2.2) := by
  unfold mapR
  by_cases he : wtE X c = 0
  · rw [if_pos he]
    by_cases hm : (putC X (wtA X c)).length ≤ 24
    · rw [if_pos hm]
      exact map_put h c ho he fun w' u u' h1 h2 => kept_few h1 h2 hm _
    · rw [if_neg hm]
      exact map_put h c ho he fun w' u u' h1 h2 => kept_many h1 hl h2 (by omega) _
  · rw [if_neg he]
    exact map_err h hl c ho he

/-! Unmapping. -/
set_option maxRecDepth 4000 in
set_option maxHeartbeats 4000000 in
theorem unmap_err (h : Holds w v X) (hl : X.length ≤ 10000) (c : Cl) (he : umE X c ≠ 0) : Calls Try.prog 14 #[v, c.v] w (Gives w X (umE X c) 0) := by
  have G := Lib.hid (((Bag.new w).add 24 c.cells).add 31 (ansC 0 0))
  rw [World.size_alloc] at G
  have KX := Lib.hid (h.still G.out.bel)
  have CR := Lib.hid (range_any c.a c.n)
  have CL : Hid (∀ w' u, Holds w' u X → Calls Try.prog 32 #[u] w' fun e w'' => e = .returned (.int .i64 (liE X)) ∧ Below w'.heap.size w' w'') := Lib.hid (fun w' u h => listE_c h hl)
  have CC : Hid (∀ w' u, Holds w' u X → Calls Try.prog 23 #[u, .int .i64 (umE X c)] w' (Gives w' X (umE X c) 0)) := Lib.hid (fun w' u h => refused_c h hl _)
  have CO : Hid (∀ W : World, Calls Try.prog 31 #[.slice (some ⟨W.heap.size, 0, none⟩) 2 2] (W.alloc (.cells #[.int .i64 (liE X), .int .i64 (rgE c.a c.n)] 27)) fun e w' => e = .returned (.int .i64 (umE X c)) ∧ w' = W.alloc (.cells #[.int .i64 (liE X), .int .i64 (rgE c.a c.n)] 27)) := Lib.hid (fun W => or_two W 27 (liE X) (rgE c.a c.n))
  generalize umE X c = we at *
  generalize liE X = le at *
  generalize rgE c.a c.n = re at *
  generalize rgA c.a c.n = ra at *
  generalize rgB c.a c.n = rb at *
  have hw' : (we != 0) = true := by simpa using he
  obtain ⟨A, cc, rfl⟩ := h.is
  clear h hl
  generalize hn : X.length = n at *
  clear hn
  obtain ⟨ck, ca, cn, cnw, ctw, cp, cf, cb, co⟩ := c
  unfold Cl.v
  simp only [Cl.cells] at *
  go_enter Try.func14, Try.ntmps14
  go_wp2_with fail
  refine (CR.out _).mono ?_
  rintro e w1 ⟨rfl, hb⟩
  have G := Lib.hid (G.out.still hb)
  have KX := Lib.hid (KX.out.still hb)
  clear hb CR
  go_wp2_with fail
  refine (CL.out _ _ KX.out).mono ?_
  rintro e w2 ⟨rfl, hb⟩
  have G := Lib.hid (G.out.still hb)
  have KX := Lib.hid (KX.out.still hb)
  clear hb CL
  go_wp2_with fail
  refine (CO.out _).mono ?_
  rintro e w3 ⟨rfl, hw⟩
  have BN : Hid (Below w2.heap.size w2 w3) := Lib.hid (by rw [hw]; exact below_new _ _)
  have G := Lib.hid (G.out.still BN.out)
  have KX := Lib.hid (KX.out.still BN.out)
  clear hw CO BN
  go_wp2_with fail
  refine (CC.out _ _ KX.out).mono ?_
  rintro e w4 ⟨v4, rfl, hm, hb⟩
  have SZ := Lib.hid G.out.bel.size
  have G := Lib.hid (G.out.still hb)
  have M := Lib.hid (hm.base SZ.out)
  clear hm hb CC KX
  obtain ⟨⟨c0, c1, c2, c3, c4, c5⟩, ⟨f0, f1, f2, f3, f4, f5⟩⟩ := six_of G.out.v0
  unfold ansV ansC
  go_wp2_with fail
  refine bodyPost_ret (results_tmp_row rfl _ _ (w.heap.size + 1) 31 (ansC we 0) (0, 0) _ rfl (six_put G.out.v0 _ _ _ _ _ _) Try.underlying31 rfl (by kernel_rfl)) rfl ?_
  exact gives_end G.out (by omega) M.out (Nat.le_refl _) we 0

set_option maxRecDepth 4000 in
set_option maxHeartbeats 4000000 in
theorem unmap_cut (h : Holds w v X) (c : Cl) (he : umE X c = 0) {Y : List Ar} {ae ax : Int}
    (hk : ∀ w' u u', Holds w' u X → Holds w' u' (outsideL (rgA c.a c.n) (rgB c.a c.n) X) → Calls Try.prog 24 #[u, u', .int .i64 0] w' (Gives w' Y ae ax)) : Calls Try.prog 14 #[v, c.v] w (Gives w Y ae ax) := by
  obtain ⟨hmay, hrg⟩ := um_zero.1 he
  have G := Lib.hid (((Bag.new w).add 24 c.cells).add 31 (ansC 0 0))
  rw [World.size_alloc] at G
  have KX := Lib.hid (h.still G.out.bel)
  have CR := Lib.hid (range_any c.a c.n)
  have CL : Hid (∀ w' u, Holds w' u X → Calls Try.prog 32 #[u] w' fun e w'' => e = .returned (.int .i64 (liE X)) ∧ Below w'.heap.size w' w'') := Lib.hid (fun w' u h => listE_c h (by have := hmay.2; omega))
  have CC : Hid (∀ w' u, Holds w' u X → Calls Try.prog 33 #[u, .int .i64 (rgA c.a c.n), .int .i64 (rgB c.a c.n)] w' fun e w'' => ∃ v', e = .returned v' ∧ Holds w'' v' (outsideL (rgA c.a c.n) (rgB c.a c.n) X) ∧ Below w'.heap.size w' w'') := Lib.hid (fun w' u h => cut_c h hmay.1 _ _)
  have CO : Hid (∀ W : World, Calls Try.prog 31 #[.slice (some ⟨W.heap.size, 0, none⟩) 2 2] (W.alloc (.cells #[.int .i64 (liE X), .int .i64 (rgE c.a c.n)] 27)) fun e w' => e = .returned (.int .i64 0) ∧ w' = W.alloc (.cells #[.int .i64 (liE X), .int .i64 (rgE c.a c.n)] 27)) := Lib.hid (fun W => by
    have := or_two W 27 (liE X) (rgE c.a c.n)
    rwa [show firstE [liE X, rgE c.a c.n] = 0 from he] at this)
  have CK : Hid (∀ w' u u', Holds w' u X → Holds w' u' (outsideL (rgA c.a c.n) (rgB c.a c.n) X) → Calls Try.prog 24 #[u, u', .int .i64 0] w' (Gives w' Y ae ax)) := Lib.hid hk
  clear hk he hmay hrg
  generalize liE X = le at *
  generalize rgE c.a c.n = re at *
  generalize rgA c.a c.n = ra at *
  generalize rgB c.a c.n = rb at *
  generalize outsideL ra rb X = P at *
  obtain ⟨A, cc, rfl⟩ := h.is
  clear h
  generalize hn : X.length = n at *
  clear hn
  obtain ⟨ck, ca, cn, cnw, ctw, cp, cf, cb, co⟩ := c
  unfold Cl.v
  simp only [Cl.cells] at *
  go_enter Try.func14, Try.ntmps14
  go_wp2_with fail
  refine (CR.out _).mono ?_
  rintro e w1 ⟨rfl, hb⟩
  have G := Lib.hid (G.out.still hb)
  have KX := Lib.hid (KX.out.still hb)
  clear hb CR
  go_wp2_with fail
  refine (CL.out _ _ KX.out).mono ?_
  rintro e w2 ⟨rfl, hb⟩
  have G := Lib.hid (G.out.still hb)
  have KX := Lib.hid (KX.out.still hb)
  clear hb CL
  go_wp2_with fail
  refine (CO.out _).mono ?_
  rintro e w3 ⟨rfl, hw⟩
  have BN : Hid (Below w2.heap.size w2 w3) := Lib.hid (by rw [hw]; exact below_new _ _)
  have G := Lib.hid (G.out.still BN.out)
  have KX := Lib.hid (KX.out.still BN.out)
  clear hw CO BN
  go_wp2_with fail
  refine (CC.out _ _ KX.out).mono ?_
  rintro e w4 ⟨v4, rfl, hp, hb⟩
  have G := Lib.hid (G.out.still hb)
  have KX := Lib.hid (KX.out.still hb)
  have KP := Lib.hid hp
  clear hp hb CC
  go_wp2_with fail
  refine (CK.out _ _ _ KX.out KP.out).mono ?_
  rintro e w5 ⟨v5, rfl, hm, hb⟩
  have SZ := Lib.hid G.out.bel.size
  have G := Lib.hid (G.out.still hb)
  have M := Lib.hid (hm.base SZ.out)
  clear hm hb CK KX KP
  obtain ⟨⟨c0, c1, c2, c3, c4, c5⟩, ⟨f0, f1, f2, f3, f4, f5⟩⟩ := six_of G.out.v0
  unfold ansV ansC
  go_wp2_with fail
  refine bodyPost_ret (results_tmp_row rfl _ _ (w.heap.size + 1) 31 (ansC ae ax) (0, 0) _ rfl (six_put G.out.v0 _ _ _ _ _ _) Try.underlying31 rfl (by kernel_rfl)) rfl ?_
  exact gives_end G.out (by omega) M.out (Nat.le_refl _) ae ax

theorem unmap_c (h : Holds w v X) (hl : X.length ≤ 10000) (c : Cl) : Calls Try.prog 14 #[v, c.v] w (Gives w (umR X c).1 (umR X c).2.1 (umR X c).2.2) := by
  unfold umR
  by_cases he : umE X c = 0
  · rw [if_pos he]
    by_cases hm : (outsideL (rgA c.a c.n) (rgB c.a c.n) X).length ≤ 24
    · rw [if_pos hm]
      exact unmap_cut h c he fun w' u u' h1 h2 => kept_few h1 h2 hm _
    · rw [if_neg hm]
      exact unmap_cut h c he fun w' u u' h1 h2 => kept_many h1 hl h2 (by omega) _
  · rw [if_neg he]
    exact unmap_err h hl c he
end
end Go.Proofs.Ytfejoeidffnadaa

/-
  Layer 10: what the laws ask: lists that may come, what a program that does nothing does not answer, and answers that are the same.
-/
namespace Go.Proofs.Ytfejoeidffnadaa
open Go.ChangeShapes Go.WideShapes Go.ChangeAt Go.RowKit Go.Shelf
set_option linter.unusedVariables false
attribute [local go_sem ↓] Go.wp_at_zero Go.wp_at_succ

theorem after_take' : ∀ (z : Ar) (l : List Ar) (k : Nat), After' z l → After' z (l.take k)
  | _, [], _, _ => by simp [After']
  | _, _ :: _, 0, _ => by simp [After']
  | z, a :: l, k + 1, h => by rw [List.take_succ_cons]; exact ⟨h.1, after_take' a l k h.2⟩
theorem right_take {l : List Ar} (h : RightL l) (k : Nat) : RightL (l.take k) := after_take' _ _ _ h
/-- The list that a law has of what it is handed. -/
def someL (l : List Ar) : List Ar := (madeL l).take 24
theorem someL_may (l : List Ar) : MayL (someL l) := ⟨right_take (madeL_right l) 24, by unfold someL; rw [List.length_take]; omega⟩
theorem cls_take : ∀ (l : List Ar) (k : Nat), (cls l).take (k * 6) = cls (l.take k)
  | [], k => by simp [cls]
  | a :: l, 0 => by simp [cls]
  | a :: l, k + 1 => by
    have ih := cls_take l k
    simp only [cls, List.flatMap_cons, List.take_succ_cons] at *
    rw [List.take_append, List.take_of_length_le (by simp [Ar.cl]; omega), ← ih]
    congr 1
    congr 1
    simp [Ar.cl]; omega
theorem Mine.take {B : Nat} {w : World} {A : Option Addr} {n c : Nat} {l : List Ar} (h : Mine B w (.slice A n c) l) (k : Nat) : Mine B w (.slice A (min n k) c) (l.take k) := by
  obtain ⟨h1, h2⟩ := h
  refine ⟨by rw [cls_len], ?_⟩
  rcases h2 with ⟨hv, h0⟩ | ⟨g, cap, cur, hv, hb, hg, hn, hm, hs, ht⟩
  · injection hv with e1 e2 e3
    subst e1 e2 e3
    have : l = [] := List.eq_nil_of_length_eq_zero h0
    subst this
    exact .inl ⟨by simp, by simp⟩
  · injection hv with e1 e2 e3
    subst e1 e2 e3
    refine .inr ⟨g, c, cur, by rw [List.length_take, Nat.min_comm], hb, hg, by rw [List.length_take]; omega, hm, hs, ?_⟩
    rw [← cls_take, ← ht, List.take_take, List.length_take]
    congr 1
    rcases Nat.le_total k l.length with h | h
    · rw [Nat.min_eq_left h, Nat.min_eq_left (Nat.mul_le_mul_right 6 h)]
    · rw [Nat.min_eq_right h, Nat.min_eq_right (Nat.mul_le_mul_right 6 h)]
/-- A list of its own stays where a block of another type is written. -/
theorem Mine.far {B : Nat} {w : World} {v : Value} {l : List Ar} {q : Nat} {t : TypeId} {cs : Array Value} (h : Mine B w v l) (hq : Whole w q t cs) (ht : 48 ≠ t) (i : Nat) (u : Value) : Mine B (w.setCell ⟨q, i, none⟩ u) v l :=
  own_far h (own_apart h hq ht) u
set_option maxHeartbeats 1000000 in
theorem some_c {w : World} {v : Value} {l : List Ar} (h : Holds w v l) (hl : l.length ≤ 40) : Calls Try.prog 10 #[v] w fun e w' => ∃ v', e = .returned v' ∧ Mine w.heap.size w' v' (someL l) ∧ Below w.heap.size w w' := by
  obtain ⟨A, c, rfl, hc, hA⟩ := h
  have CM := Lib.hid (made_any A c l hl hc w hA)
  unfold someL
  have hX := right_len (madeL_right l)
  clear hA hc
  generalize madeL l = X at *
  generalize l.length = n at *
  go_enter Try.func10, Try.ntmps10
  go_wp2_with fail
  refine CM.out.mono ?_
  rintro e w1 ⟨v1, rfl, hh, hb⟩
  have KX := Lib.hid hh
  have B := Lib.hid hb
  obtain ⟨A1, c1, hv, hc1, _⟩ := hh.holds
  subst hv
  clear hh hb CM
  have HT := Lib.hid (KX.out.take 24)
  generalize hn : X.length = m at *
  clear hn KX
  rw [show min m 24 = (min (m : Int) 24).toNat by omega] at HT
  cases A1 with
  | none =>
    go_wp2_with fail
    go_ret
    exact ⟨_, rfl, HT.out, B.out⟩
  | some ad =>
    go_wp2_with fail
    go_ret
    exact ⟨_, rfl, HT.out, B.out⟩

/-! What a program that does nothing does not answer. -/
theorem bit_zero (k : Int) : bitF 0 k = false := by
  unfold bitF
  show (IntKind.i64.wrap ((BitVec.ofInt 64 0 &&& BitVec.ofInt 64 k).toNat : Int) != 0) = false
  simp [BitVec.ofInt, IntKind.wrap_i64]
theorem gaps_nil : gapsL [] = [⟨65536, 2097152⟩] := by
  unfold gapsL
  rw [if_pos (show RightL [] from trivial)]
  simp [gapsFrom]
theorem high_nil : highOf 4096 (roomsL 65536 2097152 4096 []) = (2093056, true) := by
  rcases high_is [] 65536 2097152 4096 with ⟨h1, h2⟩ | ⟨a, h1, h2, h3⟩
  · exact absurd ⟨⟨by omega, by omega, by omega, _, by rw [gaps_nil]; exact List.mem_singleton.2 rfl, by simp, by simp⟩, by omega, by omega⟩ (h2 65536)
  · obtain ⟨⟨e1, _, _, g, hg, e2, e3⟩, e4, e5⟩ := h2
    have := h3 2093056 ⟨⟨by omega, by omega, by omega, _, by rw [gaps_nil]; exact List.mem_singleton.2 rfl, by simp, by simp⟩, by omega, by omega⟩
    rw [h1]
    congr 1
    omega
theorem putC_nil {a : Ar} (ha : Formed a) : putC [] a = [a] := by
  have h := putC_is (X := []) trivial ha
  refine right_unique h.1 (right_one ha) fun p => ?_
  rw [h.2]
  simp [tab]
def wakeC : Cl := ⟨0, 0, 1, 0, 0, 1, 0, 0, 0⟩
theorem wake_sz : szE 1 = 0 ∧ szV 1 = 4096 := by decide
theorem wake_pl : plR [] 0 4096 0 = (2093056, 0) := by
  unfold plR
  rw [bit_zero 1, if_neg (by simp), if_neg (fun h => by have := fits_in h; omega), bit_zero 8, if_neg (by simp), high_nil]
  rfl
theorem wake_may : MayL [] := ⟨trivial, by simp⟩
theorem wake_e : wtE [] wakeC = 0 := by
  have hp : plE [] wakeC = (2093056, 0) := by
    unfold plE
    rw [if_pos wake_may]
    show plR [] 0 (szV 1) 0 = _
    rw [wake_sz.2, wake_pl]
  refine wt_zero.2 ⟨wake_may, wake_sz.1, by decide, ?_, ?_, ?_, by rw [hp]⟩
  · show fgE 0 = 0
    unfold fgE
    rw [bit_zero, if_neg (by simp)]
    unfold flE
    rw [if_neg]
    rintro (h | h)
    · omega
    · exact h ((andNot_zero 0 15 (by decide) (by decide)).2 (by simp))
  · show bkE 0 0 (szV 1) = 0
    rw [wake_sz.2]; decide
  · unfold plE; rw [if_pos wake_may]
theorem wake_r : ∃ a : Ar, mapR [] wakeC = ([a], 0, 2093056) := by
  have hp : plE [] wakeC = (2093056, 0) := by
    unfold plE
    rw [if_pos wake_may]
    show plR [] 0 (szV 1) 0 = _
    rw [wake_sz.2, wake_pl]
  have hf := (wt_zero.1 wake_e).formed
  unfold mapR
  rw [if_pos wake_e, putC_nil hf, if_pos (by simp)]
  refine ⟨wtA [] wakeC, ?_⟩
  rw [show (wtA [] wakeC).s = 2093056 from by unfold wtA; rw [hp]]
set_option maxHeartbeats 1000000 in
theorem map_awake : Says 9 #[] (.bool true) := by
  intro w
  obtain ⟨a, ha⟩ := wake_r
  have X := Lib.hid (map_c (Holds.nil w) (by simp) wakeC ⟨by decide, by decide⟩)
  rw [ha] at X
  unfold Cl.v Cl.cells wakeC at X
  simp only at X
  clear ha
  go_enter Try.func9, Try.ntmps9
  go_wp2_with fail
  refine X.out.mono ?_
  rintro e w1 ⟨v1, rfl, hm, hb⟩
  obtain ⟨A1, c1, rfl⟩ := hm.is
  have B := Lib.hid (hb.alloc hb.size (.cells (ansC 0 2093056) 31))
  clear hb hm X
  unfold ansC at B
  unfold ansV ansC
  simp only [List.length_cons, List.length_nil]
  go_wp2_with fail
  go_ret
  exact ⟨rfl, B.out⟩

/-! A variable of a call is written. -/
section
variable {w wr : World} {l : List (Nat × TypeId × Array Value)} {q : Nat} {t : TypeId} {cs : Array Value} {x0 : Nat × TypeId × Array Value}
theorem Bag.set0 (h : Bag w wr ((q, t, cs) :: l)) (i : Nat) (u : Value) (hl : ∀ x ∈ l, x.1 ≠ q) (hq : w.heap.size ≤ q) : Bag w (wr.setCell ⟨q, i, none⟩ u) ((q, t, cs.setIfInBounds i u) :: l) := by
  refine ⟨fun x hx => ?_, h.bel.setCell (by simpa using hq) _⟩
  rcases List.mem_cons.1 hx with rfl | hx
  · exact h.v0.put i u
  · exact (h.all x (List.mem_cons_of_mem _ hx)).far (hl x hx) u
theorem Bag.set1 (h : Bag w wr (x0 :: (q, t, cs) :: l)) (i : Nat) (u : Value) (h0 : x0.1 ≠ q) (hl : ∀ x ∈ l, x.1 ≠ q) (hq : w.heap.size ≤ q) : Bag w (wr.setCell ⟨q, i, none⟩ u) (x0 :: (q, t, cs.setIfInBounds i u) :: l) := by
  refine ⟨fun x hx => ?_, h.bel.setCell (by simpa using hq) _⟩
  rcases List.mem_cons.1 hx with rfl | hx
  · exact (h.all _ (by simp)).far h0 u
  · rcases List.mem_cons.1 hx with rfl | hx
    · exact h.v1.put i u
    · exact (h.all x (List.mem_cons_of_mem _ (List.mem_cons_of_mem _ hx))).far (hl x hx) u
end
theorem nine {w : World} {q : Nat} {t : TypeId} {x0 x1 x2 x3 x4 x5 x6 x7 x8 : Value} (h : Whole w q t #[x0, x1, x2, x3, x4, x5, x6, x7, x8]) : w.cell? ⟨q, 0, none⟩ = some x0 ∧ w.cell? ⟨q, 1, none⟩ = some x1 ∧ w.cell? ⟨q, 2, none⟩ = some x2 ∧ w.cell? ⟨q, 3, none⟩ = some x3 ∧ w.cell? ⟨q, 4, none⟩ = some x4 ∧ w.cell? ⟨q, 5, none⟩ = some x5 ∧ w.cell? ⟨q, 6, none⟩ = some x6 ∧ w.cell? ⟨q, 7, none⟩ = some x7 ∧ w.cell? ⟨q, 8, none⟩ = some x8 :=
  ⟨h.cell 0, h.cell 1, h.cell 2, h.cell 3, h.cell 4, h.cell 5, h.cell 6, h.cell 7, h.cell 8⟩
theorem Bag.set2 {w wr : World} {l : List (Nat × TypeId × Array Value)} {q : Nat} {t : TypeId} {cs : Array Value} {x0 x1 : Nat × TypeId × Array Value} (h : Bag w wr (x0 :: x1 :: (q, t, cs) :: l)) (i : Nat) (u : Value) (h0 : x0.1 ≠ q) (h1 : x1.1 ≠ q) (hl : ∀ x ∈ l, x.1 ≠ q) (hq : w.heap.size ≤ q) : Bag w (wr.setCell ⟨q, i, none⟩ u) (x0 :: x1 :: (q, t, cs.setIfInBounds i u) :: l) := by
  have hb := Bag.set1 h.tail i u h1 hl hq
  refine ⟨fun x hx => ?_, hb.bel⟩
  rcases List.mem_cons.1 hx with rfl | hx
  · exact (h.all _ (by simp)).far h0 u
  · exact hb.all x hx
/-- What a map comes to is right. -/
theorem mapR_right {X : List Ar} (hX : MayL X) {c : Cl} : RightL (mapR X c).1 := by
  unfold mapR
  by_cases he : wtE X c = 0
  · rw [if_pos he]
    by_cases hm : (putC X (wtA X c)).length ≤ 24
    · rw [if_pos hm]; exact putC_right hX.1 (wt_zero.1 he).formed
    · rw [if_neg hm]; exact hX.1
  · rw [if_neg he]; exact hX.1
end Go.Proofs.Ytfejoeidffnadaa

/-
  Layer 10: what follows, without a program: flags, fixed places, and what a range touches.
-/
namespace Go.Proofs.Ytfejoeidffnadaa
set_option linter.unusedVariables false

/-- The bits of flags of 8 bits. -/
theorem bits_fin : ∀ f : Fin 256, (bitF (f.val : Int) 1 = decide (f.val % 2 = 1)) ∧ (bitF (f.val : Int) 2 = decide (f.val / 2 % 2 = 1)) ∧ (bitF (f.val : Int) 4 = decide (f.val / 4 % 2 = 1)) ∧ (bitF (f.val : Int) 8 = decide (f.val / 8 % 2 = 1)) := by decide +kernel
theorem bits_byte {f : Int} (h0 : 0 ≤ f) (h1 : f < 256) : (bitF f 1 = decide (f % 2 = 1)) ∧ (bitF f 2 = decide (f / 2 % 2 = 1)) ∧ (bitF f 4 = decide (f / 4 % 2 = 1)) ∧ (bitF f 8 = decide (f / 8 % 2 = 1)) := by
  obtain ⟨n, rfl⟩ : ∃ n : Nat, f = (n : Int) := ⟨f.toNat, by omega⟩
  have h := bits_fin ⟨n, by omega⟩
  simp only at h
  obtain ⟨e1, e2, e3, e4⟩ := h
  rw [e1, e2, e3, e4]
  refine ⟨?_, ?_, ?_, ?_⟩ <;> (congr 1; simp only [eq_iff_iff]; omega)
/-- Flags that are all allowed. -/
theorem fl_zero {f : Int} (h : i64 f) : flE f 15 = 0 ↔ 0 ≤ f ∧ f ≤ 15 := by
  unfold flE
  by_cases hn : f < 0
  · rw [if_pos (.inl hn)]; constructor
    · intro h; cases h
    · intro h; omega
  · obtain ⟨n, rfl⟩ : ∃ n : Nat, f = (n : Int) := ⟨f.toNat, by omega⟩
    have hb : n < 2 ^ 63 := by unfold i64 at h; omega
    have hz := andNot_zero n 15 hb (by decide)
    have key : (∀ j, n.testBit j = true → (15 : Nat).testBit j = true) ↔ n ≤ 15 := by
      constructor
      · intro h
        have h2 : n / 16 = 0 := by
          apply Nat.eq_of_testBit_eq
          intro i
          rw [Nat.zero_testBit, show (16 : Nat) = 2 ^ 4 from rfl, Nat.testBit_div_two_pow]
          cases ht : n.testBit (i + 4) with
          | false => rfl
          | true =>
            have := h _ ht
            rw [show (15 : Nat) = 2 ^ 4 - 1 from rfl, Nat.testBit_two_pow_sub_one] at this
            simp at this
            omega
        omega
      · intro h j hj
        rw [show (15 : Nat) = 2 ^ 4 - 1 from rfl, Nat.testBit_two_pow_sub_one]
        rcases Nat.lt_or_ge j 4 with hlt | hge
        · simpa using hlt
        · have h1 : n < 2 ^ j := Nat.lt_of_lt_of_le (show n < 2 ^ 4 by omega) (Nat.pow_le_pow_right (by omega) hge)
          rw [Nat.testBit_lt_two_pow h1] at hj
          cases hj
    by_cases hk : bits .andNot .i64 (n : Int) 15 = 0
    · have := key.1 (hz.1 hk)
      rw [if_neg (by rintro (x | x); exact hn x; exact x hk)]
      constructor
      · intro _; omega
      · intro _; rfl
    · rw [if_pos (.inr hk)]
      constructor
      · intro h; cases h
      · intro h; exact absurd (hz.2 (key.2 (by omega))) hk
theorem fl_or (f a : Int) : flE f a = 0 ∨ flE f a = 1 := by unfold flE; split <;> simp
theorem fg_zero {f : Int} (h : i64 f) : fgE f = 0 ↔ (0 ≤ f ∧ f ≤ 15) ∧ f % 4 ≠ 2 := by
  unfold fgE
  by_cases hf : 0 ≤ f ∧ f ≤ 15
  · obtain ⟨e1, e2, _, _⟩ := bits_byte (f := f) (by omega) (by omega)
    rw [e1, e2]
    by_cases h4 : f % 4 = 2
    · rw [if_pos (by simp only [decide_eq_true_eq, decide_eq_false_iff_not]; omega)]
      constructor
      · intro h; cases h
      · intro h; exact absurd h4 h.2
    · rw [if_neg (by simp only [decide_eq_true_eq, decide_eq_false_iff_not]; omega), (fl_zero h).2 hf]
      exact ⟨fun _ => ⟨hf, h4⟩, fun _ => rfl⟩
  · constructor
    · intro hz
      by_cases hc : bitF f 2 = true ∧ bitF f 1 = false
      · rw [if_pos hc] at hz; cases hz
      · rw [if_neg hc] at hz; exact absurd ((fl_zero h).1 hz) hf
    · intro hz; exact absurd hz.1 hf
theorem fg_or (f : Int) : fgE f = 0 ∨ fgE f = 1 := by
  unfold fgE
  by_cases h : bitF f 2 = true ∧ bitF f 1 = false
  · rw [if_pos h]; exact .inr rfl
  · rw [if_neg h]; exact fl_or f 15

/-- A range that touches pages of a right list. -/
theorem inside_iff {X : List Ar} (hX : RightL X) (lo hi : Int) : insideL lo hi X ≠ [] ↔ ∃ p : Int, tab X p ≠ none ∧ Touch lo hi p := by
  constructor
  · intro h
    obtain ⟨b, hb⟩ := List.exists_mem_of_ne_nil _ h
    obtain ⟨a, ha, hb⟩ := List.mem_flatMap.1 hb
    obtain ⟨hp, rfl⟩ := partL_mem hb
    obtain ⟨hf, _, _, hc, _⟩ := part_is hp
    have h1 := (hc _).1 (cov_first hf)
    refine ⟨_, ?_, h1.2⟩
    rw [tab_of (right_disj hX) ha h1.1]; simp
  · rintro ⟨p, h1, h2⟩ h
    cases ht : tab X p with
    | none => exact h1 ht
    | some x =>
      obtain ⟨a, ha, hc, _⟩ := tab_some ht
      have hp := part_cov (right_formed hX a ha) hc h2
      have : a.part lo hi ∈ insideL lo hi X := List.mem_flatMap.2 ⟨a, ha, by unfold partL; rw [if_pos hp]; simp⟩
      rw [h] at this; cases this

/-! What a map comes to. -/
theorem mapR_is (X : List Ar) (c : Cl) : ((mapR X c).2.1 ≠ 0 ∧ (mapR X c).1 = X ∧ (mapR X c).2.2 = 0) ∨ (Asks X c ∧ (putC X (wtA X c)).length ≤ 24 ∧ mapR X c = (putC X (wtA X c), 0, (wtA X c).s)) := by
  unfold mapR
  by_cases he : wtE X c = 0
  · rw [if_pos he]
    by_cases hm : (putC X (wtA X c)).length ≤ 24
    · rw [if_pos hm]; exact .inr ⟨wt_zero.1 he, hm, rfl⟩
    · rw [if_neg hm]; exact .inl ⟨by simp, rfl, rfl⟩
  · rw [if_neg he]; exact .inl ⟨he, rfl, rfl⟩
theorem mapR_ok {X : List Ar} {c : Cl} (h : Asks X c) (hm : (putC X (wtA X c)).length ≤ 24) : mapR X c = (putC X (wtA X c), 0, (wtA X c).s) := by
  unfold mapR
  rw [if_pos (wt_zero.2 h), if_pos hm]
end Go.Proofs.Ytfejoeidffnadaa
