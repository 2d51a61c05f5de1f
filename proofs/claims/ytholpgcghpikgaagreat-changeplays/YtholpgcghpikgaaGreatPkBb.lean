/-
  Texts of our own, one behind the other (BkDo): what the laws' proofs rest on; each says at its head what it holds. No conditions.
-/
import Derived.Test.YtholpgcghpikgaaGreatPkBa
import Derived.Test.YtholpgcghpikgaaGreatPkLc
/-
  Layer 13: growing, shrinking, and a move: a contract for each call.
-/
namespace Go.Proofs.YtholpgcghpikgaaGreat
open Go.ChangeShapes Go.WideShapes Go.ChangeAt Go.RowKit Go.Shelf
set_option linter.unusedVariables false

/-- A list, and an error. -/
def GivesM (w : World) (y : List Ar × Int) (r : Ending) (w' : World) : Prop := ∃ v', r = .returned (.tuple #[v', .int .i64 y.2]) ∧ Holds w' v' y.1 ∧ Below w.heap.size w w'
/-- A list of its own, a break, and an answer. -/
def GivesB (w : World) (Y : List Ar) (n e x : Int) (r : Ending) (w' : World) : Prop := ∃ v', r = .returned (.tuple #[v', .int .i64 n, ansV e x]) ∧ Mine w.heap.size w' v' Y ∧ Below w.heap.size w w'
theorem results_tmp2_row {P : Program} {fn : Func} {p u u2 : Tmp} {ty : TypeId} (h : fn.results = #[.tmp u, .tmp u2, .cell p ty]) (tmps : Array Value) (w : World) (g : Nat) (t : TypeId) (cs : Array Value) (fr : Nat × Nat) (d : TypeDesc)
    (hp : tmps.getD p undef = .pointer (some ⟨g, 0, none⟩)) (hg : w.heap[g]? = some (.cells cs t fr))
    (hu : P.underlying ty = some d) (hd : (match d with | .struct _ | .array _ _ => true | _ => false) = true) (hi : (P.info? ty).map (·.size) = some cs.size) :
    (results fn tmps).run P w = .ok (.tuple #[tmps.getD u undef, tmps.getD u2 undef, .agg cs]) w := by
  have e : (results fn tmps).run P w = ((asAddr (tmps.getD p undef)).run P w).andThen fun a w₁ => ((loadVar ty a).run P w₁).andThen fun v w₂ => .ok (.tuple #[tmps.getD u undef, tmps.getD u2 undef, v]) w₂ := by
    simp only [results, h]
    simp [Sem.run_bind, Result.andThen]
  rw [e, hp]
  simp [asAddr, Result.andThen, run_loadVar_row w g t ty cs fr d hg hu hd hi]

theorem nineB {w : World} {q : Nat} {t : TypeId} {x0 x1 x2 x3 x4 x5 x6 x7 x8 : Value} (h : Whole w q t #[x0, x1, x2, x3, x4, x5, x6, x7, x8]) : w.cell? ⟨q, 0, none⟩ = some x0 ∧ w.cell? ⟨q, 1, none⟩ = some x1 ∧ w.cell? ⟨q, 2, none⟩ = some x2 ∧ w.cell? ⟨q, 3, none⟩ = some x3 ∧ w.cell? ⟨q, 4, none⟩ = some x4 ∧ w.cell? ⟨q, 5, none⟩ = some x5 ∧ w.cell? ⟨q, 6, none⟩ = some x6 ∧ w.cell? ⟨q, 7, none⟩ = some x7 ∧ w.cell? ⟨q, 8, none⟩ = some x8 :=
  ⟨h.cell 0, h.cell 1, h.cell 2, h.cell 3, h.cell 4, h.cell 5, h.cell 6, h.cell 7, h.cell 8⟩

section
variable {w : World} {v : Value} {X : List Ar}
set_option maxHeartbeats 1000000 in
theorem bkGrown_no (h : Holds w v X) (hl : X.length ≤ 10000) (lo hi : Int) (hn : 0 ≤ lo ∧ lo < hi ∧ hi ≤ 2097152) (hf : ¬ FitsAt X lo (hi - lo)) : Calls Tryz.prog 90 #[v, .int .i64 lo, .int .i64 hi] w (GivesM w ([], 5)) := by
  obtain ⟨n1, n2, n3⟩ := hn
  have CF := Lib.hid (fits_no h hl hf)
  have e1 : IntKind.i64.wrap (hi - lo) = hi - lo := by rw [IntKind.wrap_i64]; omega
  obtain ⟨A, cc, rfl⟩ := h.is
  clear h hl hf
  generalize hn : X.length = n at *
  clear hn
  go_enter Tryz.func90, Tryz.ntmps90
  go_wp2_with fail
  refine CF.out.mono ?_
  rintro e w1 ⟨rfl, hb⟩
  have B := Lib.hid hb
  clear hb CF
  go_wp2_with fail
  go_ret2
  exact ⟨_, rfl, Holds.nil _, B.out⟩
set_option maxHeartbeats 1000000 in
theorem grown_yes (h : Holds w v X) (hX : RightL X) (hl : X.length ≤ 10000) (lo hi : Int) (hn : 0 ≤ lo ∧ lo < hi ∧ hi ≤ 2097152) (ha : Formed (bkA lo hi)) (hf : FitsAt X lo (hi - lo)) : Calls Tryz.prog 90 #[v, .int .i64 lo, .int .i64 hi] w (GivesM w (putC X (bkA lo hi), 0)) := by
  obtain ⟨n1, n2, n3⟩ := hn
  have CF := Lib.hid (fits_yes h hl hf)
  have CP : Hid (∀ w' u, Holds w' u X → Calls Tryz.prog 39 #[u, .agg #[.int .i64 lo, .int .i64 hi, .int .i64 3, .bool false, .int .i64 0, .int .i64 0]] w' fun e w'' => ∃ v', e = .returned v' ∧ Holds w'' v' (putC X (bkA lo hi)) ∧ Below w'.heap.size w' w'') := Lib.hid (fun w' u h => put_c h hX ha)
  have KX := Lib.hid h
  have e1 : IntKind.i64.wrap (hi - lo) = hi - lo := by rw [IntKind.wrap_i64]; omega
  generalize putC X (bkA lo hi) = P at *
  obtain ⟨A, cc, rfl⟩ := h.is
  clear h hl hf ha hX
  generalize hn : X.length = n at *
  clear hn
  go_enter Tryz.func90, Tryz.ntmps90
  go_wp2_with fail
  refine CF.out.mono ?_
  rintro e w1 ⟨rfl, hb⟩
  have B := Lib.hid hb
  have KX := Lib.hid (KX.out.still hb)
  clear hb CF
  go_wp2_with fail
  refine (CP.out _ _ KX.out).mono ?_
  rintro e w2 ⟨v2, rfl, hm, hb⟩
  have B := Lib.hid (below_then B.out hb (Nat.le_refl _))
  have KP := Lib.hid hm
  clear hb CP hm KX
  go_wp2_with fail
  go_ret2
  exact ⟨_, rfl, KP.out, B.out⟩

/-! What a move comes to, however many areas there are. -/
set_option maxRecDepth 4000 in
set_option maxHeartbeats 4000000 in
theorem moved_err (h : Holds w v X) (hl : X.length ≤ 10000) (now to' : Int) (he : bwE X now to' ≠ 0) : Calls Tryz.prog 48 #[v, .int .i64 now, .int .i64 to'] w (GivesM w ([], bwE X now to')) := by
  have CS := Lib.hid (bkSpace_c h hl now)
  have CB := Lib.hid (bkError_any to')
  have CO : Hid (∀ W : World, Calls Tryz.prog 41 #[.slice (some ⟨W.heap.size, 0, none⟩) 2 2] (W.alloc (.cells #[.int .i64 (bwE1 X now), .int .i64 (bwE2 to')] 30)) fun r w' => r = .returned (.int .i64 (bwE X now to')) ∧ w' = W.alloc (.cells #[.int .i64 (bwE1 X now), .int .i64 (bwE2 to')] 30)) := Lib.hid (fun W => or_two W 30 _ _)
  have he' : (bwE X now to' != 0) = true := by simpa using he
  clear he
  generalize bwE X now to' = ee at *
  generalize bwE1 X now = e1 at *
  generalize bwE2 to' = e2 at *
  obtain ⟨A, cc, rfl⟩ := h.is
  clear h hl
  generalize hn : X.length = n at *
  clear hn
  go_enter Tryz.func48, Tryz.ntmps48
  go_wp2_with fail
  refine CS.out.mono ?_
  rintro r w1 ⟨rfl, hb⟩
  have B := Lib.hid hb
  clear hb CS
  go_wp2_with fail
  refine (CB.out _).mono ?_
  rintro r w2 ⟨rfl, hb⟩
  have B := Lib.hid (below_then B.out hb (Nat.le_refl _))
  clear hb CB
  go_wp2_with fail
  refine (CO.out _).mono ?_
  rintro r w3 ⟨rfl, hw⟩
  have B : Hid (Below w.heap.size w w3) := Lib.hid (by rw [hw]; exact B.out.alloc B.out.size _)
  clear hw CO
  go_wp2_with fail
  go_ret2
  exact ⟨_, rfl, Holds.nil _, B.out⟩

set_option maxRecDepth 4000 in
set_option maxHeartbeats 8000000 in
theorem moved_ok (h : Holds w v X) (hl : X.length ≤ 10000) (now to' : Int) (he : bwE X now to' = 0) : Calls Tryz.prog 48 #[v, .int .i64 now, .int .i64 to'] w (GivesM w (bkM X (bkEnd now) (bkEnd to'))) := by
  obtain ⟨hX, h1, h2⟩ := bwE_zero.1 he
  have CS := Lib.hid (bkSpace_c h hl now)
  have CB := Lib.hid (bkError_any to')
  have CO : Hid (∀ W : World, Calls Tryz.prog 41 #[.slice (some ⟨W.heap.size, 0, none⟩) 2 2] (W.alloc (.cells #[.int .i64 (bwE1 X now), .int .i64 (bwE2 to')] 30)) fun r w' => r = .returned (.int .i64 0) ∧ w' = W.alloc (.cells #[.int .i64 (bwE1 X now), .int .i64 (bwE2 to')] 30)) := Lib.hid (fun W => by
    have := or_two W 30 (bwE1 X now) (bwE2 to')
    rwa [show firstE [bwE1 X now, bwE2 to'] = 0 from he] at this)
  have C1 := Lib.hid (bkEnd_any now h1)
  have C2 := Lib.hid (bkEnd_any to' h2)
  have n1 := bkEnd_num h1
  have n2 := bkEnd_num h2
  have CG : Hid (bkEnd now < bkEnd to' → ∀ w' u, Holds w' u X → Calls Tryz.prog 90 #[u, .int .i64 (bkEnd now), .int .i64 (bkEnd to')] w' fun r w'' => ∃ v', r = .returned (.tuple #[v', .int .i64 (bkM X (bkEnd now) (bkEnd to')).2]) ∧ Holds w'' v' (bkM X (bkEnd now) (bkEnd to')).1 ∧ Below w'.heap.size w' w'') := Lib.hid (fun hlt w' u h => by
    unfold bkM
    rw [if_pos hlt]
    by_cases hf : FitsAt X (bkEnd now) (bkEnd to' - bkEnd now)
    · rw [if_pos hf]; exact grown_yes h hX.1 hl _ _ (by omega) (fits_formed (X := X) h1 h2 hlt) hf
    · rw [if_neg hf]; exact bkGrown_no h hl _ _ (by omega) hf)
  have CC : Hid (∀ w' u, Holds w' u X → Calls Tryz.prog 43 #[u, .int .i64 (bkEnd to'), .int .i64 (bkEnd now)] w' fun r w'' => ∃ v', r = .returned v' ∧ Holds w'' v' (outsideL (bkEnd to') (bkEnd now) X) ∧ Below w'.heap.size w' w'') := Lib.hid (fun w' u h => cut_c h hX.1 _ _)
  have HC : Hid (¬ bkEnd now < bkEnd to' → bkM X (bkEnd now) (bkEnd to') = (outsideL (bkEnd to') (bkEnd now) X, 0)) := Lib.hid (fun h => bkM_cut h)
  have KX := Lib.hid h
  clear he h1 h2 n1 n2 hX
  generalize bwE1 X now = e1 at *
  generalize bwE2 to' = e2 at *
  generalize outsideL (bkEnd to') (bkEnd now) X = O at *
  generalize bkM X (bkEnd now) (bkEnd to') = M at *
  generalize bkEnd now = lo at *
  generalize bkEnd to' = hi at *
  obtain ⟨P, pe⟩ := M
  obtain ⟨A, cc, rfl⟩ := h.is
  clear h hl
  generalize hn : X.length = n at *
  clear hn
  simp only at CG
  by_cases hlt : lo < hi
  · have CG := Lib.hid (CG.out hlt)
    clear CC HC
    go_enter Tryz.func48, Tryz.ntmps48
    go_wp2_with fail
    refine CS.out.mono ?_
    rintro r w1 ⟨rfl, hb⟩
    have B := Lib.hid hb
    have KX := Lib.hid (KX.out.still hb)
    clear hb CS
    go_wp2_with fail
    refine (CB.out _).mono ?_
    rintro r w2 ⟨rfl, hb⟩
    have B := Lib.hid (below_then B.out hb (Nat.le_refl _))
    have KX := Lib.hid (KX.out.still hb)
    clear hb CB
    go_wp2_with fail
    refine (CO.out _).mono ?_
    rintro r w3 ⟨rfl, hw⟩
    have BN : Hid (Below w2.heap.size w2 w3) := Lib.hid (by rw [hw]; exact below_new _ _)
    have B := Lib.hid (below_then B.out BN.out (Nat.le_refl _))
    have KX := Lib.hid (KX.out.still BN.out)
    clear hw CO BN
    go_wp2_with fail
    refine (C1.out _).mono ?_
    rintro r w4 ⟨rfl, hb⟩
    have B := Lib.hid (below_then B.out hb (Nat.le_refl _))
    have KX := Lib.hid (KX.out.still hb)
    clear hb C1
    go_wp2_with fail
    refine (C2.out _).mono ?_
    rintro r w5 ⟨rfl, hb⟩
    have B := Lib.hid (below_then B.out hb (Nat.le_refl _))
    have KX := Lib.hid (KX.out.still hb)
    clear hb C2
    go_wp2_with fail
    refine (CG.out _ _ KX.out).mono ?_
    rintro r w6 ⟨v6, rfl, hm, hb⟩
    have B := Lib.hid (below_then B.out hb (Nat.le_refl _))
    have KP := Lib.hid hm
    clear hb hm CG
    go_wp2_with fail
    go_ret2
    exact ⟨_, rfl, KP.out, B.out⟩
  · have HE : Hid ((P, pe) = (O, 0)) := Lib.hid (HC.out hlt)
    clear CG HC
    go_enter Tryz.func48, Tryz.ntmps48
    go_wp2_with fail
    refine CS.out.mono ?_
    rintro r w1 ⟨rfl, hb⟩
    have B := Lib.hid hb
    have KX := Lib.hid (KX.out.still hb)
    clear hb CS
    go_wp2_with fail
    refine (CB.out _).mono ?_
    rintro r w2 ⟨rfl, hb⟩
    have B := Lib.hid (below_then B.out hb (Nat.le_refl _))
    have KX := Lib.hid (KX.out.still hb)
    clear hb CB
    go_wp2_with fail
    refine (CO.out _).mono ?_
    rintro r w3 ⟨rfl, hw⟩
    have BN : Hid (Below w2.heap.size w2 w3) := Lib.hid (by rw [hw]; exact below_new _ _)
    have B := Lib.hid (below_then B.out BN.out (Nat.le_refl _))
    have KX := Lib.hid (KX.out.still BN.out)
    clear hw CO BN
    go_wp2_with fail
    refine (C1.out _).mono ?_
    rintro r w4 ⟨rfl, hb⟩
    have B := Lib.hid (below_then B.out hb (Nat.le_refl _))
    have KX := Lib.hid (KX.out.still hb)
    clear hb C1
    go_wp2_with fail
    refine (C2.out _).mono ?_
    rintro r w5 ⟨rfl, hb⟩
    have B := Lib.hid (below_then B.out hb (Nat.le_refl _))
    have KX := Lib.hid (KX.out.still hb)
    clear hb C2
    go_wp2_with fail
    refine (CC.out _ _ KX.out).mono ?_
    rintro r w6 ⟨v6, rfl, hm, hb⟩
    have B := Lib.hid (below_then B.out hb (Nat.le_refl _))
    have KP := Lib.hid hm
    clear hb hm CC
    go_wp2_with fail
    go_ret2
    rw [HE.out]
    exact ⟨_, rfl, KP.out, B.out⟩
theorem bkMoved_c (h : Holds w v X) (hl : X.length ≤ 10000) (now to' : Int) : Calls Tryz.prog 48 #[v, .int .i64 now, .int .i64 to'] w (GivesM w (bkW X now to')) := by
  unfold bkW
  by_cases he : bwE X now to' = 0
  · rw [if_pos he]; exact moved_ok h hl now to' he
  · rw [if_neg he]; exact moved_err h hl now to' he

/-! A move. -/
set_option maxRecDepth 4000 in
set_option maxHeartbeats 8000000 in
theorem move_bad (h : Holds w v X) (hl : X.length ≤ 10000) (now : Int) (c : Cl) {ke kx : Int} {Z : List Ar} {e : Int} (he : e ≠ 0) (hf : firstE [(bkW X now (bkTo now c.a)).2, ke] = e)
    (hk : ∀ w' u u', Holds w' u X → Holds w' u' (bkW X now (bkTo now c.a)).1 → Calls Tryz.prog 38 #[u, u', .int .i64 (bkTo now c.a)] w' (Gives w' Z ke kx)) : Calls Tryz.prog 23 #[v, .int .i64 now, c.v] w (GivesB w X now e 0) := by
  have G := Lib.hid (((Bag.new w).add 38 c.cells).add 34 (ansC 0 0))
  rw [World.size_alloc] at G
  have KX := Lib.hid (h.still G.out.bel)
  have CT : Hid (∀ W : World, Calls Tryz.prog 47 #[.slice (some ⟨W.heap.size, 0, none⟩) 2 2] (W.alloc (.cells #[.int .i64 c.a, .int .i64 now] 2)) fun r w' => r = .returned (.int .i64 (bkTo now c.a)) ∧ w' = W.alloc (.cells #[.int .i64 c.a, .int .i64 now] 2)) := Lib.hid (fun W => or64_two W 2 _ _)
  have CM : Hid (∀ w' u, Holds w' u X → Calls Tryz.prog 48 #[u, .int .i64 now, .int .i64 (bkTo now c.a)] w' fun e w'' => ∃ v', e = .returned (.tuple #[v', .int .i64 (bkW X now (bkTo now c.a)).2]) ∧ Holds w'' v' (bkW X now (bkTo now c.a)).1 ∧ Below w'.heap.size w' w'') := Lib.hid (fun w' u h => bkMoved_c h hl now _)
  have CK : Hid (∀ w' u u', Holds w' u X → Holds w' u' (bkW X now (bkTo now c.a)).1 → Calls Tryz.prog 38 #[u, u', .int .i64 (bkTo now c.a)] w' fun e w'' => ∃ v', e = .returned (.tuple #[v', .agg #[.int .i64 ke, .int .i64 kx, .int .i64 0, .bool false, .int .i64 0, .int .i64 0]]) ∧ Mine w'.heap.size w'' v' Z ∧ Below w'.heap.size w' w'') := Lib.hid hk
  have CC : Hid (∀ w' u, Holds w' u X → Calls Tryz.prog 18 #[u] w' fun e w'' => ∃ v', e = .returned v' ∧ Mine w'.heap.size w'' v' X ∧ Below w'.heap.size w' w'') := Lib.hid (fun w' u h => clone_c h hl)
  have he' : (e != 0) = true := by simpa using he
  clear hk he
  generalize (bkW X now (bkTo now c.a)).1 = P at *
  generalize (bkW X now (bkTo now c.a)).2 = we at *
  generalize bkTo now c.a = ax at *
  have CO : Hid (∀ W : World, Calls Tryz.prog 41 #[.slice (some ⟨W.heap.size, 0, none⟩) 2 2] (W.alloc (.cells #[.int .i64 we, .int .i64 ke] 30)) fun r w' => r = .returned (.int .i64 e) ∧ w' = W.alloc (.cells #[.int .i64 we, .int .i64 ke] 30)) := Lib.hid (fun W => by
    have := or_two W 30 we ke
    rwa [hf] at this)
  clear hf
  obtain ⟨A, cc, rfl⟩ := h.is
  clear h hl
  generalize hn : X.length = n at *
  clear hn
  obtain ⟨ck, ca, cn, cnw, ctw, cp, cf, cb, co⟩ := c
  unfold Cl.v ansC at *
  simp only [Cl.cells] at *
  go_enter Tryz.func23, Tryz.ntmps23
  obtain ⟨c0, c1, c2, c3, c4, c5, c6, c7, c8⟩ := nineB G.out.v1
  go_upto_region 1 with (fail)
  generalize hw0 : World.alloc (World.alloc w _) _ = w0 at *
  clear hw0
  go_wp2_with fail
  refine (CT.out _).mono ?_
  rintro r w1 ⟨rfl, hw⟩
  have BN : Hid (Below w0.heap.size w0 w1) := Lib.hid (by rw [hw]; exact below_new _ _)
  have G := Lib.hid (G.out.still BN.out)
  have KX := Lib.hid (KX.out.still BN.out)
  clear hw CT BN c0 c1 c2 c3 c4 c5 c6 c7 c8
  go_wp2_with fail
  refine (CM.out _ _ KX.out).mono ?_
  rintro r w1 ⟨v1, rfl, hp, hb⟩
  obtain ⟨A1, dd, rfl⟩ := hp.is
  have G := Lib.hid (G.out.still hb)
  have KX := Lib.hid (KX.out.still hb)
  have KP := Lib.hid hp
  clear hb hp CM
  generalize hn : P.length = m at *
  clear hn
  go_wp2_with fail
  refine (CK.out _ _ _ KX.out KP.out).mono ?_
  rintro r w2 ⟨v2, rfl, hm, hb⟩
  have G := Lib.hid ((G.out.still hb).add 34 #[.int .i64 ke, .int .i64 kx, .int .i64 0, .bool false, .int .i64 0, .int .i64 0])
  have KX := Lib.hid ((KX.out.still hb).still (below_new w2 (.cells #[.int .i64 ke, .int .i64 kx, .int .i64 0, .bool false, .int .i64 0, .int .i64 0] 34)))
  clear hm hb CK KP
  go_upto_region 4 with (fail)
  generalize hw3 : World.alloc w2 _ = w3 at *
  clear hw3
  generalize w2.heap.size = q at *
  obtain ⟨d0, d1, d2, d3, d4, d5⟩ := row6 G.out.v0
  go_wp2_with fail
  refine (CO.out _).mono ?_
  rintro r w4 ⟨rfl, hw⟩
  have BN : Hid (Below w3.heap.size w3 w4) := Lib.hid (by rw [hw]; exact below_new _ _)
  have G := Lib.hid (G.out.still BN.out)
  have KX := Lib.hid (KX.out.still BN.out)
  clear hw CO BN d0 d1 d2 d3 d4 d5
  go_wp2_with fail
  refine (CC.out _ _ KX.out).mono ?_
  rintro r w5 ⟨v5, rfl, hm, hb⟩
  have SZ := Lib.hid G.out.bel.size
  have G := Lib.hid (G.out.still hb)
  have M := Lib.hid (hm.base SZ.out)
  clear hm hb CC KX
  obtain ⟨⟨d0, d1, d2, d3, d4, d5⟩, ⟨f0, f1, f2, f3, f4, f5⟩⟩ := six_of G.out.v1
  go_wp2_with fail
  refine bodyPost_ret (results_tmp2_row rfl _ _ (w.heap.size + 1) 34 (ansC e 0) (0, 0) _ rfl (six_put G.out.v1 _ _ _ _ _ _) Tryz.underlying34 rfl (by kernel_rfl)) rfl ?_
  exact ⟨v5, rfl, mine_far M.out G.out.v1 _ _ _ _ _ _, G.out.bel.trans ((six_only w5 (w.heap.size + 1) _ _ _ _ _ _).below (fun k hk => by omega) G.out.bel.size)⟩

set_option maxRecDepth 4000 in
set_option maxHeartbeats 8000000 in
theorem move_good (h : Holds w v X) (hl : X.length ≤ 10000) (now : Int) (c : Cl) (he : (bkW X now (bkTo now c.a)).2 = 0) (hm : (bkW X now (bkTo now c.a)).1.length ≤ 24) : Calls Tryz.prog 23 #[v, .int .i64 now, c.v] w (GivesB w (bkW X now (bkTo now c.a)).1 (bkTo now c.a) 0 (bkTo now c.a)) := by
  have G := Lib.hid (((Bag.new w).add 38 c.cells).add 34 (ansC 0 0))
  rw [World.size_alloc] at G
  have KX := Lib.hid (h.still G.out.bel)
  have CT : Hid (∀ W : World, Calls Tryz.prog 47 #[.slice (some ⟨W.heap.size, 0, none⟩) 2 2] (W.alloc (.cells #[.int .i64 c.a, .int .i64 now] 2)) fun r w' => r = .returned (.int .i64 (bkTo now c.a)) ∧ w' = W.alloc (.cells #[.int .i64 c.a, .int .i64 now] 2)) := Lib.hid (fun W => or64_two W 2 _ _)
  have CM : Hid (∀ w' u, Holds w' u X → Calls Tryz.prog 48 #[u, .int .i64 now, .int .i64 (bkTo now c.a)] w' fun e w'' => ∃ v', e = .returned (.tuple #[v', .int .i64 (bkW X now (bkTo now c.a)).2]) ∧ Holds w'' v' (bkW X now (bkTo now c.a)).1 ∧ Below w'.heap.size w' w'') := Lib.hid (fun w' u h => bkMoved_c h hl now _)
  have CK : Hid (∀ w' u u', Holds w' u X → Holds w' u' (bkW X now (bkTo now c.a)).1 → Calls Tryz.prog 38 #[u, u', .int .i64 (bkTo now c.a)] w' fun e w'' => ∃ v', e = .returned (.tuple #[v', .agg #[.int .i64 0, .int .i64 (bkTo now c.a), .int .i64 0, .bool false, .int .i64 0, .int .i64 0]]) ∧ Mine w'.heap.size w'' v' (bkW X now (bkTo now c.a)).1 ∧ Below w'.heap.size w' w'') := Lib.hid (fun w' u u' h h' => kept_few h h' hm _)
  rw [he] at CM
  clear he hm
  generalize (bkW X now (bkTo now c.a)).1 = P at *
  generalize bkTo now c.a = ax at *
  have CO : Hid (∀ W : World, Calls Tryz.prog 41 #[.slice (some ⟨W.heap.size, 0, none⟩) 2 2] (W.alloc (.cells #[.int .i64 0, .int .i64 0] 30)) fun r w' => r = .returned (.int .i64 0) ∧ w' = W.alloc (.cells #[.int .i64 0, .int .i64 0] 30)) := Lib.hid (fun W => or_two W 30 0 0)
  obtain ⟨A, cc, rfl⟩ := h.is
  clear h hl
  generalize hn : X.length = n at *
  clear hn
  obtain ⟨ck, ca, cn, cnw, ctw, cp, cf, cb, co⟩ := c
  unfold Cl.v ansC at *
  simp only [Cl.cells] at *
  go_enter Tryz.func23, Tryz.ntmps23
  obtain ⟨c0, c1, c2, c3, c4, c5, c6, c7, c8⟩ := nineB G.out.v1
  go_upto_region 1 with (fail)
  generalize hw0 : World.alloc (World.alloc w _) _ = w0 at *
  clear hw0
  go_wp2_with fail
  refine (CT.out _).mono ?_
  rintro r w1 ⟨rfl, hw⟩
  have BN : Hid (Below w0.heap.size w0 w1) := Lib.hid (by rw [hw]; exact below_new _ _)
  have G := Lib.hid (G.out.still BN.out)
  have KX := Lib.hid (KX.out.still BN.out)
  clear hw CT BN c0 c1 c2 c3 c4 c5 c6 c7 c8
  go_wp2_with fail
  refine (CM.out _ _ KX.out).mono ?_
  rintro r w1 ⟨v1, rfl, hp, hb⟩
  obtain ⟨A1, dd, rfl⟩ := hp.is
  have G := Lib.hid (G.out.still hb)
  have KX := Lib.hid (KX.out.still hb)
  have KP := Lib.hid hp
  clear hb hp CM
  generalize hn : P.length = m at *
  clear hn
  go_wp2_with fail
  refine (CK.out _ _ _ KX.out KP.out).mono ?_
  rintro r w2 ⟨v2, rfl, hm, hb⟩
  have SZ := Lib.hid G.out.bel.size
  have G := Lib.hid ((G.out.still hb).add 34 #[.int .i64 0, .int .i64 ax, .int .i64 0, .bool false, .int .i64 0, .int .i64 0])
  have M := Lib.hid ((hm.base SZ.out).still (below_new w2 (.cells #[.int .i64 0, .int .i64 ax, .int .i64 0, .bool false, .int .i64 0, .int .i64 0] 34)))
  clear hm hb CK KP KX
  go_upto_region 4 with (fail)
  generalize hw3 : World.alloc w2 _ = w3 at *
  clear hw3
  generalize w2.heap.size = q at *
  obtain ⟨d0, d1, d2, d3, d4, d5⟩ := row6 G.out.v0
  go_wp2_with fail
  refine (CO.out _).mono ?_
  rintro r w4 ⟨rfl, hw⟩
  have BN : Hid (Below w3.heap.size w3 w4) := Lib.hid (by rw [hw]; exact below_new _ _)
  have G := Lib.hid (G.out.still BN.out)
  have M := Lib.hid (M.out.still BN.out)
  clear hw CO BN d0 d1 d2 d3 d4 d5
  obtain ⟨d0, d1, d2, d3, d4, d5⟩ := row6 G.out.v0
  obtain ⟨⟨g0, g1, g2, g3, g4, g5⟩, ⟨f0, f1, f2, f3, f4, f5⟩⟩ := six_of G.out.v1
  go_upto_region 7 with (fail)
  go_region
  have GW : Hid (Whole (set6 w4 (w.heap.size + 1) (.int .i64 0) (.int .i64 ax) (.int .i64 0) (.bool false) (.int .i64 0) (.int .i64 0)).drew (w.heap.size + 1) 34 (ansC 0 ax)) := Lib.hid (six_put G.out.v1 _ _ _ _ _ _).drew
  have MM : Hid (Mine w.heap.size (set6 w4 (w.heap.size + 1) (.int .i64 0) (.int .i64 ax) (.int .i64 0) (.bool false) (.int .i64 0) (.int .i64 0)).drew v2 P) := Lib.hid ((mine_far M.out G.out.v1 _ _ _ _ _ _).still (below_drew (Below.refl _ _)))
  have HB : Hid (Below w.heap.size w (set6 w4 (w.heap.size + 1) (.int .i64 0) (.int .i64 ax) (.int .i64 0) (.bool false) (.int .i64 0) (.int .i64 0)).drew) := Lib.hid (below_drew (G.out.bel.trans ((six_only w4 (w.heap.size + 1) _ _ _ _ _ _).below (fun k hk => by omega) G.out.bel.size)))
  clear M G d0 d1 d2 d3 d4 d5 g0 g1 g2 g3 g4 g5 f0 f1 f2 f3 f4 f5
  unfold set6 at GW MM HB
  generalize World.drew _ = wz at *
  go_wp2_with fail
  refine bodyPost_ret (results_tmp2_row rfl _ _ (w.heap.size + 1) 34 (ansC 0 ax) (0, 0) _ rfl GW.out Tryz.underlying34 rfl (by kernel_rfl)) rfl ?_
  exact ⟨v2, rfl, MM.out, HB.out⟩

theorem move_c (h : Holds w v X) (hl : X.length ≤ 10000) (now : Int) (c : Cl) : Calls Tryz.prog 23 #[v, .int .i64 now, c.v] w (GivesB w (bkR X now c.a).1 (bkR X now c.a).2.1 (bkR X now c.a).2.2.1 (bkR X now c.a).2.2.2) := by
  unfold bkR
  by_cases he : (bkW X now (bkTo now c.a)).2 = 0
  · rw [if_pos he]
    by_cases hm : (bkW X now (bkTo now c.a)).1.length ≤ 24
    · rw [if_pos hm]; exact move_good h hl now c he hm
    · rw [if_neg hm]
      exact move_bad h hl now c (ke := 9) (kx := 0) (Z := X) (e := 9) (by decide) (by rw [he]; rfl) fun w' u u' h1 h2 => kept_many h1 hl h2 (by omega) _
  · rw [if_neg he]
    have hz : (bkW X now (bkTo now c.a)).1 = [] := by
      unfold bkW at he ⊢
      by_cases h0 : bwE X now (bkTo now c.a) = 0
      · rw [if_pos h0] at he ⊢
        unfold bkM at he ⊢
        by_cases h1 : bkEnd now < bkEnd (bkTo now c.a)
        · rw [if_pos h1] at he ⊢
          by_cases h2 : FitsAt X (bkEnd now) (bkEnd (bkTo now c.a) - bkEnd now)
          · rw [if_pos h2] at he; exact absurd rfl he
          · rw [if_neg h2]
        · rw [if_neg h1] at he; exact absurd rfl he
      · rw [if_neg h0]
    exact move_bad h hl now c (ke := 0) (kx := bkTo now c.a) (Z := []) he (by unfold firstE; rw [if_neg he]) fun w' u u' h1 h2 => by
      rw [hz] at h2
      exact kept_few h1 h2 (by simp) _
end
end Go.Proofs.YtholpgcghpikgaaGreat
