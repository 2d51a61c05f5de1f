/-
  Texts of our own, one behind the other (RmWays): what the laws' proofs rest on; each says at its head what it holds. No conditions.
-/
import Derived.Test.YtholpgcghpikgaaGreatPkQa
import Derived.Deep.RegionHeld3
/-
  Layer 12: the ways: a contract for each call.
-/
namespace Go.Proofs.YtholpgcghpikgaaGreat
open Go.ChangeShapes Go.WideShapes Go.ChangeAt Go.RowKit Go.Shelf
set_option linter.unusedVariables false

/-- A list, where it begins, an error. -/
def Way (w : World) (r : List Ar × Int × Int) (e : Ending) (w' : World) : Prop := ∃ v', e = .returned (.tuple #[v', .int .i64 r.2.1, .int .i64 r.2.2]) ∧ Holds w' v' r.1 ∧ Below w.heap.size w w'
theorem or_seven (W : World) (t : TypeId) (e0 e1 e2 e3 e4 e5 e6 : Int) : Calls Tryz.prog 41 #[.slice (some ⟨W.heap.size, 0, none⟩) 7 7] (W.alloc (.cells #[.int .i64 e0, .int .i64 e1, .int .i64 e2, .int .i64 e3, .int .i64 e4, .int .i64 e5, .int .i64 e6] t)) fun e w' =>
    e = .returned (.int .i64 (firstE [e0, e1, e2, e3, e4, e5, e6])) ∧ w' = W.alloc (.cells #[.int .i64 e0, .int .i64 e1, .int .i64 e2, .int .i64 e3, .int .i64 e4, .int .i64 e5, .int .i64 e6] t) := by
  have hw := Whole.new W t #[.int .i64 e0, .int .i64 e1, .int .i64 e2, .int .i64 e3, .int .i64 e4, .int .i64 e5, .int .i64 e6]
  refine or_any [e0, e1, e2, e3, e4, e5, e6] (by simp) W.heap.size 7 _ fun i hi => ?_
  rw [hw.cell]
  simp at hi
  rcases (show i = 0 ∨ i = 1 ∨ i = 2 ∨ i = 3 ∨ i = 4 ∨ i = 5 ∨ i = 6 by omega) with rfl | rfl | rfl | rfl | rfl | rfl | rfl <;> rfl
theorem or_3 (W : World) (t : TypeId) (e0 e1 e2 : Int) : Calls Tryz.prog 41 #[.slice (some ⟨W.heap.size, 0, none⟩) 3 3] (W.alloc (.cells #[.int .i64 e0, .int .i64 e1, .int .i64 e2] t)) fun e w' =>
    e = .returned (.int .i64 (firstE [e0, e1, e2])) ∧ w' = W.alloc (.cells #[.int .i64 e0, .int .i64 e1, .int .i64 e2] t) := by
  have hw := Whole.new W t #[.int .i64 e0, .int .i64 e1, .int .i64 e2]
  refine or_any [e0, e1, e2] (by simp) W.heap.size 3 _ fun i hi => ?_
  rw [hw.cell]
  simp at hi
  rcases (show i = 0 ∨ i = 1 ∨ i = 2 by omega) with rfl | rfl | rfl <;> rfl
theorem Bag.pair {w wr : World} {l : List (Nat × TypeId × Array Value)} {q : Nat} {t : TypeId} {a0 a1 a2 a3 a4 a5 : Value} (h : Bag w wr ((q, t, #[a0, a1, a2, a3, a4, a5]) :: l)) (hl : ∀ x ∈ l, x.1 ≠ q) (hq : w.heap.size ≤ q) (x y : Value) : Bag w ((wr.setCell ⟨q, 0, none⟩ x).setCell ⟨q, 1, none⟩ y) ((q, t, #[x, y, a2, a3, a4, a5]) :: l) := by
  have ho : Only (fun k => k = q) wr ((wr.setCell ⟨q, 0, none⟩ x).setCell ⟨q, 1, none⟩ y) := ((Only.refl (fun k => k = q) wr).setCell (p := ⟨q, 0, none⟩) (.inl rfl) _).setCell (p := ⟨q, 1, none⟩) (.inl rfl) _
  have ht := h.tail.only ho (fun x hx => hl x hx) (fun k hk => by omega)
  exact ⟨fun z hz => (List.mem_cons.1 hz).elim (fun e => by rw [e]; exact (Whole.put h.v0 0 x).put 1 y) (fun hz => ht.all z hz), ht.bel⟩

section
variable {w : World} {v : Value} {a : Ask}
set_option maxRecDepth 4000 in
set_option maxHeartbeats 4000000 in
theorem moved_stays (h : Holds w v a.l) (hk : a.Ok) (ho : a.ofE = 0) {x : Int} (hx : 65536 ≤ x ∧ x % 4096 = 0 ∧ x + a.z ≤ 2097152) (hf : bitF a.f 32 = true) : Calls Tryz.prog 124 #[a.v v, .int .i64 x] w (Way w (a.mv x, x, 0)) := by
  have G : Hid (Bag w (w.alloc (.cells #[v, .int .i64 a.o.s, .int .i64 a.o.e, .int .i64 a.o.p, .bool a.o.sh, .int .i64 a.o.bk, .int .i64 a.o.off, .int .i64 a.z, .int .i64 a.t, .int .i64 a.f] 111)) [(w.heap.size, 111, #[v, .int .i64 a.o.s, .int .i64 a.o.e, .int .i64 a.o.p, .bool a.o.sh, .int .i64 a.o.bk, .int .i64 a.o.off, .int .i64 a.z, .int .i64 a.t, .int .i64 a.f])]) := Lib.hid ((Bag.new w).add 111 _)
  have KX := Lib.hid (h.still G.out.bel)
  have hz := hk.z
  have hw : IntKind.i64.wrap (x + a.z) = x + a.z := by rw [IntKind.wrap_i64]; omega
  have k1 : (bits .and .i64 a.f 32 == 0) = false := by simpa [bitF] using hf
  have CP : Hid (∀ w' u, Holds w' u a.base → Calls Tryz.prog 39 #[u, .agg #[.int .i64 x, .int .i64 (x + a.z), .int .i64 a.o.p, .bool a.o.sh, .int .i64 a.o.bk, .int .i64 a.o.off]] w' fun e w'' => ∃ v', e = .returned v' ∧ Holds w'' v' (a.mv x) ∧ Below w'.heap.size w' w'') := Lib.hid (fun w' u h => put_c h hk.base (hk.formed ho hx.1 hx.2.1 hx.2.2))
  rw [show a.base = a.l from by unfold Ask.base; rw [if_pos hf]] at CP
  generalize a.mv x = P at *
  obtain ⟨X, ⟨s, t, p, sh, bk, off⟩, z, tg, f⟩ := a
  obtain ⟨A, cc, rfl⟩ := h.is
  clear h hk ho hf
  unfold Ask.v Ask.cells
  simp only at *
  generalize hn : X.length = n at *
  clear hn
  go_enter Tryz.func124, Tryz.ntmps124
  obtain ⟨hx1, hx2, hx3⟩ := hx
  obtain ⟨hz1, hz2, hz3⟩ := hz
  obtain ⟨c0, c1, c2, c3, c4, c5, c6, c7, c8, c9⟩ := row10 G.out.v0
  have HS : Hid (∀ (x y : Value), Holds (((World.alloc (w.alloc (.cells #[.slice A n cc, .int .i64 s, .int .i64 t, .int .i64 p, .bool sh, .int .i64 bk, .int .i64 off, .int .i64 z, .int .i64 tg, .int .i64 f] 111)) (.cells #[.int .i64 s, .int .i64 t, .int .i64 p, .bool sh, .int .i64 bk, .int .i64 off] 52)).setCell ⟨((w.alloc (.cells #[.slice A n cc, .int .i64 s, .int .i64 t, .int .i64 p, .bool sh, .int .i64 bk, .int .i64 off, .int .i64 z, .int .i64 tg, .int .i64 f] 111))).heap.size, 0, none⟩ x).setCell ⟨((w.alloc (.cells #[.slice A n cc, .int .i64 s, .int .i64 t, .int .i64 p, .bool sh, .int .i64 bk, .int .i64 off, .int .i64 z, .int .i64 tg, .int .i64 f] 111))).heap.size, 1, none⟩ y).drew (.slice A n cc) X) := Lib.hid (fun x y => KX.out.still (below_drew (((below_new _ _).setCell (by simp) _).setCell (by simp) _)))
  have G := Lib.hid (G.out.add 52 #[.int .i64 s, .int .i64 t, .int .i64 p, .bool sh, .int .i64 bk, .int .i64 off])
  clear KX
  go_upto_region 5 with (fail)
  clear c0 c1 c2 c3 c4 c5 c6 c7 c8 c9
  rw [World.size_alloc] at G HS
  have HQ : Hid (w.heap.size + 1 ≠ w.heap.size ∧ w.heap.size ≤ w.heap.size + 1) := Lib.hid (by omega)
  generalize hw2 : World.alloc (World.alloc w _) _ = w2 at *
  clear hw2
  generalize hq : w.heap.size + 1 = q at *
  clear hq
  obtain ⟨c0, c1, c2, c3, c4, c5, c6, c7, c8, c9⟩ := row10 G.out.v1
  obtain ⟨d0, d1, d2, d3, d4, d5⟩ := row6 G.out.v0
  have f0 := G.out.v0.frozen 0
  have f1 := G.out.v0.frozen 1
  go_region
  have G := Lib.hid (G.out.pair (by simp; exact fun e => HQ.out.1 e.symm) HQ.out.2 (.int .i64 x) (.int .i64 (x + z))).drew
  have KX := Lib.hid (HS.out (.int .i64 x) (.int .i64 (x + z)))
  clear f0 f1 d0 d1 d2 d3 d4 d5 HS
  clear c0 c1 c2 c3 c4 c5 c6 c7 c8 c9
  generalize World.drew _ = w3 at *
  obtain ⟨d0, d1, d2, d3, d4, d5⟩ := row6 G.out.v0
  go_wp2_with fail
  refine (CP.out _ _ KX.out).mono ?_
  rintro e w4 ⟨vp, rfl, hp, hb⟩
  have G := Lib.hid (G.out.still hb)
  have KP := Lib.hid hp
  clear hb hp CP KX d0 d1 d2 d3 d4 d5
  go_wp2_with fail
  go_ret3
  exact ⟨_, rfl, KP.out, G.out.bel⟩

set_option maxRecDepth 4000 in
set_option maxHeartbeats 4000000 in
theorem moved_cut (h : Holds w v a.l) (hk : a.Ok) (ho : a.ofE = 0) {x : Int} (hx : 65536 ≤ x ∧ x % 4096 = 0 ∧ x + a.z ≤ 2097152) (hf : bitF a.f 32 = false) : Calls Tryz.prog 124 #[a.v v, .int .i64 x] w (Way w (a.mv x, x, 0)) := by
  have G : Hid (Bag w (w.alloc (.cells #[v, .int .i64 a.o.s, .int .i64 a.o.e, .int .i64 a.o.p, .bool a.o.sh, .int .i64 a.o.bk, .int .i64 a.o.off, .int .i64 a.z, .int .i64 a.t, .int .i64 a.f] 111)) [(w.heap.size, 111, #[v, .int .i64 a.o.s, .int .i64 a.o.e, .int .i64 a.o.p, .bool a.o.sh, .int .i64 a.o.bk, .int .i64 a.o.off, .int .i64 a.z, .int .i64 a.t, .int .i64 a.f])]) := Lib.hid ((Bag.new w).add 111 _)
  have KX := Lib.hid (h.still G.out.bel)
  have hz := hk.z
  have hw : IntKind.i64.wrap (x + a.z) = x + a.z := by rw [IntKind.wrap_i64]; omega
  have k1 : (bits .and .i64 a.f 32 == 0) = true := by simpa [bitF] using hf
  have CP : Hid (∀ w' u, Holds w' u a.base → Calls Tryz.prog 39 #[u, .agg #[.int .i64 x, .int .i64 (x + a.z), .int .i64 a.o.p, .bool a.o.sh, .int .i64 a.o.bk, .int .i64 a.o.off]] w' fun e w'' => ∃ v', e = .returned v' ∧ Holds w'' v' (a.mv x) ∧ Below w'.heap.size w' w'') := Lib.hid (fun w' u h => put_c h hk.base (hk.formed ho hx.1 hx.2.1 hx.2.2))
  have CC : Hid (∀ w' u, Holds w' u a.l → Calls Tryz.prog 43 #[u, .int .i64 a.o.s, .int .i64 a.o.e] w' fun e w'' => ∃ v', e = .returned v' ∧ Holds w'' v' a.base ∧ Below w'.heap.size w' w'') := Lib.hid (fun w' u h => by
    have := cut_c h hk.may.1 a.o.s a.o.e
    rwa [show outsideL a.o.s a.o.e a.l = a.base from by unfold Ask.base; rw [if_neg (by rw [hf]; simp)]] at this)
  generalize a.base = Q at *
  generalize a.mv x = P at *
  obtain ⟨X, ⟨s, t, p, sh, bk, off⟩, z, tg, f⟩ := a
  obtain ⟨A, cc, rfl⟩ := h.is
  clear h hk ho hf
  unfold Ask.v Ask.cells
  simp only at *
  generalize hn : X.length = n at *
  clear hn
  go_enter Tryz.func124, Tryz.ntmps124
  obtain ⟨hx1, hx2, hx3⟩ := hx
  obtain ⟨hz1, hz2, hz3⟩ := hz
  obtain ⟨c0, c1, c2, c3, c4, c5, c6, c7, c8, c9⟩ := row10 G.out.v0
  go_wp2_with fail
  refine (CC.out _ _ KX.out).mono ?_
  rintro e w1 ⟨v1, rfl, hq, hb⟩
  obtain ⟨A1, dd, rfl⟩ := hq.is
  have SZ := Lib.hid (Nat.le_trans G.out.bel.size hb.size)
  have G := Lib.hid (G.out.still hb)
  have KX := Lib.hid hq
  clear hb hq CC
  generalize hn : Q.length = m at *
  clear hn
  clear c0 c1 c2 c3 c4 c5 c6 c7 c8 c9
  obtain ⟨c0, c1, c2, c3, c4, c5, c6, c7, c8, c9⟩ := row10 G.out.v0
  have HS : Hid (∀ (x y : Value), Holds (((World.alloc w1 (.cells #[.int .i64 s, .int .i64 t, .int .i64 p, .bool sh, .int .i64 bk, .int .i64 off] 52)).setCell ⟨(w1).heap.size, 0, none⟩ x).setCell ⟨(w1).heap.size, 1, none⟩ y).drew (.slice A1 m dd) Q) := Lib.hid (fun x y => KX.out.still (below_drew (((below_new _ _).setCell (by simp) _).setCell (by simp) _)))
  have G := Lib.hid (G.out.add 52 #[.int .i64 s, .int .i64 t, .int .i64 p, .bool sh, .int .i64 bk, .int .i64 off])
  clear KX
  go_upto_region 5 with (fail)
  clear c0 c1 c2 c3 c4 c5 c6 c7 c8 c9
  have HQ : Hid (w1.heap.size ≠ w.heap.size ∧ w.heap.size ≤ w1.heap.size) := Lib.hid ⟨G.out.v0.apart G.out.v1 (by decide), SZ.out⟩
  clear SZ
  generalize hw2 : World.alloc w1 _ = w2 at *
  clear hw2
  generalize w1.heap.size = q at *
  obtain ⟨c0, c1, c2, c3, c4, c5, c6, c7, c8, c9⟩ := row10 G.out.v1
  obtain ⟨d0, d1, d2, d3, d4, d5⟩ := row6 G.out.v0
  have f0 := G.out.v0.frozen 0
  have f1 := G.out.v0.frozen 1
  go_region
  have G := Lib.hid (G.out.pair (by simp; exact fun e => HQ.out.1 e.symm) HQ.out.2 (.int .i64 x) (.int .i64 (x + z))).drew
  have KX := Lib.hid (HS.out (.int .i64 x) (.int .i64 (x + z)))
  clear f0 f1 d0 d1 d2 d3 d4 d5 HS
  clear c0 c1 c2 c3 c4 c5 c6 c7 c8 c9
  generalize World.drew _ = w3 at *
  obtain ⟨d0, d1, d2, d3, d4, d5⟩ := row6 G.out.v0
  go_wp2_with fail
  refine (CP.out _ _ KX.out).mono ?_
  rintro e w4 ⟨vp, rfl, hp, hb⟩
  have G := Lib.hid (G.out.still hb)
  have KP := Lib.hid hp
  clear hb hp CP KX d0 d1 d2 d3 d4 d5
  go_wp2_with fail
  go_ret3
  exact ⟨_, rfl, KP.out, G.out.bel⟩

theorem moved_c (h : Holds w v a.l) (hk : a.Ok) (ho : a.ofE = 0) {x : Int} (hx : 65536 ≤ x ∧ x % 4096 = 0 ∧ x + a.z ≤ 2097152) : Calls Tryz.prog 124 #[a.v v, .int .i64 x] w (Way w (a.mv x, x, 0)) := by
  cases hf : bitF a.f 32 with
  | true => exact moved_stays h hk ho hx hf
  | false => exact moved_cut h hk ho hx hf

set_option maxRecDepth 4000 in
set_option maxHeartbeats 4000000 in
theorem else_err (h : Holds w v a.l) (hk : a.Ok) (he : (plR a.l 0 a.z 0).2 ≠ 0) : Calls Tryz.prog 83 #[a.v v] w (Way w ([], 0, (plR a.l 0 a.z 0).2)) := by
  have G : Hid (Bag w (w.alloc (.cells #[v, .int .i64 a.o.s, .int .i64 a.o.e, .int .i64 a.o.p, .bool a.o.sh, .int .i64 a.o.bk, .int .i64 a.o.off, .int .i64 a.z, .int .i64 a.t, .int .i64 a.f] 111)) [(w.heap.size, 111, #[v, .int .i64 a.o.s, .int .i64 a.o.e, .int .i64 a.o.p, .bool a.o.sh, .int .i64 a.o.bk, .int .i64 a.o.off, .int .i64 a.z, .int .i64 a.t, .int .i64 a.f])]) := Lib.hid ((Bag.new w).add 111 _)
  have KX := Lib.hid (h.still G.out.bel)
  have CP : Hid (∀ w' u, Holds w' u a.l → Calls Tryz.prog 73 #[u, .int .i64 0, .int .i64 a.z, .int .i64 0] w' fun e w'' => e = .returned (.tuple #[.int .i64 (plR a.l 0 a.z 0).1, .int .i64 (plR a.l 0 a.z 0).2]) ∧ Below w'.heap.size w' w'') := Lib.hid (fun w' u h => place_c h hk.may 0 a.z 0 (by have := hk.z; omega))
  generalize (plR a.l 0 a.z 0).1 = p1 at *
  generalize (plR a.l 0 a.z 0).2 = p2 at *
  have he' : (p2 != 0) = true := by simpa using he
  obtain ⟨X, ⟨s, t, p, sh, bk, off⟩, z, tg, f⟩ := a
  obtain ⟨A, cc, rfl⟩ := h.is
  clear h hk he
  unfold Ask.v Ask.cells
  simp only at *
  generalize hn : X.length = n at *
  clear hn
  go_enter Tryz.func83, Tryz.ntmps83
  obtain ⟨c0, c1, c2, c3, c4, c5, c6, c7, c8, c9⟩ := row10 G.out.v0
  go_wp2_with fail
  refine (CP.out _ _ KX.out).mono ?_
  rintro e w1 ⟨rfl, hb⟩
  have G := Lib.hid (G.out.still hb)
  have KX := Lib.hid (KX.out.still hb)
  clear hb CP KX c0 c1 c2 c3 c4 c5 c6 c7 c8 c9
  go_wp2_with fail
  go_ret3
  exact ⟨_, rfl, Holds.nil _, G.out.bel⟩

set_option maxRecDepth 4000 in
set_option maxHeartbeats 4000000 in
theorem else_ok (h : Holds w v a.l) (hk : a.Ok) (ho : a.ofE = 0) (he : (plR a.l 0 a.z 0).2 = 0) : Calls Tryz.prog 83 #[a.v v] w (Way w (a.mv (plR a.l 0 a.z 0).1, (plR a.l 0 a.z 0).1, 0)) := by
  have G : Hid (Bag w (w.alloc (.cells #[v, .int .i64 a.o.s, .int .i64 a.o.e, .int .i64 a.o.p, .bool a.o.sh, .int .i64 a.o.bk, .int .i64 a.o.off, .int .i64 a.z, .int .i64 a.t, .int .i64 a.f] 111)) [(w.heap.size, 111, #[v, .int .i64 a.o.s, .int .i64 a.o.e, .int .i64 a.o.p, .bool a.o.sh, .int .i64 a.o.bk, .int .i64 a.o.off, .int .i64 a.z, .int .i64 a.t, .int .i64 a.f])]) := Lib.hid ((Bag.new w).add 111 _)
  have KX := Lib.hid (h.still G.out.bel)
  have CP : Hid (∀ w' u, Holds w' u a.l → Calls Tryz.prog 73 #[u, .int .i64 0, .int .i64 a.z, .int .i64 0] w' fun e w'' => e = .returned (.tuple #[.int .i64 (plR a.l 0 a.z 0).1, .int .i64 (plR a.l 0 a.z 0).2]) ∧ Below w'.heap.size w' w'') := Lib.hid (fun w' u h => place_c h hk.may 0 a.z 0 (by have := hk.z; omega))
  have CM : Hid (∀ w' u, Holds w' u a.l → Calls Tryz.prog 124 #[.agg #[u, .int .i64 a.o.s, .int .i64 a.o.e, .int .i64 a.o.p, .bool a.o.sh, .int .i64 a.o.bk, .int .i64 a.o.off, .int .i64 a.z, .int .i64 a.t, .int .i64 a.f], .int .i64 (plR a.l 0 a.z 0).1] w' fun e w'' => ∃ v', e = .returned (.tuple #[v', .int .i64 (plR a.l 0 a.z 0).1, .int .i64 0]) ∧ Holds w'' v' (a.mv (plR a.l 0 a.z 0).1) ∧ Below w'.heap.size w' w'') := Lib.hid (fun w' u h => moved_c h hk ho (hk.pl he))
  rw [he] at CP
  generalize a.mv (plR a.l 0 a.z 0).1 = P at *
  clear he ho
  generalize (plR a.l 0 a.z 0).1 = p1 at *
  obtain ⟨X, ⟨s, t, p, sh, bk, off⟩, z, tg, f⟩ := a
  obtain ⟨A, cc, rfl⟩ := h.is
  clear h hk 
  unfold Ask.v Ask.cells
  simp only at *
  generalize hn : X.length = n at *
  clear hn
  go_enter Tryz.func83, Tryz.ntmps83
  obtain ⟨c0, c1, c2, c3, c4, c5, c6, c7, c8, c9⟩ := row10 G.out.v0
  go_wp2_with fail
  refine (CP.out _ _ KX.out).mono ?_
  rintro e w1 ⟨rfl, hb⟩
  have G := Lib.hid (G.out.still hb)
  have KX := Lib.hid (KX.out.still hb)
  clear hb CP c0 c1 c2 c3 c4 c5 c6 c7 c8 c9
  obtain ⟨c0, c1, c2, c3, c4, c5, c6, c7, c8, c9⟩ := row10 G.out.v0
  go_wp2_with fail
  refine (CM.out _ _ KX.out).mono ?_
  rintro e wm ⟨vm, rfl, hm, hb⟩
  have G := Lib.hid (G.out.still hb)
  have KM := Lib.hid hm
  clear hb hm CM KX c0 c1 c2 c3 c4 c5 c6 c7 c8 c9
  go_wp2_with fail
  go_ret3
  exact ⟨_, rfl, KM.out, G.out.bel⟩

theorem else_c (h : Holds w v a.l) (hk : a.Ok) (ho : a.ofE = 0) : Calls Tryz.prog 83 #[a.v v] w (Way w a.el) := by
  unfold Ask.el
  by_cases he : (plR a.l 0 a.z 0).2 = 0
  · rw [if_pos he]; exact else_ok h hk ho he
  · rw [if_neg he]; exact else_err h hk he

set_option maxRecDepth 4000 in
set_option maxHeartbeats 4000000 in
theorem fixed_err (h : Holds w v a.l) (hk : a.Ok) (he : a.fxE ≠ 0) : Calls Tryz.prog 82 #[a.v v] w (Way w ([], 0, a.fxE)) := by
  have G : Hid (Bag w (w.alloc (.cells #[v, .int .i64 a.o.s, .int .i64 a.o.e, .int .i64 a.o.p, .bool a.o.sh, .int .i64 a.o.bk, .int .i64 a.o.off, .int .i64 a.z, .int .i64 a.t, .int .i64 a.f] 111)) [(w.heap.size, 111, #[v, .int .i64 a.o.s, .int .i64 a.o.e, .int .i64 a.o.p, .bool a.o.sh, .int .i64 a.o.bk, .int .i64 a.o.off, .int .i64 a.z, .int .i64 a.t, .int .i64 a.f])]) := Lib.hid ((Bag.new w).add 111 _)
  have KX := Lib.hid (h.still G.out.bel)
  have CR := Lib.hid (range_any a.t a.z)
  have CT : Hid (∀ u, Says 122 #[.agg #[u, .int .i64 a.o.s, .int .i64 a.o.e, .int .i64 a.o.p, .bool a.o.sh, .int .i64 a.o.bk, .int .i64 a.o.off, .int .i64 a.z, .int .i64 a.t, .int .i64 a.f], .int .i64 (rgA a.t a.z), .int .i64 (rgB a.t a.z)] (.int .i64 (tcE a.o (rgA a.t a.z) (rgB a.t a.z)))) := Lib.hid (fun u => touchE_any a u _ _)
  have CE : Hid (∀ u, Says 123 #[.agg #[u, .int .i64 a.o.s, .int .i64 a.o.e, .int .i64 a.o.p, .bool a.o.sh, .int .i64 a.o.bk, .int .i64 a.o.off, .int .i64 a.z, .int .i64 a.t, .int .i64 a.f]] (.int .i64 a.ofE)) := Lib.hid (fun u => offsetE_any a hk u)
  have HE : Hid (firstE [rgE a.t a.z, tcE a.o (rgA a.t a.z) (rgB a.t a.z), a.ofE] = a.fxE) := Lib.hid rfl
  generalize a.fxE = ee at *
  have he' : (ee != 0) = true := by simpa using he
  generalize tcE a.o (rgA a.t a.z) (rgB a.t a.z) = te at *
  generalize a.ofE = oe at *
  generalize rgE a.t a.z = re at *
  generalize rgA a.t a.z = ra at *
  generalize rgB a.t a.z = rb at *
  have CO : Hid (∀ W : World, Calls Tryz.prog 41 #[.slice (some ⟨W.heap.size, 0, none⟩) 3 3] (W.alloc (.cells #[.int .i64 re, .int .i64 te, .int .i64 oe] 30)) fun e w' => e = .returned (.int .i64 ee) ∧ w' = W.alloc (.cells #[.int .i64 re, .int .i64 te, .int .i64 oe] 30)) := Lib.hid (fun W => by
    have := or_3 W 30 re te oe
    rwa [HE.out] at this)
  clear HE
  obtain ⟨X, ⟨s, t, p, sh, bk, off⟩, z, tg, f⟩ := a
  obtain ⟨A, cc, rfl⟩ := h.is
  clear h hk he
  unfold Ask.v Ask.cells
  simp only at *
  generalize hn : X.length = n at *
  clear hn
  go_enter Tryz.func82, Tryz.ntmps82
  obtain ⟨c0, c1, c2, c3, c4, c5, c6, c7, c8, c9⟩ := row10 G.out.v0
  go_wp2_with fail
  refine (CR.out _).mono ?_
  rintro e w1 ⟨rfl, hb⟩
  have G := Lib.hid (G.out.still hb)
  have KX := Lib.hid (KX.out.still hb)
  clear hb CR c0 c1 c2 c3 c4 c5 c6 c7 c8 c9
  go_upto_region 2 with (fail)
  have BB := Lib.hid (below_drew (Below.refl w1.heap.size w1))
  have KX := Lib.hid (KX.out.still (below_drew (Below.refl _ w1)))
  have HG := Lib.hid (fun W h => G.out.still (w' := W) h)
  have HK : Hid (∀ W, Below w1.heap.size w1 W → (W.cell? ⟨w.heap.size, 0, none⟩ = some (.slice A n cc) ∧ W.cell? ⟨w.heap.size, 1, none⟩ = some (.int .i64 s) ∧ W.cell? ⟨w.heap.size, 2, none⟩ = some (.int .i64 t) ∧ W.cell? ⟨w.heap.size, 3, none⟩ = some (.int .i64 p) ∧ W.cell? ⟨w.heap.size, 4, none⟩ = some (.bool sh) ∧ W.cell? ⟨w.heap.size, 5, none⟩ = some (.int .i64 bk) ∧ W.cell? ⟨w.heap.size, 6, none⟩ = some (.int .i64 off) ∧ W.cell? ⟨w.heap.size, 7, none⟩ = some (.int .i64 z) ∧ W.cell? ⟨w.heap.size, 8, none⟩ = some (.int .i64 tg) ∧ W.cell? ⟨w.heap.size, 9, none⟩ = some (.int .i64 f))) := Lib.hid (fun W h => row10 (HG.out W h).v0)
  clear G
  go_region_held3 (fun W => W.cell? ⟨w.heap.size, 0, none⟩ = some (.slice A n cc) ∧ W.cell? ⟨w.heap.size, 1, none⟩ = some (.int .i64 s) ∧ W.cell? ⟨w.heap.size, 2, none⟩ = some (.int .i64 t) ∧ W.cell? ⟨w.heap.size, 3, none⟩ = some (.int .i64 p) ∧ W.cell? ⟨w.heap.size, 4, none⟩ = some (.bool sh) ∧ W.cell? ⟨w.heap.size, 5, none⟩ = some (.int .i64 bk) ∧ W.cell? ⟨w.heap.size, 6, none⟩ = some (.int .i64 off) ∧ W.cell? ⟨w.heap.size, 7, none⟩ = some (.int .i64 z) ∧ W.cell? ⟨w.heap.size, 8, none⟩ = some (.int .i64 tg) ∧ W.cell? ⟨w.heap.size, 9, none⟩ = some (.int .i64 f))
    (first | with_reducible exact HK.out _ BB.out | with_reducible exact HK.out _ (BB.out.alloc BB.out.size _))
    (first
    | (go_at_call 122; refine (CT.out _ _).mono ?_; rintro e wn ⟨rfl, hb⟩; have BB := Lib.hid (below_then BB.out hb (Nat.le_refl _)); have KX := Lib.hid (KX.out.still hb); clear hb CT)
    | (go_at_call 123; refine (CE.out _ _).mono ?_; rintro e wn ⟨rfl, hb⟩; have BB := Lib.hid (below_then BB.out hb (Nat.le_refl _)); have KX := Lib.hid (KX.out.still hb); clear hb CE)
    | (go_at_call 41; refine (CO.out _).mono ?_; rintro e wo ⟨rfl, hw⟩; have BN : Hid (Below _ _ wo) := Lib.hid (by rw [hw]; exact below_new _ _); have BB := Lib.hid (below_then BB.out BN.out (Nat.le_refl _)); have KX := Lib.hid (KX.out.still BN.out); clear hw CO BN)
    | fail)
  all_goals
    have G := Lib.hid (HG.out _ BB.out)
    clear HG HK BB
    go_wp2_with fail
    go_ret3
    exact ⟨_, rfl, Holds.nil _, G.out.bel⟩

set_option maxRecDepth 4000 in
set_option maxHeartbeats 4000000 in
theorem fixed_ok (h : Holds w v a.l) (hk : a.Ok) (he : a.fxE = 0) : Calls Tryz.prog 82 #[a.v v] w (Way w (a.mv (rgA a.t a.z), rgA a.t a.z, 0)) := by
  have G : Hid (Bag w (w.alloc (.cells #[v, .int .i64 a.o.s, .int .i64 a.o.e, .int .i64 a.o.p, .bool a.o.sh, .int .i64 a.o.bk, .int .i64 a.o.off, .int .i64 a.z, .int .i64 a.t, .int .i64 a.f] 111)) [(w.heap.size, 111, #[v, .int .i64 a.o.s, .int .i64 a.o.e, .int .i64 a.o.p, .bool a.o.sh, .int .i64 a.o.bk, .int .i64 a.o.off, .int .i64 a.z, .int .i64 a.t, .int .i64 a.f])]) := Lib.hid ((Bag.new w).add 111 _)
  have KX := Lib.hid (h.still G.out.bel)
  have CR := Lib.hid (range_any a.t a.z)
  have CT : Hid (∀ u, Says 122 #[.agg #[u, .int .i64 a.o.s, .int .i64 a.o.e, .int .i64 a.o.p, .bool a.o.sh, .int .i64 a.o.bk, .int .i64 a.o.off, .int .i64 a.z, .int .i64 a.t, .int .i64 a.f], .int .i64 (rgA a.t a.z), .int .i64 (rgB a.t a.z)] (.int .i64 (tcE a.o (rgA a.t a.z) (rgB a.t a.z)))) := Lib.hid (fun u => touchE_any a u _ _)
  have CE : Hid (∀ u, Says 123 #[.agg #[u, .int .i64 a.o.s, .int .i64 a.o.e, .int .i64 a.o.p, .bool a.o.sh, .int .i64 a.o.bk, .int .i64 a.o.off, .int .i64 a.z, .int .i64 a.t, .int .i64 a.f]] (.int .i64 a.ofE)) := Lib.hid (fun u => offsetE_any a hk u)
  have HE : Hid (firstE [rgE a.t a.z, tcE a.o (rgA a.t a.z) (rgB a.t a.z), a.ofE] = a.fxE) := Lib.hid rfl
  have ho := (Ask.fx_zero he).2.2
  have CM : Hid (∀ w' u, Holds w' u a.l → Calls Tryz.prog 124 #[.agg #[u, .int .i64 a.o.s, .int .i64 a.o.e, .int .i64 a.o.p, .bool a.o.sh, .int .i64 a.o.bk, .int .i64 a.o.off, .int .i64 a.z, .int .i64 a.t, .int .i64 a.f], .int .i64 (rgA a.t a.z)] w' fun e w'' => ∃ v', e = .returned (.tuple #[v', .int .i64 (rgA a.t a.z), .int .i64 0]) ∧ Holds w'' v' (a.mv (rgA a.t a.z)) ∧ Below w'.heap.size w' w'') := Lib.hid (fun w' u h => moved_c h hk ho (by have := hk.fx_num he; omega))
  rw [he] at HE
  generalize a.mv (rgA a.t a.z) = P at *
  clear ho he
  generalize tcE a.o (rgA a.t a.z) (rgB a.t a.z) = te at *
  generalize a.ofE = oe at *
  generalize rgE a.t a.z = re at *
  generalize rgA a.t a.z = ra at *
  generalize rgB a.t a.z = rb at *
  have CO : Hid (∀ W : World, Calls Tryz.prog 41 #[.slice (some ⟨W.heap.size, 0, none⟩) 3 3] (W.alloc (.cells #[.int .i64 re, .int .i64 te, .int .i64 oe] 30)) fun e w' => e = .returned (.int .i64 0) ∧ w' = W.alloc (.cells #[.int .i64 re, .int .i64 te, .int .i64 oe] 30)) := Lib.hid (fun W => by
    have := or_3 W 30 re te oe
    rwa [HE.out] at this)
  clear HE
  obtain ⟨X, ⟨s, t, p, sh, bk, off⟩, z, tg, f⟩ := a
  obtain ⟨A, cc, rfl⟩ := h.is
  clear h hk 
  unfold Ask.v Ask.cells
  simp only at *
  generalize hn : X.length = n at *
  clear hn
  go_enter Tryz.func82, Tryz.ntmps82
  obtain ⟨c0, c1, c2, c3, c4, c5, c6, c7, c8, c9⟩ := row10 G.out.v0
  go_wp2_with fail
  refine (CR.out _).mono ?_
  rintro e w1 ⟨rfl, hb⟩
  have G := Lib.hid (G.out.still hb)
  have KX := Lib.hid (KX.out.still hb)
  clear hb CR c0 c1 c2 c3 c4 c5 c6 c7 c8 c9
  go_upto_region 2 with (fail)
  have BB := Lib.hid (below_drew (Below.refl w1.heap.size w1))
  have KX := Lib.hid (KX.out.still (below_drew (Below.refl _ w1)))
  have HG := Lib.hid (fun W h => G.out.still (w' := W) h)
  have HK : Hid (∀ W, Below w1.heap.size w1 W → (W.cell? ⟨w.heap.size, 0, none⟩ = some (.slice A n cc) ∧ W.cell? ⟨w.heap.size, 1, none⟩ = some (.int .i64 s) ∧ W.cell? ⟨w.heap.size, 2, none⟩ = some (.int .i64 t) ∧ W.cell? ⟨w.heap.size, 3, none⟩ = some (.int .i64 p) ∧ W.cell? ⟨w.heap.size, 4, none⟩ = some (.bool sh) ∧ W.cell? ⟨w.heap.size, 5, none⟩ = some (.int .i64 bk) ∧ W.cell? ⟨w.heap.size, 6, none⟩ = some (.int .i64 off) ∧ W.cell? ⟨w.heap.size, 7, none⟩ = some (.int .i64 z) ∧ W.cell? ⟨w.heap.size, 8, none⟩ = some (.int .i64 tg) ∧ W.cell? ⟨w.heap.size, 9, none⟩ = some (.int .i64 f))) := Lib.hid (fun W h => row10 (HG.out W h).v0)
  clear G
  go_region_held3 (fun W => W.cell? ⟨w.heap.size, 0, none⟩ = some (.slice A n cc) ∧ W.cell? ⟨w.heap.size, 1, none⟩ = some (.int .i64 s) ∧ W.cell? ⟨w.heap.size, 2, none⟩ = some (.int .i64 t) ∧ W.cell? ⟨w.heap.size, 3, none⟩ = some (.int .i64 p) ∧ W.cell? ⟨w.heap.size, 4, none⟩ = some (.bool sh) ∧ W.cell? ⟨w.heap.size, 5, none⟩ = some (.int .i64 bk) ∧ W.cell? ⟨w.heap.size, 6, none⟩ = some (.int .i64 off) ∧ W.cell? ⟨w.heap.size, 7, none⟩ = some (.int .i64 z) ∧ W.cell? ⟨w.heap.size, 8, none⟩ = some (.int .i64 tg) ∧ W.cell? ⟨w.heap.size, 9, none⟩ = some (.int .i64 f))
    (first | with_reducible exact HK.out _ BB.out | with_reducible exact HK.out _ (BB.out.alloc BB.out.size _))
    (first
    | (go_at_call 122; refine (CT.out _ _).mono ?_; rintro e wn ⟨rfl, hb⟩; have BB := Lib.hid (below_then BB.out hb (Nat.le_refl _)); have KX := Lib.hid (KX.out.still hb); clear hb CT)
    | (go_at_call 123; refine (CE.out _ _).mono ?_; rintro e wn ⟨rfl, hb⟩; have BB := Lib.hid (below_then BB.out hb (Nat.le_refl _)); have KX := Lib.hid (KX.out.still hb); clear hb CE)
    | (go_at_call 41; refine (CO.out _).mono ?_; rintro e wo ⟨rfl, hw⟩; have BN : Hid (Below _ _ wo) := Lib.hid (by rw [hw]; exact below_new _ _); have BB := Lib.hid (below_then BB.out BN.out (Nat.le_refl _)); have KX := Lib.hid (KX.out.still BN.out); clear hw CO BN)
    | fail)
  all_goals
    have G := Lib.hid (HG.out _ BB.out)
    clear HG HK BB
    obtain ⟨c0, c1, c2, c3, c4, c5, c6, c7, c8, c9⟩ := row10 G.out.v0
    go_wp2_with fail
    refine (CM.out _ _ KX.out).mono ?_
    rintro e wm ⟨vm, rfl, hm, hb⟩
    have G := Lib.hid (G.out.still hb)
    have KM := Lib.hid hm
    clear hb hm CM KX c0 c1 c2 c3 c4 c5 c6 c7 c8 c9
    go_wp2_with fail
    go_ret3
    exact ⟨_, rfl, KM.out, G.out.bel⟩

theorem fixed_c (h : Holds w v a.l) (hk : a.Ok) : Calls Tryz.prog 82 #[a.v v] w (Way w a.fx) := by
  unfold Ask.fx
  by_cases he : a.fxE = 0
  · rw [if_pos he]; exact fixed_ok h hk he
  · rw [if_neg he]; exact fixed_err h hk he

set_option maxRecDepth 4000 in
set_option maxHeartbeats 4000000 in
theorem shrunk_c (h : Holds w v a.l) (hk : a.Ok)  : Calls Tryz.prog 85 #[a.v v] w (Way w a.sh) := by
  have G : Hid (Bag w (w.alloc (.cells #[v, .int .i64 a.o.s, .int .i64 a.o.e, .int .i64 a.o.p, .bool a.o.sh, .int .i64 a.o.bk, .int .i64 a.o.off, .int .i64 a.z, .int .i64 a.t, .int .i64 a.f] 111)) [(w.heap.size, 111, #[v, .int .i64 a.o.s, .int .i64 a.o.e, .int .i64 a.o.p, .bool a.o.sh, .int .i64 a.o.bk, .int .i64 a.o.off, .int .i64 a.z, .int .i64 a.t, .int .i64 a.f])]) := Lib.hid ((Bag.new w).add 111 _)
  have KX := Lib.hid (h.still G.out.bel)
  have hn := formed_num hk.o
  have hz := hk.z
  have hw : IntKind.i64.wrap (a.o.s + a.z) = a.o.s + a.z := by rw [IntKind.wrap_i64]; omega
  have CC : Hid (∀ w' u, Holds w' u a.l → Calls Tryz.prog 43 #[u, .int .i64 (a.o.s + a.z), .int .i64 a.o.e] w' fun e w'' => ∃ v', e = .returned v' ∧ Holds w'' v' (outsideL (a.o.s + a.z) a.o.e a.l) ∧ Below w'.heap.size w' w'') := Lib.hid (fun w' u h => cut_c h hk.may.1 _ _)
  unfold Ask.sh
  generalize outsideL (a.o.s + a.z) a.o.e a.l = P at *
  obtain ⟨X, ⟨s, t, p, sh, bk, off⟩, z, tg, f⟩ := a
  obtain ⟨A, cc, rfl⟩ := h.is
  clear h hk hn hz
  unfold Ask.v Ask.cells
  simp only at *
  generalize hn : X.length = n at *
  clear hn
  go_enter Tryz.func85, Tryz.ntmps85
  go_upto_region 1 with (fail)
  have B0 := Lib.hid (below_drew G.out.bel)
  have HC : Hid (∀ W, Below w.heap.size w W → True) := Lib.hid (fun _ _ => trivial)
  generalize hw1 : World.alloc w _ = w1 at *
  clear hw1 HC B0
  have BB := Lib.hid (below_drew (Below.refl w1.heap.size w1))
  have KX := Lib.hid (KX.out.still (below_drew (Below.refl _ w1)))
  have HG := Lib.hid (fun W h => G.out.still (w' := W) h)
  have HK : Hid (∀ W, Below w1.heap.size w1 W → (W.cell? ⟨w.heap.size, 0, none⟩ = some (.slice A n cc) ∧ W.cell? ⟨w.heap.size, 1, none⟩ = some (.int .i64 s) ∧ W.cell? ⟨w.heap.size, 2, none⟩ = some (.int .i64 t) ∧ W.cell? ⟨w.heap.size, 3, none⟩ = some (.int .i64 p) ∧ W.cell? ⟨w.heap.size, 4, none⟩ = some (.bool sh) ∧ W.cell? ⟨w.heap.size, 5, none⟩ = some (.int .i64 bk) ∧ W.cell? ⟨w.heap.size, 6, none⟩ = some (.int .i64 off) ∧ W.cell? ⟨w.heap.size, 7, none⟩ = some (.int .i64 z) ∧ W.cell? ⟨w.heap.size, 8, none⟩ = some (.int .i64 tg) ∧ W.cell? ⟨w.heap.size, 9, none⟩ = some (.int .i64 f))) := Lib.hid (fun W h => row10 (HG.out W h).v0)
  clear G
  go_region_held3 (fun W => W.cell? ⟨w.heap.size, 0, none⟩ = some (.slice A n cc) ∧ W.cell? ⟨w.heap.size, 1, none⟩ = some (.int .i64 s) ∧ W.cell? ⟨w.heap.size, 2, none⟩ = some (.int .i64 t) ∧ W.cell? ⟨w.heap.size, 3, none⟩ = some (.int .i64 p) ∧ W.cell? ⟨w.heap.size, 4, none⟩ = some (.bool sh) ∧ W.cell? ⟨w.heap.size, 5, none⟩ = some (.int .i64 bk) ∧ W.cell? ⟨w.heap.size, 6, none⟩ = some (.int .i64 off) ∧ W.cell? ⟨w.heap.size, 7, none⟩ = some (.int .i64 z) ∧ W.cell? ⟨w.heap.size, 8, none⟩ = some (.int .i64 tg) ∧ W.cell? ⟨w.heap.size, 9, none⟩ = some (.int .i64 f))
    (first | with_reducible exact HK.out _ BB.out | with_reducible exact HK.out _ (BB.out.alloc BB.out.size _))
    (first
    | (go_at_call 43; refine (CC.out _ _ KX.out).mono ?_; rintro e wn ⟨vc, rfl, hc, hb⟩; have BB := Lib.hid (below_then BB.out hb (Nat.le_refl _)); have KC := Lib.hid hc; clear hb hc CC KX)
    | fail)
  all_goals
    have G := Lib.hid (HG.out _ BB.out)
    clear HG HK BB
    go_wp2_with fail
    go_ret3
    exact ⟨_, rfl, KC.out, G.out.bel⟩

set_option maxRecDepth 4000 in
set_option maxHeartbeats 4000000 in
theorem grown_err (h : Holds w v a.l) (hk : a.Ok) (he : a.ofE ≠ 0) : Calls Tryz.prog 86 #[a.v v] w (Way w ([], 0, a.ofE)) := by
  have G : Hid (Bag w (w.alloc (.cells #[v, .int .i64 a.o.s, .int .i64 a.o.e, .int .i64 a.o.p, .bool a.o.sh, .int .i64 a.o.bk, .int .i64 a.o.off, .int .i64 a.z, .int .i64 a.t, .int .i64 a.f] 111)) [(w.heap.size, 111, #[v, .int .i64 a.o.s, .int .i64 a.o.e, .int .i64 a.o.p, .bool a.o.sh, .int .i64 a.o.bk, .int .i64 a.o.off, .int .i64 a.z, .int .i64 a.t, .int .i64 a.f])]) := Lib.hid ((Bag.new w).add 111 _)
  have KX := Lib.hid (h.still G.out.bel)
  have CE : Hid (∀ u, Says 123 #[.agg #[u, .int .i64 a.o.s, .int .i64 a.o.e, .int .i64 a.o.p, .bool a.o.sh, .int .i64 a.o.bk, .int .i64 a.o.off, .int .i64 a.z, .int .i64 a.t, .int .i64 a.f]] (.int .i64 a.ofE)) := Lib.hid (fun u => offsetE_any a hk u)
  generalize a.ofE = oe at *
  have he' : (oe != 0) = true := by simpa using he
  obtain ⟨X, ⟨s, t, p, sh, bk, off⟩, z, tg, f⟩ := a
  obtain ⟨A, cc, rfl⟩ := h.is
  clear h hk he
  unfold Ask.v Ask.cells
  simp only at *
  generalize hn : X.length = n at *
  clear hn
  go_enter Tryz.func86, Tryz.ntmps86
  obtain ⟨c0, c1, c2, c3, c4, c5, c6, c7, c8, c9⟩ := row10 G.out.v0
  go_wp2_with fail
  refine (CE.out _ _).mono ?_
  rintro e w1 ⟨rfl, hb⟩
  have G := Lib.hid (G.out.still hb)
  have KX := Lib.hid (KX.out.still hb)
  clear hb CE c0 c1 c2 c3 c4 c5 c6 c7 c8 c9
  go_wp2_with fail
  go_ret3
  exact ⟨_, rfl, Holds.nil _, G.out.bel⟩

set_option maxRecDepth 4000 in
set_option maxHeartbeats 4000000 in
theorem grown_fits (h : Holds w v a.l) (hk : a.Ok) (ho : a.ofE = 0) (hf : FitsAt a.l a.o.e a.more) : Calls Tryz.prog 86 #[a.v v] w (Way w (a.mv a.o.s, a.o.s, 0)) := by
  have G : Hid (Bag w (w.alloc (.cells #[v, .int .i64 a.o.s, .int .i64 a.o.e, .int .i64 a.o.p, .bool a.o.sh, .int .i64 a.o.bk, .int .i64 a.o.off, .int .i64 a.z, .int .i64 a.t, .int .i64 a.f] 111)) [(w.heap.size, 111, #[v, .int .i64 a.o.s, .int .i64 a.o.e, .int .i64 a.o.p, .bool a.o.sh, .int .i64 a.o.bk, .int .i64 a.o.off, .int .i64 a.z, .int .i64 a.t, .int .i64 a.f])]) := Lib.hid ((Bag.new w).add 111 _)
  have KX := Lib.hid (h.still G.out.bel)
  have CE : Hid (∀ u, Says 123 #[.agg #[u, .int .i64 a.o.s, .int .i64 a.o.e, .int .i64 a.o.p, .bool a.o.sh, .int .i64 a.o.bk, .int .i64 a.o.off, .int .i64 a.z, .int .i64 a.t, .int .i64 a.f]] (.int .i64 a.ofE)) := Lib.hid (fun u => offsetE_any a hk u)
  have CQ : Hid (∀ u, Says 84 #[.agg #[u, .int .i64 a.o.s, .int .i64 a.o.e, .int .i64 a.o.p, .bool a.o.sh, .int .i64 a.o.bk, .int .i64 a.o.off, .int .i64 a.z, .int .i64 a.t, .int .i64 a.f]] (.int .i64 a.more)) := Lib.hid (fun u => more_any a hk u)
  have CF : Hid (∀ w' u, Holds w' u a.l → Calls Tryz.prog 106 #[u, .int .i64 a.o.e, .int .i64 a.more] w' fun e w'' => e = .returned (.bool true) ∧ Below w'.heap.size w' w'') := Lib.hid (fun w' u h => fits_yes h (by have := hk.may.2; omega) hf)
  have CM : Hid (∀ w' u, Holds w' u a.l → Calls Tryz.prog 124 #[.agg #[u, .int .i64 a.o.s, .int .i64 a.o.e, .int .i64 a.o.p, .bool a.o.sh, .int .i64 a.o.bk, .int .i64 a.o.off, .int .i64 a.z, .int .i64 a.t, .int .i64 a.f], .int .i64 a.o.s] w' fun e w'' => ∃ v', e = .returned (.tuple #[v', .int .i64 a.o.s, .int .i64 0]) ∧ Holds w'' v' (a.mv a.o.s) ∧ Below w'.heap.size w' w'') := Lib.hid (fun w' u h => moved_c h hk ho (hk.fits hf))
  rw [ho] at CE
  generalize a.mv a.o.s = P at *
  clear hf ho
  generalize a.more = mo at *
  obtain ⟨X, ⟨s, t, p, sh, bk, off⟩, z, tg, f⟩ := a
  obtain ⟨A, cc, rfl⟩ := h.is
  clear h hk 
  unfold Ask.v Ask.cells
  simp only at *
  generalize hn : X.length = n at *
  clear hn
  go_enter Tryz.func86, Tryz.ntmps86
  obtain ⟨c0, c1, c2, c3, c4, c5, c6, c7, c8, c9⟩ := row10 G.out.v0
  go_wp2_with fail
  refine (CE.out _ _).mono ?_
  rintro e w1 ⟨rfl, hb⟩
  have G := Lib.hid (G.out.still hb)
  have KX := Lib.hid (KX.out.still hb)
  clear hb CE c0 c1 c2 c3 c4 c5 c6 c7 c8 c9
  go_upto_region 5 with (fail)
  have BB := Lib.hid (below_drew (Below.refl w1.heap.size w1))
  have KX := Lib.hid (KX.out.still (below_drew (Below.refl _ w1)))
  have HG := Lib.hid (fun W h => G.out.still (w' := W) h)
  have HK : Hid (∀ W, Below w1.heap.size w1 W → (W.cell? ⟨w.heap.size, 0, none⟩ = some (.slice A n cc) ∧ W.cell? ⟨w.heap.size, 1, none⟩ = some (.int .i64 s) ∧ W.cell? ⟨w.heap.size, 2, none⟩ = some (.int .i64 t) ∧ W.cell? ⟨w.heap.size, 3, none⟩ = some (.int .i64 p) ∧ W.cell? ⟨w.heap.size, 4, none⟩ = some (.bool sh) ∧ W.cell? ⟨w.heap.size, 5, none⟩ = some (.int .i64 bk) ∧ W.cell? ⟨w.heap.size, 6, none⟩ = some (.int .i64 off) ∧ W.cell? ⟨w.heap.size, 7, none⟩ = some (.int .i64 z) ∧ W.cell? ⟨w.heap.size, 8, none⟩ = some (.int .i64 tg) ∧ W.cell? ⟨w.heap.size, 9, none⟩ = some (.int .i64 f))) := Lib.hid (fun W h => row10 (HG.out W h).v0)
  clear G
  go_region_held3 (fun W => W.cell? ⟨w.heap.size, 0, none⟩ = some (.slice A n cc) ∧ W.cell? ⟨w.heap.size, 1, none⟩ = some (.int .i64 s) ∧ W.cell? ⟨w.heap.size, 2, none⟩ = some (.int .i64 t) ∧ W.cell? ⟨w.heap.size, 3, none⟩ = some (.int .i64 p) ∧ W.cell? ⟨w.heap.size, 4, none⟩ = some (.bool sh) ∧ W.cell? ⟨w.heap.size, 5, none⟩ = some (.int .i64 bk) ∧ W.cell? ⟨w.heap.size, 6, none⟩ = some (.int .i64 off) ∧ W.cell? ⟨w.heap.size, 7, none⟩ = some (.int .i64 z) ∧ W.cell? ⟨w.heap.size, 8, none⟩ = some (.int .i64 tg) ∧ W.cell? ⟨w.heap.size, 9, none⟩ = some (.int .i64 f))
    (first | with_reducible exact HK.out _ BB.out | with_reducible exact HK.out _ (BB.out.alloc BB.out.size _))
    (first
    | (go_at_call 84; refine (CQ.out _ _).mono ?_; rintro e wn ⟨rfl, hb⟩; have BB := Lib.hid (below_then BB.out hb (Nat.le_refl _)); have KX := Lib.hid (KX.out.still hb); clear hb CQ)
    | (go_at_call 106; refine (CF.out _ _ KX.out).mono ?_; rintro e wn ⟨rfl, hb⟩; have BB := Lib.hid (below_then BB.out hb (Nat.le_refl _)); have KX := Lib.hid (KX.out.still hb); clear hb CF)
    | fail)
  all_goals
    have G := Lib.hid (HG.out _ BB.out)
    clear HG HK BB
    obtain ⟨c0, c1, c2, c3, c4, c5, c6, c7, c8, c9⟩ := row10 G.out.v0
    go_wp2_with fail
    refine (CM.out _ _ KX.out).mono ?_
    rintro e wm ⟨vm, rfl, hm, hb⟩
    have G := Lib.hid (G.out.still hb)
    have KM := Lib.hid hm
    clear hb hm CM KX c0 c1 c2 c3 c4 c5 c6 c7 c8 c9
    go_wp2_with fail
    go_ret3
    exact ⟨_, rfl, KM.out, G.out.bel⟩

set_option maxRecDepth 4000 in
set_option maxHeartbeats 4000000 in
theorem grown_may (h : Holds w v a.l) (hk : a.Ok) (ho : a.ofE = 0) (hf : ¬ FitsAt a.l a.o.e a.more) (hm : bitF a.f 16 = true) : Calls Tryz.prog 86 #[a.v v] w (Way w a.el) := by
  have G : Hid (Bag w (w.alloc (.cells #[v, .int .i64 a.o.s, .int .i64 a.o.e, .int .i64 a.o.p, .bool a.o.sh, .int .i64 a.o.bk, .int .i64 a.o.off, .int .i64 a.z, .int .i64 a.t, .int .i64 a.f] 111)) [(w.heap.size, 111, #[v, .int .i64 a.o.s, .int .i64 a.o.e, .int .i64 a.o.p, .bool a.o.sh, .int .i64 a.o.bk, .int .i64 a.o.off, .int .i64 a.z, .int .i64 a.t, .int .i64 a.f])]) := Lib.hid ((Bag.new w).add 111 _)
  have KX := Lib.hid (h.still G.out.bel)
  have CE : Hid (∀ u, Says 123 #[.agg #[u, .int .i64 a.o.s, .int .i64 a.o.e, .int .i64 a.o.p, .bool a.o.sh, .int .i64 a.o.bk, .int .i64 a.o.off, .int .i64 a.z, .int .i64 a.t, .int .i64 a.f]] (.int .i64 a.ofE)) := Lib.hid (fun u => offsetE_any a hk u)
  have CQ : Hid (∀ u, Says 84 #[.agg #[u, .int .i64 a.o.s, .int .i64 a.o.e, .int .i64 a.o.p, .bool a.o.sh, .int .i64 a.o.bk, .int .i64 a.o.off, .int .i64 a.z, .int .i64 a.t, .int .i64 a.f]] (.int .i64 a.more)) := Lib.hid (fun u => more_any a hk u)
  have CF : Hid (∀ w' u, Holds w' u a.l → Calls Tryz.prog 106 #[u, .int .i64 a.o.e, .int .i64 a.more] w' fun e w'' => e = .returned (.bool false) ∧ Below w'.heap.size w' w'') := Lib.hid (fun w' u h => fits_no h (by have := hk.may.2; omega) hf)
  have k1 : (bits .and .i64 a.f 16 != 0) = true := hm
  have CL : Hid (∀ w' u, Holds w' u a.l → Calls Tryz.prog 83 #[.agg #[u, .int .i64 a.o.s, .int .i64 a.o.e, .int .i64 a.o.p, .bool a.o.sh, .int .i64 a.o.bk, .int .i64 a.o.off, .int .i64 a.z, .int .i64 a.t, .int .i64 a.f]] w' fun e w'' => ∃ v', e = .returned (.tuple #[v', .int .i64 a.el.2.1, .int .i64 a.el.2.2]) ∧ Holds w'' v' a.el.1 ∧ Below w'.heap.size w' w'') := Lib.hid (fun w' u h => else_c h hk ho)
  unfold Way
  generalize a.el.1 = P at *
  generalize a.el.2.1 = p1 at *
  generalize a.el.2.2 = p2 at *
  rw [ho] at CE
  clear hf ho hm
  generalize a.more = mo at *
  obtain ⟨X, ⟨s, t, p, sh, bk, off⟩, z, tg, f⟩ := a
  obtain ⟨A, cc, rfl⟩ := h.is
  clear h hk 
  unfold Ask.v Ask.cells
  simp only at *
  generalize hn : X.length = n at *
  clear hn
  go_enter Tryz.func86, Tryz.ntmps86
  obtain ⟨c0, c1, c2, c3, c4, c5, c6, c7, c8, c9⟩ := row10 G.out.v0
  go_wp2_with fail
  refine (CE.out _ _).mono ?_
  rintro e w1 ⟨rfl, hb⟩
  have G := Lib.hid (G.out.still hb)
  have KX := Lib.hid (KX.out.still hb)
  clear hb CE c0 c1 c2 c3 c4 c5 c6 c7 c8 c9
  go_upto_region 5 with (fail)
  have BB := Lib.hid (below_drew (Below.refl w1.heap.size w1))
  have KX := Lib.hid (KX.out.still (below_drew (Below.refl _ w1)))
  have HG := Lib.hid (fun W h => G.out.still (w' := W) h)
  have HK : Hid (∀ W, Below w1.heap.size w1 W → (W.cell? ⟨w.heap.size, 0, none⟩ = some (.slice A n cc) ∧ W.cell? ⟨w.heap.size, 1, none⟩ = some (.int .i64 s) ∧ W.cell? ⟨w.heap.size, 2, none⟩ = some (.int .i64 t) ∧ W.cell? ⟨w.heap.size, 3, none⟩ = some (.int .i64 p) ∧ W.cell? ⟨w.heap.size, 4, none⟩ = some (.bool sh) ∧ W.cell? ⟨w.heap.size, 5, none⟩ = some (.int .i64 bk) ∧ W.cell? ⟨w.heap.size, 6, none⟩ = some (.int .i64 off) ∧ W.cell? ⟨w.heap.size, 7, none⟩ = some (.int .i64 z) ∧ W.cell? ⟨w.heap.size, 8, none⟩ = some (.int .i64 tg) ∧ W.cell? ⟨w.heap.size, 9, none⟩ = some (.int .i64 f))) := Lib.hid (fun W h => row10 (HG.out W h).v0)
  clear G
  go_region_held3 (fun W => W.cell? ⟨w.heap.size, 0, none⟩ = some (.slice A n cc) ∧ W.cell? ⟨w.heap.size, 1, none⟩ = some (.int .i64 s) ∧ W.cell? ⟨w.heap.size, 2, none⟩ = some (.int .i64 t) ∧ W.cell? ⟨w.heap.size, 3, none⟩ = some (.int .i64 p) ∧ W.cell? ⟨w.heap.size, 4, none⟩ = some (.bool sh) ∧ W.cell? ⟨w.heap.size, 5, none⟩ = some (.int .i64 bk) ∧ W.cell? ⟨w.heap.size, 6, none⟩ = some (.int .i64 off) ∧ W.cell? ⟨w.heap.size, 7, none⟩ = some (.int .i64 z) ∧ W.cell? ⟨w.heap.size, 8, none⟩ = some (.int .i64 tg) ∧ W.cell? ⟨w.heap.size, 9, none⟩ = some (.int .i64 f))
    (first | with_reducible exact HK.out _ BB.out | with_reducible exact HK.out _ (BB.out.alloc BB.out.size _))
    (first
    | (go_at_call 84; refine (CQ.out _ _).mono ?_; rintro e wn ⟨rfl, hb⟩; have BB := Lib.hid (below_then BB.out hb (Nat.le_refl _)); have KX := Lib.hid (KX.out.still hb); clear hb CQ)
    | (go_at_call 106; refine (CF.out _ _ KX.out).mono ?_; rintro e wn ⟨rfl, hb⟩; have BB := Lib.hid (below_then BB.out hb (Nat.le_refl _)); have KX := Lib.hid (KX.out.still hb); clear hb CF)
    | fail)
  all_goals
    have G := Lib.hid (HG.out _ BB.out)
    clear HG HK BB
    obtain ⟨c0, c1, c2, c3, c4, c5, c6, c7, c8, c9⟩ := row10 G.out.v0
    go_wp2_with fail
    refine (CL.out _ _ KX.out).mono ?_
    rintro e wm ⟨vm, rfl, hm, hb⟩
    have G := Lib.hid (G.out.still hb)
    have KM := Lib.hid hm
    clear hb hm CL KX c0 c1 c2 c3 c4 c5 c6 c7 c8 c9
    go_wp2_with fail
    go_ret3
    exact ⟨_, rfl, KM.out, G.out.bel⟩

set_option maxRecDepth 4000 in
set_option maxHeartbeats 4000000 in
theorem grown_no (h : Holds w v a.l) (hk : a.Ok) (ho : a.ofE = 0) (hf : ¬ FitsAt a.l a.o.e a.more) (hm : bitF a.f 16 = false) : Calls Tryz.prog 86 #[a.v v] w (Way w ([], 0, 5)) := by
  have G : Hid (Bag w (w.alloc (.cells #[v, .int .i64 a.o.s, .int .i64 a.o.e, .int .i64 a.o.p, .bool a.o.sh, .int .i64 a.o.bk, .int .i64 a.o.off, .int .i64 a.z, .int .i64 a.t, .int .i64 a.f] 111)) [(w.heap.size, 111, #[v, .int .i64 a.o.s, .int .i64 a.o.e, .int .i64 a.o.p, .bool a.o.sh, .int .i64 a.o.bk, .int .i64 a.o.off, .int .i64 a.z, .int .i64 a.t, .int .i64 a.f])]) := Lib.hid ((Bag.new w).add 111 _)
  have KX := Lib.hid (h.still G.out.bel)
  have CE : Hid (∀ u, Says 123 #[.agg #[u, .int .i64 a.o.s, .int .i64 a.o.e, .int .i64 a.o.p, .bool a.o.sh, .int .i64 a.o.bk, .int .i64 a.o.off, .int .i64 a.z, .int .i64 a.t, .int .i64 a.f]] (.int .i64 a.ofE)) := Lib.hid (fun u => offsetE_any a hk u)
  have CQ : Hid (∀ u, Says 84 #[.agg #[u, .int .i64 a.o.s, .int .i64 a.o.e, .int .i64 a.o.p, .bool a.o.sh, .int .i64 a.o.bk, .int .i64 a.o.off, .int .i64 a.z, .int .i64 a.t, .int .i64 a.f]] (.int .i64 a.more)) := Lib.hid (fun u => more_any a hk u)
  have CF : Hid (∀ w' u, Holds w' u a.l → Calls Tryz.prog 106 #[u, .int .i64 a.o.e, .int .i64 a.more] w' fun e w'' => e = .returned (.bool false) ∧ Below w'.heap.size w' w'') := Lib.hid (fun w' u h => fits_no h (by have := hk.may.2; omega) hf)
  have k1 : (bits .and .i64 a.f 16 != 0) = false := hm
  rw [ho] at CE
  clear hf ho hm
  generalize a.more = mo at *
  obtain ⟨X, ⟨s, t, p, sh, bk, off⟩, z, tg, f⟩ := a
  obtain ⟨A, cc, rfl⟩ := h.is
  clear h hk 
  unfold Ask.v Ask.cells
  simp only at *
  generalize hn : X.length = n at *
  clear hn
  go_enter Tryz.func86, Tryz.ntmps86
  obtain ⟨c0, c1, c2, c3, c4, c5, c6, c7, c8, c9⟩ := row10 G.out.v0
  go_wp2_with fail
  refine (CE.out _ _).mono ?_
  rintro e w1 ⟨rfl, hb⟩
  have G := Lib.hid (G.out.still hb)
  have KX := Lib.hid (KX.out.still hb)
  clear hb CE c0 c1 c2 c3 c4 c5 c6 c7 c8 c9
  go_upto_region 5 with (fail)
  have BB := Lib.hid (below_drew (Below.refl w1.heap.size w1))
  have KX := Lib.hid (KX.out.still (below_drew (Below.refl _ w1)))
  have HG := Lib.hid (fun W h => G.out.still (w' := W) h)
  have HK : Hid (∀ W, Below w1.heap.size w1 W → (W.cell? ⟨w.heap.size, 0, none⟩ = some (.slice A n cc) ∧ W.cell? ⟨w.heap.size, 1, none⟩ = some (.int .i64 s) ∧ W.cell? ⟨w.heap.size, 2, none⟩ = some (.int .i64 t) ∧ W.cell? ⟨w.heap.size, 3, none⟩ = some (.int .i64 p) ∧ W.cell? ⟨w.heap.size, 4, none⟩ = some (.bool sh) ∧ W.cell? ⟨w.heap.size, 5, none⟩ = some (.int .i64 bk) ∧ W.cell? ⟨w.heap.size, 6, none⟩ = some (.int .i64 off) ∧ W.cell? ⟨w.heap.size, 7, none⟩ = some (.int .i64 z) ∧ W.cell? ⟨w.heap.size, 8, none⟩ = some (.int .i64 tg) ∧ W.cell? ⟨w.heap.size, 9, none⟩ = some (.int .i64 f))) := Lib.hid (fun W h => row10 (HG.out W h).v0)
  clear G
  go_region_held3 (fun W => W.cell? ⟨w.heap.size, 0, none⟩ = some (.slice A n cc) ∧ W.cell? ⟨w.heap.size, 1, none⟩ = some (.int .i64 s) ∧ W.cell? ⟨w.heap.size, 2, none⟩ = some (.int .i64 t) ∧ W.cell? ⟨w.heap.size, 3, none⟩ = some (.int .i64 p) ∧ W.cell? ⟨w.heap.size, 4, none⟩ = some (.bool sh) ∧ W.cell? ⟨w.heap.size, 5, none⟩ = some (.int .i64 bk) ∧ W.cell? ⟨w.heap.size, 6, none⟩ = some (.int .i64 off) ∧ W.cell? ⟨w.heap.size, 7, none⟩ = some (.int .i64 z) ∧ W.cell? ⟨w.heap.size, 8, none⟩ = some (.int .i64 tg) ∧ W.cell? ⟨w.heap.size, 9, none⟩ = some (.int .i64 f))
    (first | with_reducible exact HK.out _ BB.out | with_reducible exact HK.out _ (BB.out.alloc BB.out.size _))
    (first
    | (go_at_call 84; refine (CQ.out _ _).mono ?_; rintro e wn ⟨rfl, hb⟩; have BB := Lib.hid (below_then BB.out hb (Nat.le_refl _)); have KX := Lib.hid (KX.out.still hb); clear hb CQ)
    | (go_at_call 106; refine (CF.out _ _ KX.out).mono ?_; rintro e wn ⟨rfl, hb⟩; have BB := Lib.hid (below_then BB.out hb (Nat.le_refl _)); have KX := Lib.hid (KX.out.still hb); clear hb CF)
    | fail)
  all_goals
    have G := Lib.hid (HG.out _ BB.out)
    clear HG HK BB
    obtain ⟨c0, c1, c2, c3, c4, c5, c6, c7, c8, c9⟩ := row10 G.out.v0
    go_wp2_with fail
    go_ret3
    exact ⟨_, rfl, Holds.nil _, G.out.bel⟩

open Classical in
theorem grown_c (h : Holds w v a.l) (hk : a.Ok) : Calls Tryz.prog 86 #[a.v v] w (Way w a.gr) := by
  unfold Ask.gr
  by_cases ho : a.ofE = 0
  · rw [if_pos ho]
    by_cases hf : FitsAt a.l a.o.e a.more
    · rw [if_pos hf]; exact grown_fits h hk ho hf
    · rw [if_neg hf]
      cases hm : bitF a.f 16 with
      | true => rw [if_pos rfl]; exact grown_may h hk ho hf hm
      | false => rw [if_neg (by simp)]; exact grown_no h hk ho hf hm
  · rw [if_neg ho]; exact grown_err h hk ho
end
end Go.Proofs.YtholpgcghpikgaaGreat
