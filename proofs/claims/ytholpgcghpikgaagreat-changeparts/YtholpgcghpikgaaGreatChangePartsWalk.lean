/-
  Layer 14: calls that are played at once are as those that are played in two parts.
-/
import Derived.Test.YtholpgcghpikgaaGreatPkCg
import Derived.Test.YtholpgcghpikgaaGreatPkCd
import Derived.Test.YtholpgcghpikgaaGreatPkCh
import Derived.Deep.DeepCutAuto
import Derived.Deep.LoopGhost
namespace Go.Proofs.YtholpgcghpikgaaGreat
open Go.ChangeShapes Go.WideShapes Go.ChangeAt Go.RowKit Go.Shelf
set_option linter.unusedVariables false

set_option maxHeartbeats 2000000 in
theorem parts_many (A : Option Addr) (n cc : Nat) (a : Int) (w : World) (hn : 60 < n) :
    Calls Tryz.prog 3 #[.slice A n cc, .int .u8 a] w fun e w' => e = .returned (.bool true) ∧ Below w.heap.size w w' := by
  have W0 := Lib.hid ch_awake
  have G := Lib.hid (Bag.new w)
  have hz : (60 : Int) < (n : Int) := by omega
  go_enter Tryz.func3, Tryz.ntmps3
  go_wp2_with fail
  refine (W0.out _).mono ?_
  rintro e w1 ⟨rfl, hb⟩
  have G := Lib.hid (G.out.still hb)
  clear hb
  go_wp2_with fail
  refine (W0.out _).mono ?_
  rintro e w2 ⟨rfl, hb⟩
  have G := Lib.hid (G.out.still hb)
  clear hb
  go_wp2_with fail
  go_ret
  exact ⟨rfl, G.out.bel⟩

theorem CallsAt.take {w : World} {A : Option Addr} {l : List Cl} (h : CallsAt w A l) (m : Nat) : CallsAt w A (l.take m) := by
  rcases h with h | ⟨b, off, e, hlt, hc⟩
  · exact .inl (by rw [h]; simp)
  · refine .inr ⟨b, off, e, hlt, fun j hj => ?_⟩
    have hj' : j < l.length := by rw [List.length_take] at hj; omega
    rw [List.getElem_take]
    exact hc j hj'
/-- The space that goes on. -/
theorem lay_s {w wr : World} {x0 x1 x3 : Nat × TypeId × Array Value} {qs B : Nat} {t : TypeId} {a b v : Value} {Y : List Ar} (G : Bag w wr [x0, x1, (qs, t, #[a, b]), x3]) (M : Mine B wr v Y) (ht : 52 ≠ t) (h3 : x3.1 ≠ qs) (h4 : w.heap.size ≤ qs) (x x' : Value) :
    Bag w (setTwo wr qs x x') [(qs, t, #[x, x']), x3] ∧ Mine B (setTwo wr qs x x') v Y := by
  have o1 := two_only wr qs x x'
  refine ⟨⟨fun z hz => ?_, G.bel.trans (o1.below (fun k hk => by omega) G.bel.size)⟩, mine_two M G.v2 ht x x'⟩
  simp only [List.mem_cons, List.not_mem_nil, or_false] at hz
  rcases hz with rfl | rfl
  · exact two_put G.v2 x x'
  · exact G.v3.only o1 h3
/-- Two rows of answers. -/
structure Rows2 (w : World) (q1 q2 n m : Nat) (f : Nat → An) : Prop where
  r1 : Whole w q1 34 (ansA f n)
  r2 : Whole w q2 34 (ansA f m)
theorem Rows2.still {w w' : World} {q1 q2 n m : Nat} {f : Nat → An} (h : Rows2 w q1 q2 n m f) (hb : Below w.heap.size w w') : Rows2 w' q1 q2 n m f := ⟨h.r1.below hb h.r1.lt, h.r2.below hb h.r2.lt⟩
theorem Rows2.set {w : World} {q1 q2 n m q : Nat} {f : Nat → An} {t : TypeId} {cs : Array Value} (h : Rows2 w q1 q2 n m f) (hq : Whole w q t cs) (ht : 34 ≠ t) (x x' : Value) : Rows2 (setTwo w q x x') q1 q2 n m f :=
  ⟨h.r1.only (two_only w q x x') (fun e => ht (by
    have := h.r1; rw [e] at this; unfold Whole at this hq; rw [hq] at this; injection this with this; injection this with _ e1 _; exact e1.symm)), h.r2.only (two_only w q x x') (fun e => ht (by
    have := h.r2; rw [e] at this; unfold Whole at this hq; rw [hq] at this; injection this with this; injection this with _ e1 _; exact e1.symm))⟩

set_option maxRecDepth 4000 in
set_option maxHeartbeats 16000000 in
theorem parts_few (l : List Cl) (A : Option Addr) (cc : Nat) (at' : Int) (w : World) (hl : l.length ≤ 60) (hA : CallsAt w A l) (hcc : l.length ≤ cc) (h0 : 0 ≤ at') (h1 : at' ≤ 255) (hB : ∀ k, k < l.length → i64 (nthC l k).f ∧ i64 (nthC l k).o) :
    Calls Tryz.prog 3 #[.slice A l.length cc, .int .u8 at'] w fun e w' => e = .returned (.bool true) ∧ Below w.heap.size w w' := by
  have W0 := Lib.hid ch_awake
  have G := Lib.hid (Bag.new w)
  obtain ⟨m, hm, hml⟩ : ∃ m : Nat, at'.tmod ((l.length : Int) + 1) = (m : Int) ∧ m ≤ l.length := by
    have hp : (0 : Int) < (l.length : Int) + 1 := by omega
    have h1 := Int.tmod_nonneg ((l.length : Int) + 1) h0
    have h2 := Int.tmod_lt_of_pos at' hp
    exact ⟨(at'.tmod ((l.length : Int) + 1)).toNat, by omega, by omega⟩
  have hlen : (l.take m).length = m := by rw [List.length_take]; omega
  have CP : Hid (∀ W, Below w.heap.size w W → Calls Tryz.prog 9 #[.slice A l.length cc] W fun r w' => ∃ v' q, r = .returned (.tuple #[.agg #[v', .int .i64 (plS l l.length).n], .slice (some ⟨q, 0, none⟩) l.length l.length]) ∧ W.heap.size ≤ q ∧ Whole w' q 34 (ansA (plA l) l.length) ∧ Mine W.heap.size w' v' (plS l l.length).l ∧ Below W.heap.size W w') := Lib.hid (fun W h => play_c l A cc W (by omega) (hA.below h) (fun k hk => (hB k hk).2))
  have CPm : Hid (∀ W, Below w.heap.size w W → Calls Tryz.prog 9 #[.slice A m cc] W fun r w' => ∃ v' q, r = .returned (.tuple #[.agg #[v', .int .i64 (plS l m).n], .slice (some ⟨q, 0, none⟩) m m]) ∧ W.heap.size ≤ q ∧ Whole w' q 34 (ansA (plA l) m) ∧ Mine W.heap.size w' v' (plS l m).l ∧ Below W.heap.size W w') := Lib.hid (fun W h => by
    have := play_c (l.take m) A cc W (by omega) ((hA.below h).take m) (fun k hk => by
      rw [hlen] at hk
      rw [nthC_take l hk]
      exact (hB k (by omega)).2)
    unfold GivesP scV at this
    rw [hlen, plS_take l m m (Nat.le_refl _), ansA_congr (g := plA l) (fun k hk => plA_take l hk)] at this
    exact this)
  have CSn : Hid (∀ W u u', Holds W u (plS l l.length).l → Holds W u' (plS l l.length).l → Calls Tryz.prog 11 #[.agg #[u, .int .i64 (plS l l.length).n], .agg #[u', .int .i64 (plS l l.length).n]] W fun e w' => e = .returned (.bool true) ∧ Below W.heap.size W w') := Lib.hid (fun W u u' h h' => scSame_c (s := plS l l.length) h h' (sc_len (pl_right l l.length)))
  have CRn : Hid (∀ W u, Holds W u (plS l l.length).l → Calls Tryz.prog 12 #[.agg #[u, .int .i64 (plS l l.length).n]] W fun e w' => e = .returned (.bool true) ∧ Below W.heap.size W w') := Lib.hid (fun W u h => by
    have := scRight_c (s := plS l l.length) h (sc_len (pl_right l l.length))
    rw [decide_eq_true (pl_right l l.length)] at this
    exact this)
  have HL24 := Lib.hid (pl_right l l.length).1.2
  have HA := Lib.hid hA
  have HB := Lib.hid hB
  clear hA hB hlen
  generalize hn : l.length = n at *
  have HN := Lib.hid hn
  clear hn
  have hz : ¬ (60 : Int) < (n : Int) := by omega
  have hw0 : wrap64 at' = at' := by unfold wrap64; omega
  have hw1 : IntKind.i64.wrap ((n : Int) + 1) = (n : Int) + 1 := by rw [IntKind.wrap_i64]; omega
  have hw2 : ¬ (n : Int) + 1 = 0 := by omega
  have hmz : (m : Int) ≤ (n : Int) := by omega
  have hmc : (m : Int) ≤ (cc : Int) := by omega
  have hm0 : (0 : Int) ≤ (m : Int) := by omega
  go_enter Tryz.func3, Tryz.ntmps3
  go_wp2_with fail
  refine (W0.out _).mono ?_
  rintro e w1 ⟨rfl, hb⟩
  have G := Lib.hid (G.out.still hb)
  clear hb W0
  go_wp2_with fail
  refine (CP.out _ G.out.bel).mono ?_
  rintro e w2 ⟨vz, q1, rfl, hq1, hW, hM, hb⟩
  obtain ⟨Az, cz, rfl⟩ := hM.is
  have SZ := Lib.hid G.out.bel.size
  have LX : Hid (w.heap.size ≤ w2.heap.size) := Lib.hid (G.out.still hb).bel.size
  have BN := Lib.hid (below_new w2 (.cells #[.slice Az (plS l n).l.length cz, .int .i64 (plS l n).n] 26))
  have G := Lib.hid ((G.out.still hb).add 26 #[.slice Az (plS l n).l.length cz, .int .i64 (plS l n).n])
  have KZ := Lib.hid ((hM.base SZ.out).still BN.out)
  have R1 := Lib.hid (hW.below BN.out hW.lt)
  clear hM hb hW hq1 SZ BN CP
  go_wp2_with fail
  refine (CPm.out _ G.out.bel).mono ?_
  rintro e w3 ⟨vx, q2, rfl, hq2, hW, hM, hb⟩
  obtain ⟨Ax, cx, rfl⟩ := hM.is
  have SZ := Lib.hid G.out.bel.size
  have LY : Hid (w2.heap.size < w3.heap.size) := Lib.hid (G.out.still hb).v0.lt
  have BN := Lib.hid (below_new w3 (.cells #[.slice Ax (plS l m).l.length cx, .int .i64 (plS l m).n] 26))
  have RR : Hid (Rows2 (w3.alloc (.cells #[.slice Ax (plS l m).l.length cx, .int .i64 (plS l m).n] 26)) q1 q2 n m (plA l)) := Lib.hid ⟨(R1.out.below hb R1.out.lt).alloc _, hW.alloc _⟩
  have G := Lib.hid ((G.out.still hb).add 26 #[.slice Ax (plS l m).l.length cx, .int .i64 (plS l m).n])
  have KZ := Lib.hid ((KZ.out.still hb).still BN.out)
  have KX := Lib.hid ((hM.base SZ.out).still BN.out)
  clear hM hb hW hq2 SZ BN R1 CPm
  go_wp2_with fail
  generalize World.alloc w3 _ = w4 at *
  generalize w3.heap.size = qx1 at *
  generalize w2.heap.size = qz at *
  go_loopg [10] (n - m) (fun g s10 wr => ∃ (k : Nat) (vs : Value), m ≤ k ∧ k ≤ n ∧ n - k ≤ g ∧ s10 = .int .i64 k ∧ Hid (Bag w wr [(qx1, 26, #[vs, .int .i64 (plS l k).n]), (qz, 26, #[.slice Az (plS l n).l.length cz, .int .i64 (plS l n).n])]) ∧ Hid (Mine w.heap.size wr vs (plS l k).l) ∧ Hid (Mine w.heap.size wr (.slice Az (plS l n).l.length cz) (plS l n).l) ∧ Hid (Rows2 wr q1 q2 n m (plA l)))
  case atStart => exact ⟨m, _, Nat.le_refl _, hml, by omega, rfl, G, KX, KZ, RR⟩
  case round =>
    clear G KX KZ RR
    obtain ⟨k, vs, hmk, hk, hg, rfl, G, KS, KZ, RR⟩ := hrel
    obtain ⟨As, cs, hvs⟩ := KS.out.is
    subst hvs
    by_cases hlt : k < n
    · have hltz : (k : Int) < (n : Int) := by omega
      have hz0 : (0 : Int) ≤ (k : Int) := by omega
      obtain ⟨b, off, rfl, hb, hc⟩ := (HA.out.below G.out.bel).at (k := k) (by rw [HN.out]; exact hlt)
      have HD := Lib.hid (HB.out k hlt)
      obtain ⟨ck, ca, cn, cnw, ctw, cp, cf, cb, co, hcl⟩ : ∃ ck ca cn cnw ctw cp cf cb co, nthC l k = ⟨ck, ca, cn, cnw, ctw, cp, cf, cb, co⟩ := ⟨_, _, _, _, _, _, _, _, _, rfl⟩
      rw [hcl] at hc HD
      have HCL := Lib.hid (fun W (h : Below wr.heap.size wr W) => hc.below h hb)
      obtain ⟨ae, ax, ⟨ap, ah, ab, ao⟩, han⟩ : ∃ ae ax t, plA l k = ⟨ae, ax, t⟩ := ⟨_, _, _, rfl⟩
      obtain ⟨X, N, hX⟩ : ∃ X N, plS l k = ⟨X, N⟩ := ⟨_, _, rfl⟩
      obtain ⟨Y, N1, hY⟩ : ∃ Y N1, plS l (k + 1) = ⟨Y, N1⟩ := ⟨_, _, rfl⟩
      have hr : chR ⟨X, N⟩ ⟨ck, ca, cn, cnw, ctw, cp, cf, cb, co⟩ = (⟨Y, N1⟩, ⟨ae, ax, ⟨ap, ah, ab, ao⟩⟩) := by
        rw [← hX, ← hcl, ← hY, ← han]; rfl
      have hR := pl_right l k
      rw [hX] at hR
      have HYY := Lib.hid hY
      have HAN := Lib.hid han
      simp only [hX] at G KS
      have C1 : Hid (∀ W u, Holds W u X → Calls Tryz.prog 10 #[.agg #[u, .int .i64 N], .agg #[.int .i64 ck, .int .i64 ca, .int .i64 cn, .int .i64 cnw, .int .i64 ctw, .int .i64 cp, .int .i64 cf, .int .i64 cb, .int .i64 co]] W fun e w' => ∃ v', e = .returned (.tuple #[.agg #[v', .int .i64 N1], .agg #[.int .i64 ae, .int .i64 ax, .int .i64 ap, .bool ah, .int .i64 ab, .int .i64 ao]]) ∧ Mine W.heap.size w' v' Y ∧ Below W.heap.size W w') := Lib.hid (fun W u h => by
        have := do_c (s := ⟨X, N⟩) h (sc_len hR) ⟨ck, ca, cn, cnw, ctw, cp, cf, cb, co⟩ HD.out.2
        unfold GivesS scV at this
        rw [hr] at this
        exact this)
      clear hr hR han hX hY hcl hc
      have HC : Hid (∀ W, Below wr.heap.size wr W → (W.cell? ⟨qx1, 0, none⟩ = some (.slice As X.length cs) ∧ W.cell? ⟨qx1, 1, none⟩ = some (.int .i64 N) ∧ W.cell? ⟨b, off + k * 9, none⟩ = some (.int .i64 ck) ∧ W.cell? ⟨b, off + k * 9 + 1, none⟩ = some (.int .i64 ca) ∧ W.cell? ⟨b, off + k * 9 + 2, none⟩ = some (.int .i64 cn) ∧ W.cell? ⟨b, off + k * 9 + 3, none⟩ = some (.int .i64 cnw) ∧ W.cell? ⟨b, off + k * 9 + 4, none⟩ = some (.int .i64 ctw) ∧ W.cell? ⟨b, off + k * 9 + 5, none⟩ = some (.int .i64 cp) ∧ W.cell? ⟨b, off + k * 9 + 6, none⟩ = some (.int .i64 cf) ∧ W.cell? ⟨b, off + k * 9 + 7, none⟩ = some (.int .i64 cb) ∧ W.cell? ⟨b, off + k * 9 + 8, none⟩ = some (.int .i64 co))) := Lib.hid (fun W h => by
        obtain ⟨x0, x1⟩ := row2c (G.out.still h).v0
        obtain ⟨c0, c1, c2, c3, c4, c5, c6, c7, c8⟩ := HCL.out W h
        exact ⟨x0, x1, c0, c1, c2, c3, c4, c5, c6, c7, c8⟩)
      have KH := Lib.hid (fun W (h : Below wr.heap.size wr W) => KS.out.holds.still h)
      have LW := Lib.hid G.out.bel.size
      go_upto_region 9 with (fail)
      have B0 : Hid (Below wr.heap.size wr wr.drew) := Lib.hid (below_drew (Below.refl _ _))
      have B6 := Lib.hid (below_drew (below_new wr (.cells #[.slice none 0 0, .int .i64 0] 26)))
      have B7 := Lib.hid (below_drew (below_new wr (.cells #[.int .i64 0, .int .i64 0, .int .i64 0, .bool false, .int .i64 0, .int .i64 0] 34)))
      have B67 := Lib.hid (below_drew (below_new2 wr (.cells #[.slice none 0 0, .int .i64 0] 26) (.cells #[.int .i64 0, .int .i64 0, .int .i64 0, .bool false, .int .i64 0, .int .i64 0] 34)))
      have B76 := Lib.hid (below_drew (below_new2 wr (.cells #[.int .i64 0, .int .i64 0, .int .i64 0, .bool false, .int .i64 0, .int .i64 0] 34) (.cells #[.slice none 0 0, .int .i64 0] 26)))
      have H67 := Lib.hid (two_new wr 26 34 #[.slice none 0 0, .int .i64 0] #[.int .i64 0, .int .i64 0, .int .i64 0, .bool false, .int .i64 0, .int .i64 0])
      have H76 := Lib.hid (two_new wr 34 26 #[.int .i64 0, .int .i64 0, .int .i64 0, .bool false, .int .i64 0, .int .i64 0] #[.slice none 0 0, .int .i64 0])
      go_cut [11, 12] (fun s11 s12 wx => ∃ (qx qa : Nat) (Ax : Option Addr) (cx : Nat), s11 = .pointer (some ⟨qx, 0, none⟩) ∧ s12 = .pointer (some ⟨qa, 0, none⟩) ∧ Hid (DidAt 26 wr wx qx qa #[.slice Ax Y.length cx, .int .i64 N1] #[.int .i64 ae, .int .i64 ax, .int .i64 ap, .bool ah, .int .i64 ab, .int .i64 ao]) ∧ Hid (Mine wr.heap.size wx (.slice Ax Y.length cx) Y))
      case first =>
        go_region_held3 (fun W => W.cell? ⟨qx1, 0, none⟩ = some (.slice As X.length cs) ∧ W.cell? ⟨qx1, 1, none⟩ = some (.int .i64 N) ∧ W.cell? ⟨b, off + k * 9, none⟩ = some (.int .i64 ck) ∧ W.cell? ⟨b, off + k * 9 + 1, none⟩ = some (.int .i64 ca) ∧ W.cell? ⟨b, off + k * 9 + 2, none⟩ = some (.int .i64 cn) ∧ W.cell? ⟨b, off + k * 9 + 3, none⟩ = some (.int .i64 cnw) ∧ W.cell? ⟨b, off + k * 9 + 4, none⟩ = some (.int .i64 ctw) ∧ W.cell? ⟨b, off + k * 9 + 5, none⟩ = some (.int .i64 cp) ∧ W.cell? ⟨b, off + k * 9 + 6, none⟩ = some (.int .i64 cf) ∧ W.cell? ⟨b, off + k * 9 + 7, none⟩ = some (.int .i64 cb) ∧ W.cell? ⟨b, off + k * 9 + 8, none⟩ = some (.int .i64 co))
          (first | with_reducible exact HC.out _ B0.out | with_reducible exact HC.out _ B6.out | with_reducible exact HC.out _ B7.out | with_reducible exact HC.out _ B67.out | with_reducible exact HC.out _ B76.out | with_reducible exact HC.out _ BB.out | (refine HC.out _ ?_; repeat (first | with_reducible exact BB.out | with_reducible refine below_al ?_ | with_reducible refine below_st ?_ (by omega))))
          (first
          | (go_at_call 10; with_reducible refine (C1.out _ _ (KH.out _ B0.out)).mono ?_; rintro e wk ⟨vk, rfl, hm, hb⟩; obtain ⟨Ak, ck1, rfl⟩ := hm.is; have BB := Lib.hid (below_then B0.out hb (Nat.le_refl _)); have SB := BB.out.size; obtain ⟨l0, l1⟩ := row2c (two_new wk 26 34 #[.slice none 0 0, .int .i64 0] #[.int .i64 0, .int .i64 0, .int .i64 0, .bool false, .int .i64 0, .int .i64 0]).1.undrew; obtain ⟨m0, m1⟩ := row2f (two_new wk 26 34 #[.slice none 0 0, .int .i64 0] #[.int .i64 0, .int .i64 0, .int .i64 0, .bool false, .int .i64 0, .int .i64 0]).1.undrew; obtain ⟨⟨n0, n1, n2, n3, n4, n5⟩, ⟨o0, o1, o2, o3, o4, o5⟩⟩ := six_of (two_new wk 34 26 #[.int .i64 0, .int .i64 0, .int .i64 0, .bool false, .int .i64 0, .int .i64 0] #[.slice none 0 0, .int .i64 0]).1.undrew; have MK := Lib.hid (hm.base B0.out.size); clear hb hm C1)
          | (go_at_call 10; with_reducible refine (C1.out _ _ (KH.out _ B6.out)).mono ?_; rintro e wk ⟨vk, rfl, hm, hb⟩; obtain ⟨Ak, ck1, rfl⟩ := hm.is; have BB := Lib.hid (below_then B6.out hb (Nat.le_refl _)); have SB := BB.out.size; have H6 := Lib.hid ((Whole.new wr 26 #[.slice none 0 0, .int .i64 0]).drew.below hb (Whole.new wr 26 #[.slice none 0 0, .int .i64 0]).drew.lt); obtain ⟨d0, d1⟩ := row2c H6.out; obtain ⟨f0, f1⟩ := row2f H6.out; have ne1 : wr.heap.size ≠ wk.heap.size := Nat.ne_of_lt H6.out.lt; have ne2 : wk.heap.size ≠ wr.heap.size := Ne.symm ne1; obtain ⟨l0, l1⟩ := row2c (H6.out.alloc (.cells #[.int .i64 0, .int .i64 0, .int .i64 0, .bool false, .int .i64 0, .int .i64 0] 34)); obtain ⟨m0, m1⟩ := row2f (H6.out.alloc (.cells #[.int .i64 0, .int .i64 0, .int .i64 0, .bool false, .int .i64 0, .int .i64 0] 34)); have MK := Lib.hid (hm.base B6.out.size); clear hb hm C1)
          | (go_at_call 10; with_reducible refine (C1.out _ _ (KH.out _ B7.out)).mono ?_; rintro e wk ⟨vk, rfl, hm, hb⟩; obtain ⟨Ak, ck1, rfl⟩ := hm.is; have BB := Lib.hid (below_then B7.out hb (Nat.le_refl _)); have SB := BB.out.size; have H7 := Lib.hid ((Whole.new wr 34 #[.int .i64 0, .int .i64 0, .int .i64 0, .bool false, .int .i64 0, .int .i64 0]).drew.below hb (Whole.new wr 34 #[.int .i64 0, .int .i64 0, .int .i64 0, .bool false, .int .i64 0, .int .i64 0]).drew.lt); obtain ⟨⟨e0, e1, e2, e3, e4, e5⟩, ⟨g0, g1, g2, g3, g4, g5⟩⟩ := six_of H7.out; have ne1 : wr.heap.size ≠ wk.heap.size := Nat.ne_of_lt H7.out.lt; have ne2 : wk.heap.size ≠ wr.heap.size := Ne.symm ne1; obtain ⟨⟨n0, n1, n2, n3, n4, n5⟩, ⟨o0, o1, o2, o3, o4, o5⟩⟩ := six_of (H7.out.alloc (.cells #[.slice none 0 0, .int .i64 0] 26)); obtain ⟨⟨p0, p1, p2, p3, p4, p5⟩, ⟨r0, r1, r2, r3, r4, r5⟩⟩ := six_of (H7.out.alloc (.cells #[.slice Ak Y.length ck1, .int .i64 N1] 26)); have MK := Lib.hid (hm.base B7.out.size); clear hb hm C1)
          | (go_at_call 10; with_reducible refine (C1.out _ _ (KH.out _ B67.out)).mono ?_; rintro e wk ⟨vk, rfl, hm, hb⟩; obtain ⟨Ak, ck1, rfl⟩ := hm.is; have BB := Lib.hid (below_then B67.out hb (Nat.le_refl _)); have SB := BB.out.size; have H6 := Lib.hid (H67.out.1.below hb H67.out.1.lt); have H7 := Lib.hid (H67.out.2.below hb H67.out.2.lt); obtain ⟨d0, d1⟩ := row2c H6.out; obtain ⟨f0, f1⟩ := row2f H6.out; obtain ⟨⟨e0, e1, e2, e3, e4, e5⟩, ⟨g0, g1, g2, g3, g4, g5⟩⟩ := six_of H7.out; have MK := Lib.hid (hm.base B67.out.size); clear hb hm C1)
          | (go_at_call 10; with_reducible refine (C1.out _ _ (KH.out _ B76.out)).mono ?_; rintro e wk ⟨vk, rfl, hm, hb⟩; obtain ⟨Ak, ck1, rfl⟩ := hm.is; have BB := Lib.hid (below_then B76.out hb (Nat.le_refl _)); have SB := BB.out.size; have H6 := Lib.hid (H76.out.2.below hb H76.out.2.lt); have H7 := Lib.hid (H76.out.1.below hb H76.out.1.lt); obtain ⟨d0, d1⟩ := row2c H6.out; obtain ⟨f0, f1⟩ := row2f H6.out; obtain ⟨⟨e0, e1, e2, e3, e4, e5⟩, ⟨g0, g1, g2, g3, g4, g5⟩⟩ := six_of H7.out; have MK := Lib.hid (hm.base B76.out.size); clear hb hm C1)
          | fail)
        all_goals
          go_wp2_with fail
          go_meet
          first
          | (have q6 := H6; have q7 := H7; exact ⟨_, _, Ak, ck1, rfl, rfl, Lib.hid ((laid4 H6.out H7.out (by omega)).did BB.out (by omega) (by omega)), Lib.hid ((laid4 H6.out H7.out (by omega)).mine MK.out (by decide))⟩)
          | (have q6 := H6; exact ⟨_, _, Ak, ck1, rfl, rfl, Lib.hid ((laid3 H6.out).did BB.out (by omega) (by omega)), Lib.hid ((laid3 H6.out).mine MK.out (by decide))⟩)
          | (have q7 := H7; exact ⟨_, _, Ak, ck1, rfl, rfl, Lib.hid ((laid5 H7.out).did BB.out (by omega) (by omega)), Lib.hid ((laid5 H7.out).mine MK.out (by decide))⟩)
          | (exact ⟨_, _, Ak, ck1, rfl, rfl, Lib.hid ((laid1).did BB.out (by omega) (by omega)), Lib.hid ((laid1).mine MK.out (by decide))⟩)
          | (exact ⟨_, _, Ak, ck1, rfl, rfl, Lib.hid ((laid2).did BB.out (by omega) (by omega)), Lib.hid ((laid2).mine MK.out (by decide))⟩)
      case rest =>
      clear B0 B6 B7 B67 B76 H67 H76
      obtain ⟨qy, qa, Ay, cy, rfl, rfl, DY, MY⟩ := hcut
      have LY0 : Hid (qx1 < qy) := Lib.hid (Nat.lt_of_lt_of_le G.out.v0.lt DY.out.hx)
      have LYa : Hid (qx1 < qa) := Lib.hid (Nat.lt_of_lt_of_le G.out.v0.lt DY.out.ha)
      have G := Lib.hid (G.out.did DY.out)
      have MY := Lib.hid (MY.out.base LW.out)
      have KZ := Lib.hid (KZ.out.still DY.out.bel)
      have RR := Lib.hid (RR.out.still DY.out.bel)
      clear HC KH C1 DY HCL HD KS HB HA
      generalize wc = w6 at *
      obtain ⟨a0, a1, a2, a3, a4, a5⟩ := row6 G.out.v0
      obtain ⟨e0, e1, e2, e3, e4, e5⟩ := row_an RR.out.r1 hlt
      rw [HAN.out] at e0 e1 e2 e3 e4 e5
      simp only at e0 e1 e2 e3 e4 e5
      go_upto_region 10 with (fail)
      go_quiet (fail)
      have G := Lib.hid (G.out.drewN nq)
      have BD := Lib.hid (below_drewN (Below.refl w6.heap.size w6) nq)
      have MY := Lib.hid (MY.out.still BD.out)
      have KZ := Lib.hid (KZ.out.still BD.out)
      have RR := Lib.hid (RR.out.still BD.out)
      clear BD a0 a1 a2 a3 a4 a5 e0 e1 e2 e3 e4 e5
      generalize World.drewN w6 nq = w7 at *
      obtain ⟨y0, y1⟩ := row2c G.out.v1
      obtain ⟨s0, s1⟩ := row2c G.out.v2
      obtain ⟨f0, f1⟩ := row2f G.out.v2
      have ny1 : qx1 ≠ qy := Nat.ne_of_lt LY0.out
      have ny2 : qy ≠ qx1 := Ne.symm ny1
      go_upto_region 8 with (fail)
      have hlx := LX.out
      have hly := LY.out
      obtain ⟨GL, ML⟩ := lay_s G.out MY.out (by decide) (by show ¬ qz = qx1; omega) (by omega) (.slice Ay Y.length cy) (.int .i64 N1)
      have GE : Hid (Bag w (setTwo w7 qx1 (.slice Ay Y.length cy) (.int .i64 N1)) [(qx1, 26, #[.slice Ay Y.length cy, .int .i64 N1]), (qz, 26, #[.slice Az (plS l n).l.length cz, .int .i64 (plS l n).n])] ∧ Mine w.heap.size (setTwo w7 qx1 (.slice Ay Y.length cy) (.int .i64 N1)) (.slice Ay Y.length cy) Y ∧ Mine w.heap.size (setTwo w7 qx1 (.slice Ay Y.length cy) (.int .i64 N1)) (.slice Az (plS l n).l.length cz) (plS l n).l ∧ Rows2 (setTwo w7 qx1 (.slice Ay Y.length cy) (.int .i64 N1)) q1 q2 n m (plA l)) := Lib.hid ⟨GL, ML, mine_two KZ.out G.out.v2 (by decide) _ _, RR.out.set G.out.v2 (by decide) _ _⟩
      unfold setTwo at GE
      clear GL ML G MY KZ RR y0 y1 s0 s1 f0 f1 ny1 ny2 hlx hly
      generalize World.setCell _ _ _ = wz at *
      go_wp2_with fail
      go_roundg (n - (k + 1))
      case measure => omega
      case rel => exact ⟨k + 1, _, by omega, by omega, by omega, by go_num, by rw [HYY.out]; exact Lib.hid GE.out.1, by rw [HYY.out]; exact Lib.hid GE.out.2.1, Lib.hid GE.out.2.2.1, Lib.hid GE.out.2.2.2⟩
    · obtain rfl : k = n := by omega
      have hz1 : ¬ (k : Int) < (k : Int) := by omega
      clear HA HB
      go_wp2_with fail
      go_loopg [13] m (fun g s13 wx => ∃ j q : Nat, j ≤ m ∧ m - j ≤ g ∧ s13 = .int .i64 j ∧ wx = wr.drewN q)
      case atStart => exact ⟨0, 0, Nat.zero_le _, by omega, rfl, rfl⟩
      case round =>
        obtain ⟨j, q, hj, hjg, rfl, rfl⟩ := hrel
        by_cases hjt : j < m
        · have hjz : (j : Int) < (m : Int) := by omega
          have hj0 : (0 : Int) ≤ (j : Int) := by omega
          have hjn : (j : Int) < (k : Int) := by omega
          obtain ⟨e0, e1, e2, e3, e4, e5⟩ := row_an RR.out.r1 (show j < k by omega)
          obtain ⟨d0, d1, d2, d3, d4, d5⟩ := row_an RR.out.r2 hjt
          go_wp2_with fail
          go_quiet (fail)
          go_wp2_with fail
          go_roundg (m - (j + 1))
          case measure => omega
          case rel => exact ⟨j + 1, q + nq, by omega, by omega, by go_num, rfl⟩
        · obtain rfl : j = m := by omega
          have hz2 : ¬ (j : Int) < (j : Int) := by omega
          have G := Lib.hid (G.out.drewN q)
          have BD := Lib.hid (below_drewN (Below.refl wr.heap.size wr) q)
          have KZ := Lib.hid (KZ.out.still BD.out)
          have KS := Lib.hid (KS.out.still BD.out)
          have h24 : ((plS l k).l.length : Int) ≤ 24 := by have := HL24.out; omega
          clear RR BD
          generalize World.drewN wr q = w8 at *
          obtain ⟨s0, s1⟩ := row2c G.out.v0
          obtain ⟨z0, z1⟩ := row2c G.out.v1
          go_wp2_with fail
          refine (CSn.out _ _ _ KZ.out.holds KS.out.holds).mono ?_
          rintro e w9 ⟨rfl, hb⟩
          have G := Lib.hid (G.out.still hb)
          have KZ := Lib.hid (KZ.out.still hb)
          clear hb s0 s1 z0 z1
          obtain ⟨z0, z1⟩ := row2c G.out.v1
          go_wp2_with fail
          refine (CRn.out _ _ KZ.out.holds).mono ?_
          rintro e w10 ⟨rfl, hb⟩
          have G := Lib.hid (G.out.still hb)
          clear hb z0 z1
          obtain ⟨z0, z1⟩ := row2c G.out.v1
          go_wp2_with fail
          go_ret
          exact ⟨rfl, G.out.bel⟩
theorem parts_any (l : List Cl) (A : Option Addr) (cc : Nat) (at' : Int) (w : World) (hA : CallsAt w A l) (hcc : l.length ≤ cc) (h0 : 0 ≤ at') (h1 : at' ≤ 255) (hB : ∀ k, k < l.length → i64 (nthC l k).f ∧ i64 (nthC l k).o) :
    Calls Tryz.prog 3 #[.slice A l.length cc, .int .u8 at'] w fun e w' => e = .returned (.bool true) ∧ Below w.heap.size w w' := by
  by_cases hl : l.length ≤ 60
  · exact parts_few l A cc at' w hl hA hcc h0 h1 hB
  · exact parts_many A l.length cc at' w (by omega)
end Go.Proofs.YtholpgcghpikgaaGreat
