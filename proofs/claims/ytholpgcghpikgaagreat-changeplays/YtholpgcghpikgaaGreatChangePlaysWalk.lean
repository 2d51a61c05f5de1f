/-
  Layer 14: whatever is called, one behind the other: each answer, and the space, are the chapter's.
-/
import Derived.Test.YtholpgcghpikgaaGreatPkCg
import Derived.Test.YtholpgcghpikgaaGreatPkCd
import Derived.Test.YtholpgcghpikgaaGreatPkCh
import Derived.Deep.DeepCutAuto
import Derived.Deep.LoopGhost
namespace Go.Proofs.YtholpgcghpikgaaGreat
open Go.ChangeShapes Go.WideShapes Go.ChangeAt Go.RowKit Go.Shelf
set_option linter.unusedVariables false

set_option maxHeartbeats 2000000 in
theorem plays_many (A : Option Addr) (n cc : Nat)  (w : World) (hn : 60 < n) :
    Calls Tryz.prog 4 #[.slice A n cc] w fun e w' => e = .returned (.bool true) ∧ Below w.heap.size w w' := by
  have W0 := Lib.hid ch_awake
  have G := Lib.hid (Bag.new w)
  have hz : (60 : Int) < (n : Int) := by omega
  go_enter Tryz.func4, Tryz.ntmps4
  go_wp2_with fail
  refine (W0.out _).mono ?_
  rintro e w1 ⟨rfl, hb⟩
  have G := Lib.hid (G.out.still hb)
  clear hb
  go_wp2_with fail
  refine (W0.out _).mono ?_
  rintro e w2 ⟨rfl, hb⟩
  have G := Lib.hid (G.out.still hb)
  clear hb
  go_wp2_with fail
  go_ret
  exact ⟨rfl, G.out.bel⟩

/-- The two spaces that go on. -/
theorem lay_sr {w wr : World} {x0 x1 x2 x3 : Nat × TypeId × Array Value} {qs qr B : Nat} {t t' : TypeId} {a b a' b' v u : Value} {Y : List Ar} (G : Bag w wr [x0, x1, x2, x3, (qr, t', #[a', b']), (qs, t, #[a, b])]) (M : Mine B wr v Y) (K : Holds wr u Y) (hY : RightL Y) (ht : 52 ≠ t) (ht' : 52 ≠ t') (hne : qs ≠ qr) (h4 : w.heap.size ≤ qs) (h5 : w.heap.size ≤ qr) (x x' y y' : Value) {W1 W2 : World} (e1 : W1 = setTwo wr qs x x') (e2 : W2 = setTwo W1 qr y y') :
    Bag w W2 [(qr, t', #[y, y']), (qs, t, #[x, x'])] ∧ Mine B W2 v Y ∧ Holds W2 u Y := by
  have o1 : Only (fun k => k = qs) wr W1 := by rw [e1]; exact two_only wr qs x x'
  have g4 : Whole W1 qs t #[x, x'] := by rw [e1]; exact two_put G.v5 x x'
  have g5 : Whole W1 qr t' #[a', b'] := G.v4.only o1 (by show ¬ qr = qs; omega)
  have m1 : Mine B W1 v Y := by rw [e1]; exact mine_two M G.v5 ht x x'
  have k1 : Holds W1 u Y := K.apart o1 (not_two G.v5) hY
  have o2 : Only (fun k => k = qr) W1 W2 := by rw [e2]; exact two_only W1 qr y y'
  have g6 : Whole W2 qr t' #[y, y'] := by rw [e2]; exact two_put g5 y y'
  have m2 : Mine B W2 v Y := by rw [e2]; exact mine_two m1 g5 ht' y y'
  refine ⟨⟨fun z hz => ?_, (G.bel.trans (o1.below (fun k hk => by omega) G.bel.size)).trans (o2.below (fun k hk => by omega) (Nat.le_trans G.bel.size o1.size))⟩, m2, k1.apart o2 (not_two g5) hY⟩
  simp only [List.mem_cons, List.not_mem_nil, or_false] at hz
  rcases hz with rfl | rfl
  · exact g6
  · exact g4.only o2 (by show ¬ qs = qr; omega)

set_option maxRecDepth 4000 in
set_option maxHeartbeats 16000000 in
theorem plays_few (l : List Cl) (A : Option Addr) (cc : Nat) (w : World) (hl : l.length ≤ 60) (hA : CallsAt w A l) (hB : ∀ k, k < l.length → i64 (nthC l k).f ∧ i64 (nthC l k).o) :
    Calls Tryz.prog 4 #[.slice A l.length cc] w fun e w' => e = .returned (.bool true) ∧ Below w.heap.size w w' := by
  have W0 := Lib.hid ch_awake
  have G := Lib.hid (Bag.new w)
  have ST : Hid (∀ W, Calls Tryz.prog 13 #[] W fun e w' => e = .returned (.agg #[.slice none 0 0, .int .i64 65536]) ∧ Below W.heap.size W w') := Lib.hid scStart_c
  have CP : Hid (∀ W, Below w.heap.size w W → Calls Tryz.prog 9 #[.slice A l.length cc] W fun r w' => ∃ v' q, r = .returned (.tuple #[.agg #[v', .int .i64 (plS l l.length).n], .slice (some ⟨q, 0, none⟩) l.length l.length]) ∧ W.heap.size ≤ q ∧ Whole w' q 34 (ansA (plA l) l.length) ∧ Mine W.heap.size w' v' (plS l l.length).l ∧ Below W.heap.size W w') := Lib.hid (fun W h => play_c l A cc W (by omega) (hA.below h) (fun k hk => (hB k hk).2))
  have CSn : Hid (∀ W u u', Holds W u (plS l l.length).l → Holds W u' (plS l l.length).l → Calls Tryz.prog 11 #[.agg #[u, .int .i64 (plS l l.length).n], .agg #[u', .int .i64 (plS l l.length).n]] W fun e w' => e = .returned (.bool true) ∧ Below W.heap.size W w') := Lib.hid (fun W u u' h h' => scSame_c (s := plS l l.length) h h' (sc_len (pl_right l l.length)))
  have HA := Lib.hid hA
  have HB := Lib.hid hB
  clear hA hB
  generalize hn : l.length = n at *
  have HN := Lib.hid hn
  clear hn
  have hz : ¬ (60 : Int) < (n : Int) := by omega
  go_enter Tryz.func4, Tryz.ntmps4
  go_wp2_with fail
  refine (W0.out _).mono ?_
  rintro e w1 ⟨rfl, hb⟩
  have G := Lib.hid (G.out.still hb)
  clear hb
  go_wp2_with fail
  refine (ST.out _).mono ?_
  rintro e w2 ⟨rfl, hb⟩
  have LQ := Lib.hid (G.out.still hb).bel.size
  have G := Lib.hid ((G.out.still hb).add 26 #[.slice none 0 0, .int .i64 65536])
  have G := Lib.hid (G.out.add 43 #[.slice none 0 0, .int .i64 65536])
  clear hb ST W0
  simp only [World.size_alloc] at G
  go_wp2_with fail
  generalize World.alloc (World.alloc w2 _) _ = w3 at *
  generalize w2.heap.size = qs at *
  go_loopg [5] n (fun g s5 wr => ∃ (k : Nat) (vs vr : Value), k ≤ n ∧ n - k ≤ g ∧ s5 = .int .i64 k ∧ Hid (Bag w wr [(qs + 1, 43, #[vr, .int .i64 (plS l k).n]), (qs, 26, #[vs, .int .i64 (plS l k).n])]) ∧ Hid (Mine w.heap.size wr vs (plS l k).l) ∧ Hid (Holds wr vr (plS l k).l))
  case atStart => exact ⟨0, _, _, by omega, by omega, rfl, G, Lib.hid (Mine.nil _ _), Lib.hid (Holds.nil _)⟩
  case round =>
    clear G
    obtain ⟨k, vs, vr, hk, hg, rfl, G, KS, KR⟩ := hrel
    obtain ⟨As, cs, hvs⟩ := KS.out.is
    obtain ⟨Ar1, cr, hvr⟩ := KR.out.is
    subst hvs hvr
    by_cases hlt : k < n
    · have hltz : (k : Int) < (n : Int) := by omega
      have hz0 : (0 : Int) ≤ (k : Int) := by omega
      obtain ⟨b, off, rfl, hb, hc⟩ := (HA.out.below G.out.bel).at (k := k) (by rw [HN.out]; exact hlt)
      have HD := Lib.hid (HB.out k hlt)
      obtain ⟨ck, ca, cn, cnw, ctw, cp, cf, cb, co, hcl⟩ : ∃ ck ca cn cnw ctw cp cf cb co, nthC l k = ⟨ck, ca, cn, cnw, ctw, cp, cf, cb, co⟩ := ⟨_, _, _, _, _, _, _, _, _, rfl⟩
      rw [hcl] at hc HD
      have HCL := Lib.hid (fun W (h : Below wr.heap.size wr W) => hc.below h hb)
      have hbl := hb
      obtain ⟨ae, ax, ⟨ap, ah, ab, ao⟩, han⟩ : ∃ ae ax t, plA l k = ⟨ae, ax, t⟩ := ⟨_, _, _, rfl⟩
      obtain ⟨X, N, hX⟩ : ∃ X N, plS l k = ⟨X, N⟩ := ⟨_, _, rfl⟩
      obtain ⟨Y, N1, hY⟩ : ∃ Y N1, plS l (k + 1) = ⟨Y, N1⟩ := ⟨_, _, rfl⟩
      have hr : chR ⟨X, N⟩ ⟨ck, ca, cn, cnw, ctw, cp, cf, cb, co⟩ = (⟨Y, N1⟩, ⟨ae, ax, ⟨ap, ah, ab, ao⟩⟩) := by
        rw [← hX, ← hcl, ← hY, ← han]; rfl
      have hR := pl_right l k
      have hR' := pl_right l (k + 1)
      rw [hX] at hR
      rw [hY] at hR'
      have HYY := Lib.hid hY
      have HY := Lib.hid hR'.1.1
      simp only [hX] at G KS KR
      have C1 : Hid (∀ W u, Holds W u X → Calls Tryz.prog 10 #[.agg #[u, .int .i64 N], .agg #[.int .i64 ck, .int .i64 ca, .int .i64 cn, .int .i64 cnw, .int .i64 ctw, .int .i64 cp, .int .i64 cf, .int .i64 cb, .int .i64 co]] W fun e w' => ∃ v', e = .returned (.tuple #[.agg #[v', .int .i64 N1], .agg #[.int .i64 ae, .int .i64 ax, .int .i64 ap, .bool ah, .int .i64 ab, .int .i64 ao]]) ∧ Mine W.heap.size w' v' Y ∧ Below W.heap.size W w') := Lib.hid (fun W u h => by
        have := do_c (s := ⟨X, N⟩) h (sc_len hR) ⟨ck, ca, cn, cnw, ctw, cp, cf, cb, co⟩ HD.out.2
        unfold GivesS scV at this
        rw [hr] at this
        exact this)
      have C2 : Hid (∀ W u, Holds W u X → Calls Tryz.prog 14 #[.agg #[u, .int .i64 N], .agg #[.int .i64 ck, .int .i64 ca, .int .i64 cn, .int .i64 cnw, .int .i64 ctw, .int .i64 cp, .int .i64 cf, .int .i64 cb, .int .i64 co]] W fun e w' => ∃ v', e = .returned (.tuple #[.agg #[v', .int .i64 N1], .agg #[.int .i64 ae, .int .i64 ax, .int .i64 ap, .bool ah, .int .i64 ab, .int .i64 ao]]) ∧ Holds w' v' Y ∧ Below W.heap.size W w') := Lib.hid (fun W u h => by
        have := refDo_c (s := ⟨X, N⟩) h hR ⟨ck, ca, cn, cnw, ctw, cp, cf, cb, co⟩ HD.out.1 HD.out.2
        unfold GivesSH scV at this
        rw [hr] at this
        exact this)
      have CQ : Hid (∀ W u u', Holds W u Y → Holds W u' Y → Calls Tryz.prog 15 #[.agg #[u, .int .i64 N1], .agg #[u', .int .i64 N1]] W fun e w' => e = .returned (.bool true) ∧ Below W.heap.size W w') := Lib.hid (fun W u u' h h' => refSc_c (s := ⟨Y, N1⟩) h h' (sc_len hR'))
      have CR : Hid (∀ W u, Holds W u Y → Calls Tryz.prog 12 #[.agg #[u, .int .i64 N1]] W fun e w' => e = .returned (.bool true) ∧ Below W.heap.size W w') := Lib.hid (fun W u h => by
        have := scRight_c (s := ⟨Y, N1⟩) h (sc_len hR')
        rw [decide_eq_true hR'] at this
        exact this)
      have CE : Hid (ae ≠ 0 → Y = X ∧ N1 = N) := Lib.hid (fun h => by
        have e := chR_err (s := ⟨X, N⟩) (c := ⟨ck, ca, cn, cnw, ctw, cp, cf, cb, co⟩) (by rw [hr]; exact h)
        rw [hr] at e
        simp only [Sc.mk.injEq] at e
        exact e)
      have CS : Hid (∀ W u u', Holds W u X → Holds W u' X → Calls Tryz.prog 11 #[.agg #[u, .int .i64 N], .agg #[u', .int .i64 N]] W fun e w' => e = .returned (.bool true) ∧ Below W.heap.size W w') := Lib.hid (fun W u u' h h' => scSame_c (s := ⟨X, N⟩) h h' (sc_len hR))
      clear hr hR hR' han hX hY hcl hc
      have HC : Hid (∀ W, Below wr.heap.size wr W → (W.cell? ⟨qs, 0, none⟩ = some (.slice As X.length cs) ∧ W.cell? ⟨qs, 1, none⟩ = some (.int .i64 N) ∧ W.cell? ⟨b, off + k * 9, none⟩ = some (.int .i64 ck) ∧ W.cell? ⟨b, off + k * 9 + 1, none⟩ = some (.int .i64 ca) ∧ W.cell? ⟨b, off + k * 9 + 2, none⟩ = some (.int .i64 cn) ∧ W.cell? ⟨b, off + k * 9 + 3, none⟩ = some (.int .i64 cnw) ∧ W.cell? ⟨b, off + k * 9 + 4, none⟩ = some (.int .i64 ctw) ∧ W.cell? ⟨b, off + k * 9 + 5, none⟩ = some (.int .i64 cp) ∧ W.cell? ⟨b, off + k * 9 + 6, none⟩ = some (.int .i64 cf) ∧ W.cell? ⟨b, off + k * 9 + 7, none⟩ = some (.int .i64 cb) ∧ W.cell? ⟨b, off + k * 9 + 8, none⟩ = some (.int .i64 co))) := Lib.hid (fun W h => by
        obtain ⟨x0, x1⟩ := row2c (G.out.still h).v1
        obtain ⟨c0, c1, c2, c3, c4, c5, c6, c7, c8⟩ := HCL.out W h
        exact ⟨x0, x1, c0, c1, c2, c3, c4, c5, c6, c7, c8⟩)
      have KH := Lib.hid (fun W (h : Below wr.heap.size wr W) => KS.out.holds.still h)
      have LW := Lib.hid G.out.bel.size
      go_upto_region 8 with (fail)
      have B0 : Hid (Below wr.heap.size wr wr.drew) := Lib.hid (below_drew (Below.refl _ _))
      have B6 := Lib.hid (below_drew (below_new wr (.cells #[.slice none 0 0, .int .i64 0] 26)))
      have B7 := Lib.hid (below_drew (below_new wr (.cells #[.int .i64 0, .int .i64 0, .int .i64 0, .bool false, .int .i64 0, .int .i64 0] 34)))
      have B67 := Lib.hid (below_drew (below_new2 wr (.cells #[.slice none 0 0, .int .i64 0] 26) (.cells #[.int .i64 0, .int .i64 0, .int .i64 0, .bool false, .int .i64 0, .int .i64 0] 34)))
      have B76 := Lib.hid (below_drew (below_new2 wr (.cells #[.int .i64 0, .int .i64 0, .int .i64 0, .bool false, .int .i64 0, .int .i64 0] 34) (.cells #[.slice none 0 0, .int .i64 0] 26)))
      have H67 := Lib.hid (two_new wr 26 34 #[.slice none 0 0, .int .i64 0] #[.int .i64 0, .int .i64 0, .int .i64 0, .bool false, .int .i64 0, .int .i64 0])
      have H76 := Lib.hid (two_new wr 34 26 #[.int .i64 0, .int .i64 0, .int .i64 0, .bool false, .int .i64 0, .int .i64 0] #[.slice none 0 0, .int .i64 0])
      go_cut [6, 7] (fun s6 s7 wx => ∃ (qx qa : Nat) (Ax : Option Addr) (cx : Nat), s6 = .pointer (some ⟨qx, 0, none⟩) ∧ s7 = .pointer (some ⟨qa, 0, none⟩) ∧ Hid (DidAt 26 wr wx qx qa #[.slice Ax Y.length cx, .int .i64 N1] #[.int .i64 ae, .int .i64 ax, .int .i64 ap, .bool ah, .int .i64 ab, .int .i64 ao]) ∧ Hid (Mine wr.heap.size wx (.slice Ax Y.length cx) Y))
      case first =>
        go_region_held3 (fun W => W.cell? ⟨qs, 0, none⟩ = some (.slice As X.length cs) ∧ W.cell? ⟨qs, 1, none⟩ = some (.int .i64 N) ∧ W.cell? ⟨b, off + k * 9, none⟩ = some (.int .i64 ck) ∧ W.cell? ⟨b, off + k * 9 + 1, none⟩ = some (.int .i64 ca) ∧ W.cell? ⟨b, off + k * 9 + 2, none⟩ = some (.int .i64 cn) ∧ W.cell? ⟨b, off + k * 9 + 3, none⟩ = some (.int .i64 cnw) ∧ W.cell? ⟨b, off + k * 9 + 4, none⟩ = some (.int .i64 ctw) ∧ W.cell? ⟨b, off + k * 9 + 5, none⟩ = some (.int .i64 cp) ∧ W.cell? ⟨b, off + k * 9 + 6, none⟩ = some (.int .i64 cf) ∧ W.cell? ⟨b, off + k * 9 + 7, none⟩ = some (.int .i64 cb) ∧ W.cell? ⟨b, off + k * 9 + 8, none⟩ = some (.int .i64 co))
          (first | with_reducible exact HC.out _ B0.out | with_reducible exact HC.out _ B6.out | with_reducible exact HC.out _ B7.out | with_reducible exact HC.out _ B67.out | with_reducible exact HC.out _ B76.out | with_reducible exact HC.out _ BB.out | (refine HC.out _ ?_; repeat (first | with_reducible exact BB.out | with_reducible refine below_al ?_ | with_reducible refine below_st ?_ (by omega))))
          (first
          | (go_at_call 10; with_reducible refine (C1.out _ _ (KH.out _ B0.out)).mono ?_; rintro e wk ⟨vk, rfl, hm, hb⟩; obtain ⟨Ak, ck1, rfl⟩ := hm.is; have BB := Lib.hid (below_then B0.out hb (Nat.le_refl _)); have SB := BB.out.size; obtain ⟨l0, l1⟩ := row2c (two_new wk 26 34 #[.slice none 0 0, .int .i64 0] #[.int .i64 0, .int .i64 0, .int .i64 0, .bool false, .int .i64 0, .int .i64 0]).1.undrew; obtain ⟨m0, m1⟩ := row2f (two_new wk 26 34 #[.slice none 0 0, .int .i64 0] #[.int .i64 0, .int .i64 0, .int .i64 0, .bool false, .int .i64 0, .int .i64 0]).1.undrew; obtain ⟨⟨n0, n1, n2, n3, n4, n5⟩, ⟨o0, o1, o2, o3, o4, o5⟩⟩ := six_of (two_new wk 34 26 #[.int .i64 0, .int .i64 0, .int .i64 0, .bool false, .int .i64 0, .int .i64 0] #[.slice none 0 0, .int .i64 0]).1.undrew; have MK := Lib.hid (hm.base B0.out.size); clear hb hm C1)
          | (go_at_call 10; with_reducible refine (C1.out _ _ (KH.out _ B6.out)).mono ?_; rintro e wk ⟨vk, rfl, hm, hb⟩; obtain ⟨Ak, ck1, rfl⟩ := hm.is; have BB := Lib.hid (below_then B6.out hb (Nat.le_refl _)); have SB := BB.out.size; have H6 := Lib.hid ((Whole.new wr 26 #[.slice none 0 0, .int .i64 0]).drew.below hb (Whole.new wr 26 #[.slice none 0 0, .int .i64 0]).drew.lt); obtain ⟨d0, d1⟩ := row2c H6.out; obtain ⟨f0, f1⟩ := row2f H6.out; have ne1 : wr.heap.size ≠ wk.heap.size := Nat.ne_of_lt H6.out.lt; have ne2 : wk.heap.size ≠ wr.heap.size := Ne.symm ne1; obtain ⟨l0, l1⟩ := row2c (H6.out.alloc (.cells #[.int .i64 0, .int .i64 0, .int .i64 0, .bool false, .int .i64 0, .int .i64 0] 34)); obtain ⟨m0, m1⟩ := row2f (H6.out.alloc (.cells #[.int .i64 0, .int .i64 0, .int .i64 0, .bool false, .int .i64 0, .int .i64 0] 34)); have MK := Lib.hid (hm.base B6.out.size); clear hb hm C1)
          | (go_at_call 10; with_reducible refine (C1.out _ _ (KH.out _ B7.out)).mono ?_; rintro e wk ⟨vk, rfl, hm, hb⟩; obtain ⟨Ak, ck1, rfl⟩ := hm.is; have BB := Lib.hid (below_then B7.out hb (Nat.le_refl _)); have SB := BB.out.size; have H7 := Lib.hid ((Whole.new wr 34 #[.int .i64 0, .int .i64 0, .int .i64 0, .bool false, .int .i64 0, .int .i64 0]).drew.below hb (Whole.new wr 34 #[.int .i64 0, .int .i64 0, .int .i64 0, .bool false, .int .i64 0, .int .i64 0]).drew.lt); obtain ⟨⟨e0, e1, e2, e3, e4, e5⟩, ⟨g0, g1, g2, g3, g4, g5⟩⟩ := six_of H7.out; have ne1 : wr.heap.size ≠ wk.heap.size := Nat.ne_of_lt H7.out.lt; have ne2 : wk.heap.size ≠ wr.heap.size := Ne.symm ne1; obtain ⟨⟨n0, n1, n2, n3, n4, n5⟩, ⟨o0, o1, o2, o3, o4, o5⟩⟩ := six_of (H7.out.alloc (.cells #[.slice none 0 0, .int .i64 0] 26)); obtain ⟨⟨p0, p1, p2, p3, p4, p5⟩, ⟨r0, r1, r2, r3, r4, r5⟩⟩ := six_of (H7.out.alloc (.cells #[.slice Ak Y.length ck1, .int .i64 N1] 26)); have MK := Lib.hid (hm.base B7.out.size); clear hb hm C1)
          | (go_at_call 10; with_reducible refine (C1.out _ _ (KH.out _ B67.out)).mono ?_; rintro e wk ⟨vk, rfl, hm, hb⟩; obtain ⟨Ak, ck1, rfl⟩ := hm.is; have BB := Lib.hid (below_then B67.out hb (Nat.le_refl _)); have SB := BB.out.size; have H6 := Lib.hid (H67.out.1.below hb H67.out.1.lt); have H7 := Lib.hid (H67.out.2.below hb H67.out.2.lt); obtain ⟨d0, d1⟩ := row2c H6.out; obtain ⟨f0, f1⟩ := row2f H6.out; obtain ⟨⟨e0, e1, e2, e3, e4, e5⟩, ⟨g0, g1, g2, g3, g4, g5⟩⟩ := six_of H7.out; have MK := Lib.hid (hm.base B67.out.size); clear hb hm C1)
          | (go_at_call 10; with_reducible refine (C1.out _ _ (KH.out _ B76.out)).mono ?_; rintro e wk ⟨vk, rfl, hm, hb⟩; obtain ⟨Ak, ck1, rfl⟩ := hm.is; have BB := Lib.hid (below_then B76.out hb (Nat.le_refl _)); have SB := BB.out.size; have H6 := Lib.hid (H76.out.2.below hb H76.out.2.lt); have H7 := Lib.hid (H76.out.1.below hb H76.out.1.lt); obtain ⟨d0, d1⟩ := row2c H6.out; obtain ⟨f0, f1⟩ := row2f H6.out; obtain ⟨⟨e0, e1, e2, e3, e4, e5⟩, ⟨g0, g1, g2, g3, g4, g5⟩⟩ := six_of H7.out; have MK := Lib.hid (hm.base B76.out.size); clear hb hm C1)
          | fail)
        all_goals
          go_wp2_with fail
          go_meet
          first
          | (have q6 := H6; have q7 := H7; exact ⟨_, _, Ak, ck1, rfl, rfl, Lib.hid ((laid4 H6.out H7.out (by omega)).did BB.out (by omega) (by omega)), Lib.hid ((laid4 H6.out H7.out (by omega)).mine MK.out (by decide))⟩)
          | (have q6 := H6; exact ⟨_, _, Ak, ck1, rfl, rfl, Lib.hid ((laid3 H6.out).did BB.out (by omega) (by omega)), Lib.hid ((laid3 H6.out).mine MK.out (by decide))⟩)
          | (have q7 := H7; exact ⟨_, _, Ak, ck1, rfl, rfl, Lib.hid ((laid5 H7.out).did BB.out (by omega) (by omega)), Lib.hid ((laid5 H7.out).mine MK.out (by decide))⟩)
          | (exact ⟨_, _, Ak, ck1, rfl, rfl, Lib.hid ((laid1).did BB.out (by omega) (by omega)), Lib.hid ((laid1).mine MK.out (by decide))⟩)
          | (exact ⟨_, _, Ak, ck1, rfl, rfl, Lib.hid ((laid2).did BB.out (by omega) (by omega)), Lib.hid ((laid2).mine MK.out (by decide))⟩)
      case rest =>
      clear B0 B6 B7 B67 B76 H67 H76
      obtain ⟨qx, qa, Ax, cx, rfl, rfl, DX, MX⟩ := hcut
      have G := Lib.hid (G.out.did DX.out)
      have MX := Lib.hid (MX.out.base LW.out)
      have KS := Lib.hid (KS.out.still DX.out.bel)
      have KR := Lib.hid (KR.out.still DX.out.bel)
      have HCL := Lib.hid (fun W (h : Below wc.heap.size wc W) => (HCL.out wc DX.out.bel).below h (Nat.lt_of_lt_of_le hbl DX.out.bel.size))
      clear HC KH C1 DX
      generalize wc = w5 at *
      have HC : Hid (∀ W, Below w5.heap.size w5 W → (W.cell? ⟨qs + 1, 0, none⟩ = some (.slice Ar1 X.length cr) ∧ W.cell? ⟨qs + 1, 1, none⟩ = some (.int .i64 N) ∧ W.cell? ⟨b, off + k * 9, none⟩ = some (.int .i64 ck) ∧ W.cell? ⟨b, off + k * 9 + 1, none⟩ = some (.int .i64 ca) ∧ W.cell? ⟨b, off + k * 9 + 2, none⟩ = some (.int .i64 cn) ∧ W.cell? ⟨b, off + k * 9 + 3, none⟩ = some (.int .i64 cnw) ∧ W.cell? ⟨b, off + k * 9 + 4, none⟩ = some (.int .i64 ctw) ∧ W.cell? ⟨b, off + k * 9 + 5, none⟩ = some (.int .i64 cp) ∧ W.cell? ⟨b, off + k * 9 + 6, none⟩ = some (.int .i64 cf) ∧ W.cell? ⟨b, off + k * 9 + 7, none⟩ = some (.int .i64 cb) ∧ W.cell? ⟨b, off + k * 9 + 8, none⟩ = some (.int .i64 co))) := Lib.hid (fun W h => by
        obtain ⟨x0, x1⟩ := row2c (G.out.still h).v2
        obtain ⟨c0, c1, c2, c3, c4, c5, c6, c7, c8⟩ := HCL.out W h
        exact ⟨x0, x1, c0, c1, c2, c3, c4, c5, c6, c7, c8⟩)
      have KH := Lib.hid (fun W (h : Below w5.heap.size w5 W) => KR.out.still h)
      have LW := Lib.hid G.out.bel.size
      go_upto_region 9 with (fail)
      have B0 : Hid (Below w5.heap.size w5 w5.drew) := Lib.hid (below_drew (Below.refl _ _))
      have B6 := Lib.hid (below_drew (below_new w5 (.cells #[.slice none 0 0, .int .i64 0] 43)))
      have B7 := Lib.hid (below_drew (below_new w5 (.cells #[.int .i64 0, .int .i64 0, .int .i64 0, .bool false, .int .i64 0, .int .i64 0] 34)))
      have B67 := Lib.hid (below_drew (below_new2 w5 (.cells #[.slice none 0 0, .int .i64 0] 43) (.cells #[.int .i64 0, .int .i64 0, .int .i64 0, .bool false, .int .i64 0, .int .i64 0] 34)))
      have B76 := Lib.hid (below_drew (below_new2 w5 (.cells #[.int .i64 0, .int .i64 0, .int .i64 0, .bool false, .int .i64 0, .int .i64 0] 34) (.cells #[.slice none 0 0, .int .i64 0] 43)))
      have H67 := Lib.hid (two_new w5 43 34 #[.slice none 0 0, .int .i64 0] #[.int .i64 0, .int .i64 0, .int .i64 0, .bool false, .int .i64 0, .int .i64 0])
      have H76 := Lib.hid (two_new w5 34 43 #[.int .i64 0, .int .i64 0, .int .i64 0, .bool false, .int .i64 0, .int .i64 0] #[.slice none 0 0, .int .i64 0])
      go_cut [8, 9] (fun s8 s9 wx => ∃ (qx qa : Nat) (Ax : Option Addr) (cx : Nat), s8 = .pointer (some ⟨qx, 0, none⟩) ∧ s9 = .pointer (some ⟨qa, 0, none⟩) ∧ Hid (DidAt 43 w5 wx qx qa #[.slice Ax Y.length cx, .int .i64 N1] #[.int .i64 ae, .int .i64 ax, .int .i64 ap, .bool ah, .int .i64 ab, .int .i64 ao]) ∧ Hid (Holds wx (.slice Ax Y.length cx) Y))
      case first =>
        go_region_held3 (fun W => W.cell? ⟨qs + 1, 0, none⟩ = some (.slice Ar1 X.length cr) ∧ W.cell? ⟨qs + 1, 1, none⟩ = some (.int .i64 N) ∧ W.cell? ⟨b, off + k * 9, none⟩ = some (.int .i64 ck) ∧ W.cell? ⟨b, off + k * 9 + 1, none⟩ = some (.int .i64 ca) ∧ W.cell? ⟨b, off + k * 9 + 2, none⟩ = some (.int .i64 cn) ∧ W.cell? ⟨b, off + k * 9 + 3, none⟩ = some (.int .i64 cnw) ∧ W.cell? ⟨b, off + k * 9 + 4, none⟩ = some (.int .i64 ctw) ∧ W.cell? ⟨b, off + k * 9 + 5, none⟩ = some (.int .i64 cp) ∧ W.cell? ⟨b, off + k * 9 + 6, none⟩ = some (.int .i64 cf) ∧ W.cell? ⟨b, off + k * 9 + 7, none⟩ = some (.int .i64 cb) ∧ W.cell? ⟨b, off + k * 9 + 8, none⟩ = some (.int .i64 co))
          (first | with_reducible exact HC.out _ B0.out | with_reducible exact HC.out _ B6.out | with_reducible exact HC.out _ B7.out | with_reducible exact HC.out _ B67.out | with_reducible exact HC.out _ B76.out | with_reducible exact HC.out _ BB.out | (refine HC.out _ ?_; repeat (first | with_reducible exact BB.out | with_reducible refine below_al ?_ | with_reducible refine below_st ?_ (by omega))))
          (first
          | (go_at_call 14; with_reducible refine (C2.out _ _ (KH.out _ B0.out)).mono ?_; rintro e wk ⟨vk, rfl, hm, hb⟩; obtain ⟨Ak, ck1, rfl⟩ := hm.is; have BB := Lib.hid (below_then B0.out hb (Nat.le_refl _)); have SB := BB.out.size; obtain ⟨l0, l1⟩ := row2c (two_new wk 43 34 #[.slice none 0 0, .int .i64 0] #[.int .i64 0, .int .i64 0, .int .i64 0, .bool false, .int .i64 0, .int .i64 0]).1.undrew; obtain ⟨m0, m1⟩ := row2f (two_new wk 43 34 #[.slice none 0 0, .int .i64 0] #[.int .i64 0, .int .i64 0, .int .i64 0, .bool false, .int .i64 0, .int .i64 0]).1.undrew; obtain ⟨⟨n0, n1, n2, n3, n4, n5⟩, ⟨o0, o1, o2, o3, o4, o5⟩⟩ := six_of (two_new wk 34 43 #[.int .i64 0, .int .i64 0, .int .i64 0, .bool false, .int .i64 0, .int .i64 0] #[.slice none 0 0, .int .i64 0]).1.undrew; have MK := Lib.hid (hm); clear hb hm C2)
          | (go_at_call 14; with_reducible refine (C2.out _ _ (KH.out _ B6.out)).mono ?_; rintro e wk ⟨vk, rfl, hm, hb⟩; obtain ⟨Ak, ck1, rfl⟩ := hm.is; have BB := Lib.hid (below_then B6.out hb (Nat.le_refl _)); have SB := BB.out.size; have H6 := Lib.hid ((Whole.new w5 43 #[.slice none 0 0, .int .i64 0]).drew.below hb (Whole.new w5 43 #[.slice none 0 0, .int .i64 0]).drew.lt); obtain ⟨d0, d1⟩ := row2c H6.out; obtain ⟨f0, f1⟩ := row2f H6.out; have ne1 : w5.heap.size ≠ wk.heap.size := Nat.ne_of_lt H6.out.lt; have ne2 : wk.heap.size ≠ w5.heap.size := Ne.symm ne1; obtain ⟨l0, l1⟩ := row2c (H6.out.alloc (.cells #[.int .i64 0, .int .i64 0, .int .i64 0, .bool false, .int .i64 0, .int .i64 0] 34)); obtain ⟨m0, m1⟩ := row2f (H6.out.alloc (.cells #[.int .i64 0, .int .i64 0, .int .i64 0, .bool false, .int .i64 0, .int .i64 0] 34)); have MK := Lib.hid (hm); clear hb hm C2)
          | (go_at_call 14; with_reducible refine (C2.out _ _ (KH.out _ B7.out)).mono ?_; rintro e wk ⟨vk, rfl, hm, hb⟩; obtain ⟨Ak, ck1, rfl⟩ := hm.is; have BB := Lib.hid (below_then B7.out hb (Nat.le_refl _)); have SB := BB.out.size; have H7 := Lib.hid ((Whole.new w5 34 #[.int .i64 0, .int .i64 0, .int .i64 0, .bool false, .int .i64 0, .int .i64 0]).drew.below hb (Whole.new w5 34 #[.int .i64 0, .int .i64 0, .int .i64 0, .bool false, .int .i64 0, .int .i64 0]).drew.lt); obtain ⟨⟨e0, e1, e2, e3, e4, e5⟩, ⟨g0, g1, g2, g3, g4, g5⟩⟩ := six_of H7.out; have ne1 : w5.heap.size ≠ wk.heap.size := Nat.ne_of_lt H7.out.lt; have ne2 : wk.heap.size ≠ w5.heap.size := Ne.symm ne1; obtain ⟨⟨n0, n1, n2, n3, n4, n5⟩, ⟨o0, o1, o2, o3, o4, o5⟩⟩ := six_of (H7.out.alloc (.cells #[.slice none 0 0, .int .i64 0] 43)); obtain ⟨⟨p0, p1, p2, p3, p4, p5⟩, ⟨r0, r1, r2, r3, r4, r5⟩⟩ := six_of (H7.out.alloc (.cells #[.slice Ak Y.length ck1, .int .i64 N1] 43)); have MK := Lib.hid (hm); clear hb hm C2)
          | (go_at_call 14; with_reducible refine (C2.out _ _ (KH.out _ B67.out)).mono ?_; rintro e wk ⟨vk, rfl, hm, hb⟩; obtain ⟨Ak, ck1, rfl⟩ := hm.is; have BB := Lib.hid (below_then B67.out hb (Nat.le_refl _)); have SB := BB.out.size; have H6 := Lib.hid (H67.out.1.below hb H67.out.1.lt); have H7 := Lib.hid (H67.out.2.below hb H67.out.2.lt); obtain ⟨d0, d1⟩ := row2c H6.out; obtain ⟨f0, f1⟩ := row2f H6.out; obtain ⟨⟨e0, e1, e2, e3, e4, e5⟩, ⟨g0, g1, g2, g3, g4, g5⟩⟩ := six_of H7.out; have MK := Lib.hid (hm); clear hb hm C2)
          | (go_at_call 14; with_reducible refine (C2.out _ _ (KH.out _ B76.out)).mono ?_; rintro e wk ⟨vk, rfl, hm, hb⟩; obtain ⟨Ak, ck1, rfl⟩ := hm.is; have BB := Lib.hid (below_then B76.out hb (Nat.le_refl _)); have SB := BB.out.size; have H6 := Lib.hid (H76.out.2.below hb H76.out.2.lt); have H7 := Lib.hid (H76.out.1.below hb H76.out.1.lt); obtain ⟨d0, d1⟩ := row2c H6.out; obtain ⟨f0, f1⟩ := row2f H6.out; obtain ⟨⟨e0, e1, e2, e3, e4, e5⟩, ⟨g0, g1, g2, g3, g4, g5⟩⟩ := six_of H7.out; have MK := Lib.hid (hm); clear hb hm C2)
          | fail)
        all_goals
          go_wp2_with fail
          go_meet
          first
          | (have q6 := H6; have q7 := H7; exact ⟨_, _, Ak, ck1, rfl, rfl, Lib.hid ((laid4 H6.out H7.out (by omega)).did BB.out (by omega) (by omega)), Lib.hid ((laid4 H6.out H7.out (by omega)).holds MK.out HY.out)⟩)
          | (have q6 := H6; exact ⟨_, _, Ak, ck1, rfl, rfl, Lib.hid ((laid3 H6.out).did BB.out (by omega) (by omega)), Lib.hid ((laid3 H6.out).holds MK.out HY.out)⟩)
          | (have q7 := H7; exact ⟨_, _, Ak, ck1, rfl, rfl, Lib.hid ((laid5 H7.out).did BB.out (by omega) (by omega)), Lib.hid ((laid5 H7.out).holds MK.out HY.out)⟩)
          | (exact ⟨_, _, Ak, ck1, rfl, rfl, Lib.hid ((laid1).did BB.out (by omega) (by omega)), Lib.hid ((laid1).holds MK.out HY.out)⟩)
          | (exact ⟨_, _, Ak, ck1, rfl, rfl, Lib.hid ((laid2).did BB.out (by omega) (by omega)), Lib.hid ((laid2).holds MK.out HY.out)⟩)
      case rest =>
      clear B0 B6 B7 B67 B76 H67 H76
      obtain ⟨qy, qb, Ay, cy, rfl, rfl, DY, MY⟩ := hcut
      have LY0 : Hid (qs < qy) := Lib.hid (Nat.lt_of_lt_of_le G.out.v3.lt DY.out.hx)
      have G := Lib.hid (G.out.did DY.out)
      have MX := Lib.hid (MX.out.still DY.out.bel)
      have KS := Lib.hid (KS.out.still DY.out.bel)
      clear HC KH C2 DY HCL KR HB HD
      generalize wc = w6 at *
      have MY := Lib.hid MY.out
      by_cases hae : ae = 0
      · have hae' : (ae != 0) = false := by simp [hae]
        clear CE CS KS
        obtain ⟨y0, y1⟩ := row2c G.out.v1
        obtain ⟨x0, x1⟩ := row2c G.out.v3
        obtain ⟨s0, s1⟩ := row2c G.out.v5
        obtain ⟨a0, a1, a2, a3, a4, a5⟩ := row6 G.out.v2
        obtain ⟨b0, b1, b2, b3, b4, b5⟩ := row6 G.out.v0
        go_wp2_with fail
        refine (CQ.out _ _ _ MX.out.holds MY.out).mono ?_
        rintro e w7 ⟨rfl, hb⟩
        have G := Lib.hid (G.out.still hb)
        have MX := Lib.hid (MX.out.still hb)
        have MY := Lib.hid (MY.out.still hb)
        clear hb
        clear y0 y1 x0 x1 s0 s1 a0 a1 a2 a3 a4 a5 b0 b1 b2 b3 b4 b5
        obtain ⟨y0, y1⟩ := row2c G.out.v1
        obtain ⟨x0, x1⟩ := row2c G.out.v3
        obtain ⟨s0, s1⟩ := row2c G.out.v5
        obtain ⟨a0, a1, a2, a3, a4, a5⟩ := row6 G.out.v2
        obtain ⟨b0, b1, b2, b3, b4, b5⟩ := row6 G.out.v0
        go_wp2_with fail
        refine (CR.out _ _ MX.out.holds).mono ?_
        rintro e w8 ⟨rfl, hb⟩
        have G := Lib.hid (G.out.still hb)
        have MX := Lib.hid (MX.out.still hb)
        have MY := Lib.hid (MY.out.still hb)
        clear hb
        clear y0 y1 x0 x1 s0 s1 a0 a1 a2 a3 a4 a5 b0 b1 b2 b3 b4 b5
        obtain ⟨y0, y1⟩ := row2c G.out.v1
        obtain ⟨x0, x1⟩ := row2c G.out.v3
        obtain ⟨s0, s1⟩ := row2c G.out.v5
        obtain ⟨a0, a1, a2, a3, a4, a5⟩ := row6 G.out.v2
        obtain ⟨b0, b1, b2, b3, b4, b5⟩ := row6 G.out.v0
        obtain ⟨f0, f1⟩ := row2f G.out.v5
        obtain ⟨r0, r1⟩ := row2c G.out.v4
        obtain ⟨g0, g1⟩ := row2f G.out.v4
        have hne1 : qs ≠ qs + 1 := by omega
        have hne2 : qs + 1 ≠ qs := by omega
        have ny1 : qy ≠ qs := (fun h => by have := LY0.out; omega)
        have ny2 : qs ≠ qy := Ne.symm ny1
        go_upto_region 7 with (fail)
        obtain ⟨GL, ML, KL⟩ := lay_sr G.out MX.out MY.out HY.out (by decide) (by decide) hne1 LQ.out (by have := LQ.out; omega) (.slice Ax Y.length cx) (.int .i64 N1) (.slice Ay Y.length cy) (.int .i64 N1) rfl rfl
        have GE : Hid (Bag w (setTwo (setTwo w8 qs (.slice Ax Y.length cx) (.int .i64 N1)) (qs + 1) (.slice Ay Y.length cy) (.int .i64 N1)) [(qs + 1, 43, #[.slice Ay Y.length cy, .int .i64 N1]), (qs, 26, #[.slice Ax Y.length cx, .int .i64 N1])] ∧ Mine w.heap.size (setTwo (setTwo w8 qs (.slice Ax Y.length cx) (.int .i64 N1)) (qs + 1) (.slice Ay Y.length cy) (.int .i64 N1)) (.slice Ax Y.length cx) Y ∧ Holds (setTwo (setTwo w8 qs (.slice Ax Y.length cx) (.int .i64 N1)) (qs + 1) (.slice Ay Y.length cy) (.int .i64 N1)) (.slice Ay Y.length cy) Y) := Lib.hid ⟨GL, ML, KL⟩
        unfold setTwo at GE
        clear GL ML KL G MX MY HY y0 y1 x0 x1 s0 s1 a0 a1 a2 a3 a4 a5 b0 b1 b2 b3 b4 b5 f0 f1 r0 r1 g0 g1 hne1 hne2 ny1 ny2
        generalize World.setCell _ _ _ = wz at *
        go_wp2_with fail
        go_roundg (n - (k + 1))
        case measure => omega
        case rel => exact ⟨k + 1, _, _, by omega, by omega, by go_num, by rw [HYY.out]; exact Lib.hid GE.out.1, by rw [HYY.out]; exact Lib.hid GE.out.2.1, by rw [HYY.out]; exact Lib.hid GE.out.2.2⟩
      · have hae' : (ae != 0) = true := by simpa using hae
        obtain ⟨hYX, hNN⟩ := CE.out hae
        subst hYX hNN
        clear CE
        obtain ⟨y0, y1⟩ := row2c G.out.v1
        obtain ⟨x0, x1⟩ := row2c G.out.v3
        obtain ⟨s0, s1⟩ := row2c G.out.v5
        obtain ⟨a0, a1, a2, a3, a4, a5⟩ := row6 G.out.v2
        obtain ⟨b0, b1, b2, b3, b4, b5⟩ := row6 G.out.v0
        go_wp2_with fail
        refine (CQ.out _ _ _ MX.out.holds MY.out).mono ?_
        rintro e w7 ⟨rfl, hb⟩
        have G := Lib.hid (G.out.still hb)
        have MX := Lib.hid (MX.out.still hb)
        have MY := Lib.hid (MY.out.still hb)
        have KS := Lib.hid (KS.out.still hb)
        clear hb
        clear y0 y1 x0 x1 s0 s1 a0 a1 a2 a3 a4 a5 b0 b1 b2 b3 b4 b5
        obtain ⟨y0, y1⟩ := row2c G.out.v1
        obtain ⟨x0, x1⟩ := row2c G.out.v3
        obtain ⟨s0, s1⟩ := row2c G.out.v5
        obtain ⟨a0, a1, a2, a3, a4, a5⟩ := row6 G.out.v2
        obtain ⟨b0, b1, b2, b3, b4, b5⟩ := row6 G.out.v0
        go_wp2_with fail
        refine (CR.out _ _ MX.out.holds).mono ?_
        rintro e w8 ⟨rfl, hb⟩
        have G := Lib.hid (G.out.still hb)
        have MX := Lib.hid (MX.out.still hb)
        have MY := Lib.hid (MY.out.still hb)
        have KS := Lib.hid (KS.out.still hb)
        clear hb
        clear y0 y1 x0 x1 s0 s1 a0 a1 a2 a3 a4 a5 b0 b1 b2 b3 b4 b5
        obtain ⟨y0, y1⟩ := row2c G.out.v1
        obtain ⟨x0, x1⟩ := row2c G.out.v3
        obtain ⟨s0, s1⟩ := row2c G.out.v5
        obtain ⟨a0, a1, a2, a3, a4, a5⟩ := row6 G.out.v2
        obtain ⟨b0, b1, b2, b3, b4, b5⟩ := row6 G.out.v0
        go_wp2_with fail
        refine (CS.out _ _ _ MX.out.holds KS.out.holds).mono ?_
        rintro e w9 ⟨rfl, hb⟩
        have G := Lib.hid (G.out.still hb)
        have MX := Lib.hid (MX.out.still hb)
        have MY := Lib.hid (MY.out.still hb)
        have KS := Lib.hid (KS.out.still hb)
        clear hb
        clear y0 y1 x0 x1 s0 s1 a0 a1 a2 a3 a4 a5 b0 b1 b2 b3 b4 b5
        obtain ⟨y0, y1⟩ := row2c G.out.v1
        obtain ⟨x0, x1⟩ := row2c G.out.v3
        obtain ⟨s0, s1⟩ := row2c G.out.v5
        obtain ⟨a0, a1, a2, a3, a4, a5⟩ := row6 G.out.v2
        obtain ⟨b0, b1, b2, b3, b4, b5⟩ := row6 G.out.v0
        obtain ⟨f0, f1⟩ := row2f G.out.v5
        obtain ⟨r0, r1⟩ := row2c G.out.v4
        obtain ⟨g0, g1⟩ := row2f G.out.v4
        have hne1 : qs ≠ qs + 1 := by omega
        have hne2 : qs + 1 ≠ qs := by omega
        have ny1 : qy ≠ qs := (fun h => by have := LY0.out; omega)
        have ny2 : qs ≠ qy := Ne.symm ny1
        go_upto_region 7 with (fail)
        obtain ⟨GL, ML, KL⟩ := lay_sr G.out MX.out MY.out HY.out (by decide) (by decide) hne1 LQ.out (by have := LQ.out; omega) (.slice Ax Y.length cx) (.int .i64 N1) (.slice Ay Y.length cy) (.int .i64 N1) rfl rfl
        have GE : Hid (Bag w (setTwo (setTwo w9 qs (.slice Ax Y.length cx) (.int .i64 N1)) (qs + 1) (.slice Ay Y.length cy) (.int .i64 N1)) [(qs + 1, 43, #[.slice Ay Y.length cy, .int .i64 N1]), (qs, 26, #[.slice Ax Y.length cx, .int .i64 N1])] ∧ Mine w.heap.size (setTwo (setTwo w9 qs (.slice Ax Y.length cx) (.int .i64 N1)) (qs + 1) (.slice Ay Y.length cy) (.int .i64 N1)) (.slice Ax Y.length cx) Y ∧ Holds (setTwo (setTwo w9 qs (.slice Ax Y.length cx) (.int .i64 N1)) (qs + 1) (.slice Ay Y.length cy) (.int .i64 N1)) (.slice Ay Y.length cy) Y) := Lib.hid ⟨GL, ML, KL⟩
        unfold setTwo at GE
        clear GL ML KL G MX MY HY y0 y1 x0 x1 s0 s1 a0 a1 a2 a3 a4 a5 b0 b1 b2 b3 b4 b5 f0 f1 r0 r1 g0 g1 hne1 hne2 ny1 ny2
        generalize World.setCell _ _ _ = wz at *
        go_wp2_with fail
        go_roundg (n - (k + 1))
        case measure => omega
        case rel => exact ⟨k + 1, _, _, by omega, by omega, by go_num, by rw [HYY.out]; exact Lib.hid GE.out.1, by rw [HYY.out]; exact Lib.hid GE.out.2.1, by rw [HYY.out]; exact Lib.hid GE.out.2.2⟩
    · obtain rfl : k = n := by omega
      have hz1 : ¬ (k : Int) < (k : Int) := by omega
      obtain ⟨s0, s1⟩ := row2c G.out.v1
      clear KR HB HA
      go_wp2_with fail
      refine (CP.out _ G.out.bel).mono ?_
      rintro e w7 ⟨vz, q1, rfl, hq1, hW, hm, hb⟩
      obtain ⟨Az, cz, rfl⟩ := hm.is
      have BN := Lib.hid (below_new w7 (.cells #[.slice Az (plS l k).l.length cz, .int .i64 (plS l k).n] 26))
      have G := Lib.hid ((G.out.still hb).add 26 #[.slice Az (plS l k).l.length cz, .int .i64 (plS l k).n])
      have KZ := Lib.hid (hm.still BN.out)
      have KS := Lib.hid ((KS.out.still hb).still BN.out)
      clear hm hb hW hq1 BN CP s0 s1
      obtain ⟨s0, s1⟩ := row2c G.out.v2
      obtain ⟨z0, z1⟩ := row2c G.out.v0
      go_wp2_with fail
      refine (CSn.out _ _ _ KZ.out.holds KS.out.holds).mono ?_
      rintro e w8 ⟨rfl, hb⟩
      have G := Lib.hid (G.out.still hb)
      clear hb
      go_wp2_with fail
      go_ret
      exact ⟨rfl, G.out.bel⟩
theorem plays_any (l : List Cl) (A : Option Addr) (cc : Nat) (w : World) (hA : CallsAt w A l) (hB : ∀ k, k < l.length → i64 (nthC l k).f ∧ i64 (nthC l k).o) :
    Calls Tryz.prog 4 #[.slice A l.length cc] w fun e w' => e = .returned (.bool true) ∧ Below w.heap.size w w' := by
  by_cases hl : l.length ≤ 60
  · exact plays_few l A cc w hl hA hB
  · exact plays_many A l.length cc w (by omega)
end Go.Proofs.YtholpgcghpikgaaGreat
