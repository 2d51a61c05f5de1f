/-
  Texts of our own, one behind the other (RmOne): what the laws' proofs rest on; each says at its head what it holds. No conditions.
-/
import Derived.Test.YtholpgcghpikgaaGreatPkQe
import Derived.Test.YtholpgcghpikgaaGreatPkQa
import Derived.Test.YtholpgcghpikgaaGreatPkT0
import Derived.Test.YtholpgcghpikgaaGreatPkB
import Derived.Deep.LoopGhost
import Derived.BigQuiet
/-
  Layer 12: the reference: which area has a range, and a move: a contract for each call.
-/
namespace Go.Proofs.YtholpgcghpikgaaGreat
open Go.ChangeShapes Go.WideShapes Go.ChangeAt Go.RowKit Go.Shelf
set_option linter.unusedVariables false
attribute [local go_sem ↓] Go.wp_at_zero Go.wp_at_succ

/-- Whether the area that has the first address has all up to another one. -/
def whB (X : List Ar) (lo hi : Int) : Bool := match fnO X lo with | some a => decide (hi ≤ a.e) | none => false
section
variable {w : World} {v : Value} {X : List Ar}
set_option maxRecDepth 4000 in
set_option maxHeartbeats 4000000 in
theorem one_c (h : Holds w v X) (hX : RightL X) (lo hi : Int) : Calls Tryz.prog 66 #[v, .int .i64 lo, .int .i64 hi] w fun e w' => e = .returned (.tuple #[.int .i64 (fnA X lo).e, .bool (whB X lo hi)]) ∧ Below w.heap.size w w' := by
  have HF : Hid (∀ (k : Nat) (hk : k < X.length), X[k].s ≤ lo → lo < X[k].e → (fnA X lo).e = X[k].e ∧ whB X lo hi = decide (hi ≤ X[k].e)) := Lib.hid (fun k hk h1 h2 => by
    have hf := fn_is hX (List.getElem_mem hk) h1 h2
    unfold fnA whB
    rw [hf]
    exact ⟨rfl, rfl⟩)
  have HN : Hid ((∀ (k : Nat) (hk : k < X.length), ¬ (X[k].s ≤ lo ∧ lo < X[k].e)) → (fnA X lo).e = 0 ∧ whB X lo hi = false) := Lib.hid (fun hn => by
    have hf : fnO X lo = none := by
      cases ho : fnO X lo with
      | none => rfl
      | some a =>
        unfold fnO at ho
        rw [if_pos hX] at ho
        obtain ⟨ha, hh⟩ := find_is ho
        obtain ⟨k, hk, rfl⟩ := List.getElem_of_mem ha
        exact absurd ⟨hh.lo, hh.hi⟩ (hn k hk)
    unfold fnA whB
    rw [hf]
    exact ⟨rfl, rfl⟩)
  generalize (fnA X lo).e = E at *
  generalize whB X lo hi = B at *
  have hXl := right_len hX
  obtain ⟨A, cc, rfl, hc, hA⟩ := h
  have HA : Hid (∀ k (hk : k < X.length), ∃ b off, A = some ⟨b, off, none⟩ ∧ AreaAt w b (off + k * 6) X[k]) := Lib.hid (fun k hk => by
    rcases hA with hnl | ⟨b, off, rfl, hb, hcs⟩
    · rw [hnl] at hk; simp at hk
    · exact ⟨b, off, rfl, hcs k hk⟩)
  obtain ⟨m, hm⟩ : ∃ m : Nat, X.length = m := ⟨_, rfl⟩
  have HM := Lib.hid hm
  rw [hm] at hXl ⊢
  clear hm hA hc hX
  go_enter Tryz.func66, Tryz.ntmps66
  go_wp2_with fail
  go_loopg [8] m (fun g s8 wr => ∃ j : Nat, j ≤ m ∧ m - j ≤ g ∧ s8 = .int .i64 j ∧ wr = w ∧ Hid (∀ (k : Nat) (hk : k < X.length), k < j → ¬ (X[k].s ≤ lo ∧ lo < X[k].e)))
  case atStart => exact ⟨0, by omega, by omega, by rfl, rfl, Lib.hid (fun k hk h => by omega)⟩
  case round =>
    obtain ⟨j, hj, hg, rfl, rfl, HJ⟩ := hrel
    by_cases hlt : j < m
    · have hz6 : (j : Int) < (m : Int) := by omega
      have hz7 : (0 : Int) ≤ (j : Int) := by omega
      have hjX : j < X.length := by rw [HM.out]; exact hlt
      obtain ⟨b, off, rfl, c0, c1, c2, c3, c4, c5⟩ := HA.out j hjX
      have HFj := Lib.hid (HF.out j hjX)
      have HJ2 : Hid (¬ (X[j].s ≤ lo ∧ lo < X[j].e) → ∀ (k : Nat) (hk : k < X.length), k < j + 1 → ¬ (X[k].s ≤ lo ∧ lo < X[k].e)) := Lib.hid (fun h k hk hkl => by
        rcases Nat.lt_or_ge k j with h1 | h1
        · exact HJ.out k hk h1
        · obtain rfl : k = j := by omega
          exact h)
      generalize X[j] = y at *
      obtain ⟨s1, e1, q1, sh1, b1, o1⟩ := y
      simp only at c0 c1 c2 c3 c4 c5 HJ2 HFj
      clear c2 c3 c4 c5
      by_cases t1 : s1 ≤ lo
      · by_cases t2 : lo < e1
        · obtain ⟨rfl, rfl⟩ := HFj.out t1 t2
          clear HF HN HFj HJ2 HJ HA
          go_upto_region 5 with (fail)
          go_quiet (fail)
          go_wp2_with fail
          go_ret2
          exact ⟨rfl, below_drewN (Below.refl _ _) _⟩
        · go_wp2_with fail
          go_roundg (m - (j + 1))
          case measure => omega
          case rel => exact ⟨j + 1, by omega, by omega, by go_num, rfl, Lib.hid (HJ2.out (fun k => by omega))⟩
      · go_wp2_with fail
        go_roundg (m - (j + 1))
        case measure => omega
        case rel => exact ⟨j + 1, by omega, by omega, by go_num, rfl, Lib.hid (HJ2.out (fun k => by omega))⟩
    · obtain rfl : j = m := by omega
      obtain ⟨rfl, rfl⟩ := HN.out (fun k hk => HJ.out k hk (by rw [HM.out] at hk; exact hk))
      clear HF HN HJ HA
      go_wp2_with fail
      go_ret2
      exact ⟨rfl, Below.refl _ _⟩

set_option maxRecDepth 100000 in
set_option maxHeartbeats 8000000 in
theorem rmoved_true (h : Holds w v X) (hX : RightL X) {m0 m1 : Nat} (hm : m0 ≤ m1) (hm1 : m1 ≤ 512) (hm2 : m0 < 512) {b : Ar} (hb : Formed b) (hs : spK X X.length m0 = some ⟨b.p, b.sh, b.bk, b.off⟩) {z : Int} (hz : b.s + z = b.e) {Y Z : List Ar} {ae ax : Int}
    (hg : GoodS (withS (spK X X.length) b)) (hY : listTo (withS (spK X X.length) b) 512 = Y) (hZ : (24 < Y.length ∧ Z = X ∧ ae = 9 ∧ ax = 0) ∨ (Y.length ≤ 24 ∧ Z = Y ∧ ae = 0 ∧ ax = b.s)) :
    Calls Tryz.prog 67 #[v, .int .i64 (4096 * (m0 : Int)), .int .i64 (4096 * (m1 : Int)), .int .i64 b.s, .int .i64 z, .bool true] w (GivesK w v X Z ae ax) := by
  have G := Lib.hid ((Bag.new w).add 34 (ansC 0 0))
  have KX := Lib.hid (h.still G.out.bel)
  have HA := Lib.hid h
  have nb := formed_num hb
  have CO : Hid (∀ w' u, Holds w' u X → Calls Tryz.prog 63 #[u] w' fun e w'' => e = .returned (.agg (spl (spK X X.length) 512).toArray) ∧ Below w'.heap.size w' w'') := Lib.hid (fun w' u h => by
    obtain ⟨A, c, rfl, hc, hA⟩ := h
    exact ofL_any X hX A c w' hA)
  have CT : Hid (∀ w', Calls Tryz.prog 62 #[.agg (spl (spK X X.length) 512).toArray, .int .i64 b.s, .int .i64 b.e, .agg #[.int .i64 b.p, .bool b.sh, .int .i64 b.bk, .int .i64 b.off]] w' fun e w'' => e = .returned (.agg (spc (withS (spK X X.length) b))) ∧ Below w'.heap.size w' w'') := Lib.hid (fun w' => with_any _ b hb w')
  have CK : Hid (∀ w' u, Holds w' u X → Calls Tryz.prog 61 #[u, .agg (spc (withS (spK X X.length) b)), .int .i64 b.s] w' fun e w'' => ∃ v', e = .returned (.tuple #[v', .agg #[.int .i64 ae, .int .i64 ax, .int .i64 0, .bool false, .int .i64 0, .int .i64 0]]) ∧ ((v' = u ∧ Z = X) ∨ Mine w'.heap.size w'' v' Z) ∧ Below w'.heap.size w' w'') := Lib.hid (fun w' u h => refKept_c h _ hg hY _ hZ)
  have q0 : (4096 * (m0 : Int)).tdiv 4096 = (m0 : Int) := by rw [tdiv_up (by omega)]; omega
  have q1 : (4096 * (m0 : Int)) / 4096 = (m0 : Int) := by omega
  have zs : (0 : Int) ≤ 4096 * (m0 : Int) := by omega
  have hz0 : (0 : Int) ≤ (m0 : Int) := by omega
  have hz1 : (m0 : Int) < 512 := by omega
  have hw : IntKind.i64.wrap (b.s + z) = b.e := by rw [hz, IntKind.wrap_i64]; omega
  have HS := Lib.hid hs
  generalize 4096 * (m0 : Int) = lo at *
  generalize 4096 * (m1 : Int) = hi at *
  generalize spc (withS (spK X X.length) b) = s3 at *
  generalize spK X X.length = s at *
  obtain ⟨bs, be, bp, bsh, bbk, boff⟩ := b
  simp only at *
  obtain ⟨nb1, nb2, nb3, _⟩ := nb
  obtain ⟨A, cc, rfl⟩ := h.is
  clear h hX hb hs hg hY hZ
  generalize hn : X.length = n at *
  clear hn
  go_enter Tryz.func67, Tryz.ntmps67
  go_wp2_with fail
  refine (CO.out _ _ KX.out).mono ?_
  rintro e w1 ⟨rfl, hb⟩
  have G := Lib.hid (G.out.still hb)
  have KX := Lib.hid (KX.out.still hb)
  clear hb CO
  have HC := Lib.hid (ChAt.new (Below.refl w1.heap.size w1) s)
  have TH : Hid ((w1.alloc (.cells Tryz.zeroCells97 97)).there w1.heap.size 0 (spl s 512).toArray.size) := Lib.hid (SpIn.there (s := fun _ => none) (by rw [zero_spc]; exact Whole.new _ _ _))
  have KX := Lib.hid (KX.out.still HC.out.bel)
  have HQ : Hid (w.heap.size ≤ w1.heap.size ∧ w1.heap.size ≠ w.heap.size) := Lib.hid (by have := (G.out.v0).lt; omega)
  have G := Lib.hid ((G.out.still HC.out.bel).join HC.out.s)
  clear HC
  go_upto_region 2 with (refine wpList_store_mid rfl 97 (.tmp 14) (.tmp 17) (by rfl) w1.heap.size 0 (spl s 512).toArray (by rfl) (by rfl) TH.out (space_size' _) (spl_one _ _) ?_)
  generalize w1.heap.size = q at *
  clear TH
  generalize World.setCells _ _ _ _ = W1 at *
  obtain ⟨e0, e1, e2, e3, e4⟩ := SpIn.some (G.out.v0) (p := m0) (by omega) HS.out
  simp only at e1 e2 e3 e4
  clear HS
  have BN := Lib.hid (below_new W1 (.cells #[.int .i64 bp, .bool bsh, .int .i64 bbk, .int .i64 boff] 32))
  have G := Lib.hid (G.out.add 32 #[.int .i64 bp, .bool bsh, .int .i64 bbk, .int .i64 boff])
  have KX := Lib.hid (KX.out.still BN.out)
  clear BN
  go_upto_region 3 with (fail)
  generalize hw2 : World.alloc W1 _ = W2 at *
  clear hw2 e0 e1 e2 e3 e4
  generalize W1.heap.size = qa at *
  have HQA : Hid (qa ≠ q) := Lib.hid (G.out.v0.apart G.out.v1 (by decide))
  obtain ⟨d0, d1, d2, d3⟩ := row4 (G.out.v0)
  go_wp2_with (refine wpList_load_mid rfl 97 (.tmp 14) (by rfl) q 0 (by rfl) (spl s 512) _ (SpIn.range (G.out.v1)) Tryz.underlying97 rfl (space_size _) ?_)
  refine (CT.out _).mono ?_
  rintro e w5 ⟨rfl, hb⟩
  have G := Lib.hid (G.out.still hb)
  have KX := Lib.hid (KX.out.still hb)
  clear hb CT d0 d1 d2 d3
  go_wp2_with fail
  refine (CK.out _ _ KX.out).mono ?_
  rintro e w6 ⟨v6, rfl, hh, hb⟩
  have SZ := Lib.hid G.out.bel.size
  have G := Lib.hid (G.out.still hb)
  clear hb CK KX
  obtain ⟨⟨c0, c1, c2, c3, c4, c5⟩, ⟨f0, f1, f2, f3, f4, f5⟩⟩ := six_of (G.out.v2)
  have HH := Lib.hid hh
  clear hh
  go_wp2_with fail
  refine bodyPost_ret (results_tmp_row rfl _ _ w.heap.size 34 (ansC ae ax) (0, 0) _ rfl (six_put (G.out.v2) _ _ _ _ _ _) Tryz.underlying34 rfl (by kernel_rfl)) rfl ?_
  have HB := G.out.bel.trans ((six_only w6 w.heap.size (.int .i64 ae) (.int .i64 ax) (.int .i64 0) (.bool false) (.int .i64 0) (.int .i64 0)).below (fun k hk => by omega) G.out.bel.size)
  refine ⟨v6, rfl, ?_, HB⟩
  rcases HH.out with ⟨rfl, rfl⟩ | hm
  · exact .inl ⟨rfl, rfl⟩
  · exact .inr (mine_far (hm.base SZ.out) (G.out.v2) _ _ _ _ _ _)

set_option maxRecDepth 100000 in
set_option maxHeartbeats 8000000 in
theorem rmoved_false (h : Holds w v X) (hX : RightL X) {m0 m1 : Nat} (hm : m0 ≤ m1) (hm1 : m1 ≤ 512) (hm2 : m0 < 512) {b : Ar} (hb : Formed b) (hs : spK X X.length m0 = some ⟨b.p, b.sh, b.bk, b.off⟩) {z : Int} (hz : b.s + z = b.e) {Y Z : List Ar} {ae ax : Int}
    (hg : GoodS (withS (cutTo (spK X X.length) m0 m1) b)) (hY : listTo (withS (cutTo (spK X X.length) m0 m1) b) 512 = Y) (hZ : (24 < Y.length ∧ Z = X ∧ ae = 9 ∧ ax = 0) ∨ (Y.length ≤ 24 ∧ Z = Y ∧ ae = 0 ∧ ax = b.s)) :
    Calls Tryz.prog 67 #[v, .int .i64 (4096 * (m0 : Int)), .int .i64 (4096 * (m1 : Int)), .int .i64 b.s, .int .i64 z, .bool false] w (GivesK w v X Z ae ax) := by
  have G := Lib.hid ((Bag.new w).add 34 (ansC 0 0))
  have KX := Lib.hid (h.still G.out.bel)
  have HA := Lib.hid h
  have nb := formed_num hb
  have CO : Hid (∀ w' u, Holds w' u X → Calls Tryz.prog 63 #[u] w' fun e w'' => e = .returned (.agg (spl (spK X X.length) 512).toArray) ∧ Below w'.heap.size w' w'') := Lib.hid (fun w' u h => by
    obtain ⟨A, c, rfl, hc, hA⟩ := h
    exact ofL_any X hX A c w' hA)
  have CW : Hid (∀ w', Calls Tryz.prog 65 #[.agg (spl (spK X X.length) 512).toArray, .int .i64 (4096 * (m0 : Int)), .int .i64 (4096 * (m1 : Int))] w' fun e w'' => e = .returned (.agg (spl (cutTo (spK X X.length) m0 m1) 512).toArray) ∧ Below w'.heap.size w' w'') := Lib.hid (fun w' => without_any _ m0 m1 hm hm1 w')
  have CT : Hid (∀ w', Calls Tryz.prog 62 #[.agg (spl (cutTo (spK X X.length) m0 m1) 512).toArray, .int .i64 b.s, .int .i64 b.e, .agg #[.int .i64 b.p, .bool b.sh, .int .i64 b.bk, .int .i64 b.off]] w' fun e w'' => e = .returned (.agg (spc (withS (cutTo (spK X X.length) m0 m1) b))) ∧ Below w'.heap.size w' w'') := Lib.hid (fun w' => with_any _ b hb w')
  have CK : Hid (∀ w' u, Holds w' u X → Calls Tryz.prog 61 #[u, .agg (spc (withS (cutTo (spK X X.length) m0 m1) b)), .int .i64 b.s] w' fun e w'' => ∃ v', e = .returned (.tuple #[v', .agg #[.int .i64 ae, .int .i64 ax, .int .i64 0, .bool false, .int .i64 0, .int .i64 0]]) ∧ ((v' = u ∧ Z = X) ∨ Mine w'.heap.size w'' v' Z) ∧ Below w'.heap.size w' w'') := Lib.hid (fun w' u h => refKept_c h _ hg hY _ hZ)
  have q0 : (4096 * (m0 : Int)).tdiv 4096 = (m0 : Int) := by rw [tdiv_up (by omega)]; omega
  have q1 : (4096 * (m0 : Int)) / 4096 = (m0 : Int) := by omega
  have zs : (0 : Int) ≤ 4096 * (m0 : Int) := by omega
  have hz0 : (0 : Int) ≤ (m0 : Int) := by omega
  have hz1 : (m0 : Int) < 512 := by omega
  have hw : IntKind.i64.wrap (b.s + z) = b.e := by rw [hz, IntKind.wrap_i64]; omega
  have HS := Lib.hid hs
  generalize 4096 * (m0 : Int) = lo at *
  generalize 4096 * (m1 : Int) = hi at *
  generalize spc (withS (cutTo (spK X X.length) m0 m1) b) = s3 at *
  generalize cutTo (spK X X.length) m0 m1 = s2 at *
  generalize spK X X.length = s at *
  obtain ⟨bs, be, bp, bsh, bbk, boff⟩ := b
  simp only at *
  obtain ⟨nb1, nb2, nb3, _⟩ := nb
  obtain ⟨A, cc, rfl⟩ := h.is
  clear h hX hb hs hg hY hZ
  generalize hn : X.length = n at *
  clear hn
  go_enter Tryz.func67, Tryz.ntmps67
  go_wp2_with fail
  refine (CO.out _ _ KX.out).mono ?_
  rintro e w1 ⟨rfl, hb⟩
  have G := Lib.hid (G.out.still hb)
  have KX := Lib.hid (KX.out.still hb)
  clear hb CO
  have HC := Lib.hid (ChAt.new (Below.refl w1.heap.size w1) s)
  have TH : Hid ((w1.alloc (.cells Tryz.zeroCells97 97)).there w1.heap.size 0 (spl s 512).toArray.size) := Lib.hid (SpIn.there (s := fun _ => none) (by rw [zero_spc]; exact Whole.new _ _ _))
  have KX := Lib.hid (KX.out.still HC.out.bel)
  have HQ : Hid (w.heap.size ≤ w1.heap.size ∧ w1.heap.size ≠ w.heap.size) := Lib.hid (by have := (G.out.v0).lt; omega)
  have G := Lib.hid ((G.out.still HC.out.bel).join HC.out.s)
  clear HC
  go_upto_region 2 with (refine wpList_store_mid rfl 97 (.tmp 14) (.tmp 17) (by rfl) w1.heap.size 0 (spl s 512).toArray (by rfl) (by rfl) TH.out (space_size' _) (spl_one _ _) ?_)
  generalize w1.heap.size = q at *
  clear TH
  generalize World.setCells _ _ _ _ = W1 at *
  obtain ⟨e0, e1, e2, e3, e4⟩ := SpIn.some (G.out.v0) (p := m0) (by omega) HS.out
  simp only at e1 e2 e3 e4
  clear HS
  have BN := Lib.hid (below_new W1 (.cells #[.int .i64 bp, .bool bsh, .int .i64 bbk, .int .i64 boff] 32))
  have G := Lib.hid (G.out.add 32 #[.int .i64 bp, .bool bsh, .int .i64 bbk, .int .i64 boff])
  have KX := Lib.hid (KX.out.still BN.out)
  clear BN
  go_upto_region 3 with (fail)
  generalize hw2 : World.alloc W1 _ = W2 at *
  clear hw2 e0 e1 e2 e3 e4
  generalize W1.heap.size = qa at *
  have HQA : Hid (qa ≠ q) := Lib.hid (G.out.v0.apart G.out.v1 (by decide))
  go_wp2_with (refine wpList_load_mid rfl 97 (.tmp 14) (by rfl) q 0 (by rfl) (spl s 512) _ (SpIn.range (G.out.v1)) Tryz.underlying97 rfl (space_size _) ?_)
  refine (CW.out _).mono ?_
  rintro e w3 ⟨rfl, hb⟩
  have G := Lib.hid (G.out.still hb)
  have KX := Lib.hid (KX.out.still hb)
  clear hb CW
  have TH : Hid (w3.there q 0 (spl s2 512).toArray.size) := Lib.hid (SpIn.there (G.out.v1))
  have HS2 : Hid (SpIn (w3.setCells q 0 (spl s2 512)) q s2) := Lib.hid (SpIn.all (G.out.v1))
  have ho := only_many (q := q) (spl s2 512) 0 w3
  have HKX : Hid (Holds (w3.setCells q 0 (spl s2 512)) (.slice A n cc) X) := Lib.hid (HA.out.still (G.out.bel.trans (ho.below (fun k hk => by have := HQ.out; omega) G.out.bel.size)))
  have G : Hid (Bag w (w3.setCells q 0 (spl s2 512)) [(qa, 32, #[.int .i64 bp, .bool bsh, .int .i64 bbk, .int .i64 boff]), (q, 97, spc s2), (w.heap.size, 34, ansC 0 0)]) := Lib.hid (by
    have h1 := G.out.v0.only ho HQA.out
    have h3 := G.out.v2.only ho (fun e => HQ.out.2 e.symm)
    refine ⟨fun x hx => ?_, G.out.bel.trans (ho.below (fun k hk => by have := HQ.out; omega) G.out.bel.size)⟩
    simp only [List.mem_cons, List.not_mem_nil, or_false] at hx
    rcases hx with rfl | rfl | rfl
    · exact h1
    · exact HS2.out
    · exact h3)
  clear ho KX HS2
  have KX := HKX
  clear HKX
  go_upto_region 5 with (refine wpList_store_mid rfl 97 (.tmp 14) (.tmp 28) (by rfl) q 0 (spl s2 512).toArray (by rfl) (by rfl) TH.out (space_size' _) (spl_one _ _) ?_)
  clear TH
  generalize World.setCells _ _ _ _ = W3 at *
  obtain ⟨d0, d1, d2, d3⟩ := row4 (G.out.v0)
  go_wp2_with (refine wpList_load_mid rfl 97 (.tmp 14) (by rfl) q 0 (by rfl) (spl s2 512) _ (SpIn.range (G.out.v1)) Tryz.underlying97 rfl (space_size _) ?_)
  refine (CT.out _).mono ?_
  rintro e w5 ⟨rfl, hb⟩
  have G := Lib.hid (G.out.still hb)
  have KX := Lib.hid (KX.out.still hb)
  clear hb CT d0 d1 d2 d3
  go_wp2_with fail
  refine (CK.out _ _ KX.out).mono ?_
  rintro e w6 ⟨v6, rfl, hh, hb⟩
  have SZ := Lib.hid G.out.bel.size
  have G := Lib.hid (G.out.still hb)
  clear hb CK KX
  obtain ⟨⟨c0, c1, c2, c3, c4, c5⟩, ⟨f0, f1, f2, f3, f4, f5⟩⟩ := six_of (G.out.v2)
  have HH := Lib.hid hh
  clear hh
  go_wp2_with fail
  refine bodyPost_ret (results_tmp_row rfl _ _ w.heap.size 34 (ansC ae ax) (0, 0) _ rfl (six_put (G.out.v2) _ _ _ _ _ _) Tryz.underlying34 rfl (by kernel_rfl)) rfl ?_
  have HB := G.out.bel.trans ((six_only w6 w.heap.size (.int .i64 ae) (.int .i64 ax) (.int .i64 0) (.bool false) (.int .i64 0) (.int .i64 0)).below (fun k hk => by omega) G.out.bel.size)
  refine ⟨v6, rfl, ?_, HB⟩
  rcases HH.out with ⟨rfl, rfl⟩ | hm
  · exact .inl ⟨rfl, rfl⟩
  · exact .inr (mine_far (hm.base SZ.out) (G.out.v2) _ _ _ _ _ _)

end
end Go.Proofs.YtholpgcghpikgaaGreat
