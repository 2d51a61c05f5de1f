/-
  Texts of our own, one behind the other (BdPack): what the laws' proofs rest on; each says at its head what it holds. No conditions.
-/
import Derived.Test.YtejkhnphplpkeaaPkWf
/-
  Layer 18: the reference's words of a node, in a row of their own.
-/
namespace Go.Proofs.Ytejkhnphplpkeaa
open Go.ChangeShapes Go.WideShapes Go.ChangeAt Go.RowKit
set_option linter.unusedVariables false

set_option maxRecDepth 4000 in
set_option maxHeartbeats 8000000 in
theorem refPackQ_c {n : Nd} {w : World} {e s g : Value} (h : NdIn w n e s g) (hc : n.Counted) : Calls Try.prog 28 #[n.val e s g] w fun e w' => ∃ q, e = .returned (.slice (some ⟨q, 0, none⟩) 28 28) ∧ Whole w' q 2 (nums (packN n)) ∧ w.heap.size ≤ q ∧ Below w.heap.size w w' := by
  have G := Lib.hid ((Bag.new w).add 34 (n.cells e s g))
  have h8 := hc.few
  have h1 := hc.one
  have hsl := hc.sl
  have hgl := hc.gl
  obtain ⟨A, c, rfl, hcc, hA⟩ := h.we
  obtain ⟨A', c', rfl, hcc', hA'⟩ := h.ws
  obtain ⟨A'', c'', rfl, hcc'', hA''⟩ := h.wg
  obtain ⟨b, off, rfl, ca⟩ := hA (by omega)
  obtain ⟨b', off', rfl, ca'⟩ := hA' (by omega)
  obtain ⟨b'', off'', rfl, ca''⟩ := hA'' (by omega)
  rw [hsl] at ca' hcc'
  rw [hgl] at ca'' hcc''
  have CA : Hid (∀ W, Below w.heap.size w W → ∀ k, k < n.ends.length → W.cell? ⟨b, off + k, none⟩ = some (.int .i64 (nth n.ends k)) ∧ W.cell? ⟨b', off' + k, none⟩ = some (.int .i64 (nth n.slots k)) ∧ W.cell? ⟨b'', off'' + k, none⟩ = some (.int .i64 (nth n.gaps k))) := Lib.hid (fun W hb k hk => by
    have e1 := ca k hk
    have e2 := ca' k hk
    have e3 := ca'' k hk
    refine ⟨?_, ?_, ?_⟩
    · rw [hb.cell (p := ⟨b, off + k, none⟩) (World.block_lt_of_cell? w _ e1)]; exact e1
    · rw [hb.cell (p := ⟨b', off' + k, none⟩) (World.block_lt_of_cell? w _ e2)]; exact e2
    · rw [hb.cell (p := ⟨b'', off'' + k, none⟩) (World.block_lt_of_cell? w _ e3)]; exact e3)
  have LT : Hid (b < w.heap.size ∧ b' < w.heap.size ∧ b'' < w.heap.size) := Lib.hid ⟨World.block_lt_of_cell? w _ (ca 0 (by omega)), World.block_lt_of_cell? w _ (ca' 0 (by omega)), World.block_lt_of_cell? w _ (ca'' 0 (by omega))⟩
  have HE := Lib.hid (refL_end hc)
  have HS := Lib.hid (fun k hk => refL_step n k hk)
  have HZ := Lib.hid (refL_zero n)
  have HPL := Lib.hid (pack_len hc)
  have HL := Lib.hid (refL_len n)
  have HF : Hid (n.first = (if n.inner then 2 else 1) + 16 * (n.ends.length : Int)) := Lib.hid rfl
  rw [hsl, hgl] at *
  clear hc ca ca' ca'' hA hA' hA'' h hsl hgl
  generalize hpk : packN n = pk at *
  clear hpk
  unfold Nd.val Nd.cells at *
  generalize refL n = RL at *
  generalize n.first = f at *
  obtain ⟨inner, lo, ends, slots, gaps⟩ := n
  simp only at *
  generalize ends.length = K at *
  have mk := make28
  go_enter Try.func28, Try.ntmps28
  go_upto_region 2 with (fail)
  have G := Lib.hid (G.out.add 2 (nums nul28))
  rw [World.size_alloc] at G
  have HR0 : Hid (Row3 w ((w.alloc (.cells #[.bool inner, .int .i64 lo, .slice (some ⟨b, off, none⟩) K c, .slice (some ⟨b', off', none⟩) K c', .slice (some ⟨b'', off'', none⟩) K c''] 34)).alloc (.cells (nums nul28) 2)) (w.heap.size + 1) w.heap.size 34 nul28 #[.bool inner, .int .i64 lo, .slice (some ⟨b, off, none⟩) K c, .slice (some ⟨b', off', none⟩) K c', .slice (some ⟨b'', off'', none⟩) K c'']) := Lib.hid ⟨G.out.v0, G.out.v1, G.out.bel⟩
  have GB := Lib.hid G.out.bel
  have hbq : b < w.heap.size ∧ b' < w.heap.size ∧ b'' < w.heap.size := LT.out
  generalize (w.alloc (.cells #[.bool inner, .int .i64 lo, .slice (some ⟨b, off, none⟩) K c, .slice (some ⟨b', off', none⟩) K c', .slice (some ⟨b'', off'', none⟩) K c''] 34)).alloc (.cells (nums nul28) 2) = wA at *
  clear mk
  have hqw : w.heap.size ≤ w.heap.size + 1 := by omega
  have hq2 : w.heap.size ≠ w.heap.size + 1 := by omega
  generalize hq1 : w.heap.size + 1 = q1 at *
  obtain ⟨d0, d1, d2, d3, d4⟩ := row5 G.out.v1
  have z0 : wA.cell? ⟨q1, 0, none⟩ = some (.int .i64 0) := G.out.v0.cell 0
  have z1 : wA.cell? ⟨q1, 1, none⟩ = some (.int .i64 0) := G.out.v0.cell 1
  have f0 := G.out.v0.frozen 0
  have f1 := G.out.v0.frozen 1
  have hw1 : IntKind.i64.wrap (16 * (K : Int)) = 16 * (K : Int) := by rw [IntKind.wrap_i64]; omega
  have hw2 : IntKind.i64.wrap (1 + 16 * (K : Int)) = 1 + 16 * (K : Int) := by rw [IntKind.wrap_i64]; omega
  have hw3 : IntKind.i64.wrap (1 + 16 * (K : Int) + 1) = 1 + 16 * (K : Int) + 1 := by rw [IntKind.wrap_i64]; omega
  have hq3 : ¬ q1 = w.heap.size := fun h => hq2 h.symm
  have b0 : ¬ b = q1 := by omega
  have b1 : ¬ b' = q1 := by omega
  have b2 : ¬ b'' = q1 := by omega
  have b3 : ¬ q1 = b := by omega
  have b4 : ¬ q1 = b' := by omega
  have b5 : ¬ q1 = b'' := by omega
  clear hbq hq1 LT
  cases inner with
  | true =>
    go_upto_region 6 with (fail)
    have HR : Hid (Row3 w (((wA.setCell ⟨q1, 0, none⟩ (.int .i64 (1 + 16 * (K : Int)))).setCell ⟨q1, 0, none⟩ (.int .i64 (1 + 16 * (K : Int) + 1))).setCell ⟨q1, 1, none⟩ (.int .i64 lo)) q1 w.heap.size 34 (RL 0) #[.bool true, .int .i64 lo, .slice (some ⟨b, off, none⟩) K c, .slice (some ⟨b', off', none⟩) K c', .slice (some ⟨b'', off'', none⟩) K c'']) := Lib.hid (by
      have := (((HR0.out.put hq2 hqw 0 (1 + 16 * (K : Int))).put hq2 hqw 0 (1 + 16 * (K : Int) + 1)).put hq2 hqw 1 lo)
      have e : 1 + 16 * (K : Int) + 1 = f := by rw [HF.out]; simp; omega
      rw [← HZ.out, ← e, ← List.set_set (l := nul28) (i := 0) (1 + 16 * (K : Int))]
      exact this)
    generalize ((wA.setCell ⟨q1, 0, none⟩ (.int .i64 (1 + 16 * (K : Int)))).setCell ⟨q1, 0, none⟩ (.int .i64 (1 + 16 * (K : Int) + 1))).setCell ⟨q1, 1, none⟩ (.int .i64 lo) = wB at *
    clear HR0 z0 z1 f0 f1 d0 d1 d2 d3 d4 hw1 hw2 hw3 HF HZ G GB
    go_wp2_with fail
    go_loopg [4] K (fun g s4 wr => ∃ k : Nat, k ≤ K ∧ K - k ≤ g ∧ s4 = .int .i64 k ∧ Hid (Row3 w wr q1 w.heap.size 34 (RL k) #[.bool true, .int .i64 lo, .slice (some ⟨b, off, none⟩) K c, .slice (some ⟨b', off', none⟩) K c', .slice (some ⟨b'', off'', none⟩) K c'']))
    case atStart => exact ⟨0, by omega, by omega, rfl, HR⟩
    case round =>
      obtain ⟨k, hk, hg, rfl, HR⟩ := hrel
      obtain ⟨d0, d1, d2, d3, d4⟩ := row5 HR.out.n
      by_cases hlt : k < K
      · have hz1 : (k : Int) < (K : Int) := by omega
        have hz0 : (0 : Int) ≤ (k : Int) := by omega
        obtain ⟨c0, c1, c2⟩ := CA.out _ HR.out.b k hlt
        have r0 := HR.out.at (2 + k) (by rw [HL.out]; omega)
        have r1 := HR.out.at (10 + k) (by rw [HL.out]; omega)
        have r2 := HR.out.at (18 + k) (by rw [HL.out]; omega)
        have f0 := HR.out.r.frozen (2 + k)
        have f1 := HR.out.r.frozen (10 + k)
        have f2 := HR.out.r.frozen (18 + k)
        have w0 : IntKind.i64.wrap (2 + (k : Int)) = 2 + (k : Int) := by rw [IntKind.wrap_i64]; omega
        have w1 : IntKind.i64.wrap (10 + (k : Int)) = 10 + (k : Int) := by rw [IntKind.wrap_i64]; omega
        have w2 : IntKind.i64.wrap (18 + (k : Int)) = 18 + (k : Int) := by rw [IntKind.wrap_i64]; omega
        have t0 : (2 + (k : Int)).toNat = 2 + k := by omega
        have t1 : (10 + (k : Int)).toNat = 10 + k := by omega
        have t2 : (18 + (k : Int)).toNat = 18 + k := by omega
        have i0 : (0 : Int) ≤ 2 + (k : Int) := by omega
        have i1 : (0 : Int) ≤ 10 + (k : Int) := by omega
        have i2 : (0 : Int) ≤ 18 + (k : Int) := by omega
        have j0 : 2 + (k : Int) < 28 := by omega
        have j1 : 10 + (k : Int) < 28 := by omega
        have j2 : 18 + (k : Int) < 28 := by omega
        have n0 : ¬ 10 + k = 2 + k := by omega
        have n1 : ¬ 18 + k = 2 + k := by omega
        have n2 : ¬ 18 + k = 10 + k := by omega
        have HP := Lib.hid (((HR.out.put hq2 hqw (2 + k) (nth ends k)).put hq2 hqw (10 + k) (nth slots k)).put hq2 hqw (18 + k) (nth gaps k))
        rw [HS.out k (by omega)] at HP
        generalize nth ends k = x at *
        generalize nth slots k = h at *
        generalize nth gaps k = y at *
        go_wp2_with fail
        go_roundg (K - (k + 1))
        case measure => omega
        case rel => exact ⟨k + 1, by omega, by omega, by go_num, HP⟩
      · obtain rfl : k = K := by omega
        have HW := Lib.hid HR.out.r
        rw [HE.out] at HW
        go_wp2_with fail
        go_ret
        exact ⟨q1, rfl, HW.out, hqw, HR.out.b⟩
  | false =>
    go_upto_region 6 with (fail)
    have HR : Hid (Row3 w ((wA.setCell ⟨q1, 0, none⟩ (.int .i64 (1 + 16 * (K : Int)))).setCell ⟨q1, 1, none⟩ (.int .i64 lo)) q1 w.heap.size 34 (RL 0) #[.bool false, .int .i64 lo, .slice (some ⟨b, off, none⟩) K c, .slice (some ⟨b', off', none⟩) K c', .slice (some ⟨b'', off'', none⟩) K c'']) := Lib.hid (by
      have := ((HR0.out.put hq2 hqw 0 (1 + 16 * (K : Int))).put hq2 hqw 1 lo)
      have e : 1 + 16 * (K : Int) = f := by rw [HF.out]; simp
      rw [← HZ.out, ← e]
      exact this)
    generalize (wA.setCell ⟨q1, 0, none⟩ (.int .i64 (1 + 16 * (K : Int)))).setCell ⟨q1, 1, none⟩ (.int .i64 lo) = wB at *
    clear HR0 z0 z1 f0 f1 d0 d1 d2 d3 d4 hw1 hw2 hw3 HF HZ G GB
    go_wp2_with fail
    go_loopg [4] K (fun g s4 wr => ∃ k : Nat, k ≤ K ∧ K - k ≤ g ∧ s4 = .int .i64 k ∧ Hid (Row3 w wr q1 w.heap.size 34 (RL k) #[.bool false, .int .i64 lo, .slice (some ⟨b, off, none⟩) K c, .slice (some ⟨b', off', none⟩) K c', .slice (some ⟨b'', off'', none⟩) K c'']))
    case atStart => exact ⟨0, by omega, by omega, rfl, HR⟩
    case round =>
      obtain ⟨k, hk, hg, rfl, HR⟩ := hrel
      obtain ⟨d0, d1, d2, d3, d4⟩ := row5 HR.out.n
      by_cases hlt : k < K
      · have hz1 : (k : Int) < (K : Int) := by omega
        have hz0 : (0 : Int) ≤ (k : Int) := by omega
        obtain ⟨c0, c1, c2⟩ := CA.out _ HR.out.b k hlt
        have r0 := HR.out.at (2 + k) (by rw [HL.out]; omega)
        have r1 := HR.out.at (10 + k) (by rw [HL.out]; omega)
        have r2 := HR.out.at (18 + k) (by rw [HL.out]; omega)
        have f0 := HR.out.r.frozen (2 + k)
        have f1 := HR.out.r.frozen (10 + k)
        have f2 := HR.out.r.frozen (18 + k)
        have w0 : IntKind.i64.wrap (2 + (k : Int)) = 2 + (k : Int) := by rw [IntKind.wrap_i64]; omega
        have w1 : IntKind.i64.wrap (10 + (k : Int)) = 10 + (k : Int) := by rw [IntKind.wrap_i64]; omega
        have w2 : IntKind.i64.wrap (18 + (k : Int)) = 18 + (k : Int) := by rw [IntKind.wrap_i64]; omega
        have t0 : (2 + (k : Int)).toNat = 2 + k := by omega
        have t1 : (10 + (k : Int)).toNat = 10 + k := by omega
        have t2 : (18 + (k : Int)).toNat = 18 + k := by omega
        have i0 : (0 : Int) ≤ 2 + (k : Int) := by omega
        have i1 : (0 : Int) ≤ 10 + (k : Int) := by omega
        have i2 : (0 : Int) ≤ 18 + (k : Int) := by omega
        have j0 : 2 + (k : Int) < 28 := by omega
        have j1 : 10 + (k : Int) < 28 := by omega
        have j2 : 18 + (k : Int) < 28 := by omega
        have n0 : ¬ 10 + k = 2 + k := by omega
        have n1 : ¬ 18 + k = 2 + k := by omega
        have n2 : ¬ 18 + k = 10 + k := by omega
        have HP := Lib.hid (((HR.out.put hq2 hqw (2 + k) (nth ends k)).put hq2 hqw (10 + k) (nth slots k)).put hq2 hqw (18 + k) (nth gaps k))
        rw [HS.out k (by omega)] at HP
        generalize nth ends k = x at *
        generalize nth slots k = h at *
        generalize nth gaps k = y at *
        go_wp2_with fail
        go_roundg (K - (k + 1))
        case measure => omega
        case rel => exact ⟨k + 1, by omega, by omega, by go_num, HP⟩
      · obtain rfl : k = K := by omega
        have HW := Lib.hid HR.out.r
        rw [HE.out] at HW
        go_wp2_with fail
        go_ret
        exact ⟨q1, rfl, HW.out, hqw, HR.out.b⟩
end Go.Proofs.Ytejkhnphplpkeaa
