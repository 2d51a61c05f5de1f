/-
  Texts of our own, one behind the other (SlRefP, SlRefA): what the laws' proofs rest on; each says at its head what it holds. No conditions.
-/
import Derived.Test.YtejkhnphplpkeaaPkWd
import Derived.Test.YtejkhnphplpkeaaPkA
/-
  Layer 15: the words that the reference tells.
-/
namespace Go.Proofs.Ytejkhnphplpkeaa
open Go.ChangeShapes Go.WideShapes Go.ChangeAt Go.RowKit
set_option linter.unusedVariables false

/-- Noughts. -/
def nul28 : List Int := List.replicate 28 0
theorem make28 (w : World) : (Instr.makeSlice 27 (.int .i64 28) (.int .i64 28)).run Try.prog w = .ok (.slice (some ⟨w.heap.size, 0, none⟩) 28 28) (w.alloc (.cells (nums nul28) 2)) := by
  have h := run_make_row' 27 2 _ 8 Try.underlying27 int_info rfl .i64 .i64 28 (by omega) (by omega) w
  rw [nums_made] at h
  exact h

/-- A node's words, of the first k entries. -/
def refAt (n : Nd) (k j : Nat) : Int := if j = 0 then n.first else if j = 1 then n.lo else if j < 10 then (if j - 2 < k then nth n.ends (j - 2) else 0) else if j < 18 then (if j - 10 < k then nth n.slots (j - 10) else 0) else (if j - 18 < k then nth n.gaps (j - 18) else 0)
def refL (n : Nd) (k : Nat) : List Int := (List.range 28).map (refAt n k)
theorem refL_len (n : Nd) (k : Nat) : (refL n k).length = 28 := by simp [refL]
theorem refL_zero (n : Nd) : (nul28.set 0 n.first).set 1 n.lo = refL n 0 := by
  unfold nul28
  apply ext_nth
  · simp [refL]
  · intro i hi
    simp only [List.length_set, List.length_replicate] at hi
    rw [nth_set _ _ _ _ (by simpa using hi), nth_set _ _ _ _ (by simpa using hi), nth_zeros]
    unfold refL
    rw [nth_map _ _ _ hi]
    unfold refAt
    by_cases h0 : i = 0
    · rw [if_neg (by omega), if_pos h0, if_pos h0]
    · by_cases h1 : i = 1
      · rw [if_pos h1, if_neg h0, if_pos h1]
      · rw [if_neg h1, if_neg h0, if_neg h0, if_neg h1]
        by_cases h2 : i < 10
        · rw [if_pos h2, if_neg (by omega)]
        · rw [if_neg h2]
          by_cases h3 : i < 18
          · rw [if_pos h3, if_neg (by omega)]
          · rw [if_neg h3, if_neg (by omega)]
theorem refL_step (n : Nd) (k : Nat) (hk : k < 8) : (((refL n k).set (2 + k) (nth n.ends k)).set (10 + k) (nth n.slots k)).set (18 + k) (nth n.gaps k) = refL n (k + 1) := by
  apply ext_nth
  · simp [refL]
  · intro i hi
    simp only [List.length_set, refL_len] at hi
    rw [nth_set _ _ _ _ (by simpa [refL_len] using hi), nth_set _ _ _ _ (by simpa [refL_len] using hi), nth_set _ _ _ _ (by simpa [refL_len] using hi)]
    unfold refL
    rw [nth_map _ _ _ hi, nth_map _ _ _ hi]
    unfold refAt
    by_cases h0 : i = 0
    · rw [if_neg (by omega), if_neg (by omega), if_neg (by omega), if_pos h0, if_pos h0]
    · rw [if_neg h0, if_neg h0]
      by_cases h1 : i = 1
      · rw [if_neg (by omega), if_neg (by omega), if_neg (by omega), if_pos h1, if_pos h1]
      · rw [if_neg h1, if_neg h1]
        by_cases h2 : i < 10
        · rw [if_pos h2, if_pos h2, if_neg (by omega), if_neg (by omega)]
          by_cases h4 : i = 2 + k
          · rw [if_pos h4, if_pos (by omega)]; congr 1; omega
          · rw [if_neg h4]
            by_cases h5 : i - 2 < k
            · rw [if_pos h5, if_pos (by omega)]
            · rw [if_neg h5, if_neg (by omega)]
        · rw [if_neg h2, if_neg h2]
          by_cases h3 : i < 18
          · rw [if_pos h3, if_pos h3, if_neg (by omega)]
            by_cases h4 : i = 10 + k
            · rw [if_pos h4, if_pos (by omega)]; congr 1; omega
            · rw [if_neg h4, if_neg (by omega)]
              by_cases h5 : i - 10 < k
              · rw [if_pos h5, if_pos (by omega)]
              · rw [if_neg h5, if_neg (by omega)]
          · rw [if_neg h3, if_neg h3]
            by_cases h4 : i = 18 + k
            · rw [if_pos h4, if_pos (by omega)]; congr 1; omega
            · rw [if_neg h4, if_neg (by omega), if_neg (by omega)]
              by_cases h5 : i - 18 < k
              · rw [if_pos h5, if_pos (by omega)]
              · rw [if_neg h5, if_neg (by omega)]
theorem refL_end {n : Nd} (h : n.Counted) : refL n n.ends.length = packN n := by
  have h1 := h.few
  have h2 := h.sl
  have h3 := h.gl
  apply ext_nth
  · rw [refL_len, pack_len h]
  · intro i hi
    rw [refL_len] at hi
    rw [nth_pack h]
    unfold refL wordN
    rw [nth_map _ _ _ hi]
    unfold refAt
    by_cases h0 : i = 0
    · rw [if_pos h0, if_pos h0]
    · rw [if_neg h0, if_neg h0]
      by_cases h1 : i = 1
      · rw [if_pos h1, if_pos h1]
      · rw [if_neg h1, if_neg h1]
        by_cases h2 : i < 10
        · rw [if_pos h2, if_pos h2]
          by_cases h5 : i - 2 < n.ends.length
          · rw [if_pos h5]
          · rw [if_neg h5, nth_out (by omega)]
        · rw [if_neg h2, if_neg h2]
          by_cases h3 : i < 18
          · rw [if_pos h3, if_pos h3]
            by_cases h5 : i - 10 < n.ends.length
            · rw [if_pos h5]
            · rw [if_neg h5, nth_out (by omega)]
          · rw [if_neg h3, if_neg h3]
            by_cases h5 : i - 18 < n.ends.length
            · rw [if_pos h5]
            · rw [if_neg h5, nth_out (by omega)]
/-- A number is written into a row. -/
theorem nums_put {w : World} {q : Nat} {l : List Int} (h : Whole w q 2 (nums l)) (i : Nat) (v : Int) : Whole (w.setCell ⟨q, i, none⟩ (.int .i64 v)) q 2 (nums (l.set i v)) := by
  rw [← nums_set]
  exact h.put i _
theorem nums_wds {w : World} {q c : Nat} {l : List Int} (h : Whole w q 2 (nums l)) (hc : l.length ≤ c) : Wds w (.slice (some ⟨q, 0, none⟩) l.length c) l :=
  ⟨_, _, rfl, hc, fun _ => ⟨q, 0, rfl, fun k hk => by rw [Nat.zero_add, h.cell k, nums_at l k hk]⟩⟩
/-- A row of numbers that is being written, and a variable beside it. -/
structure Row3 (w W : World) (q1 q0 : Nat) (t : TypeId) (L : List Int) (cs : Array Value) : Prop where
  r : Whole W q1 2 (nums L)
  n : Whole W q0 t cs
  b : Below w.heap.size w W
theorem Row3.put {w W : World} {q1 q0 : Nat} {t : TypeId} {L : List Int} {cs : Array Value} (h : Row3 w W q1 q0 t L cs) (hne : q0 ≠ q1) (hq : w.heap.size ≤ q1) (i : Nat) (v : Int) : Row3 w (W.setCell ⟨q1, i, none⟩ (.int .i64 v)) q1 q0 t (L.set i v) cs :=
  ⟨nums_put h.r i v, h.n.far (p := ⟨q1, i, none⟩) hne _, h.b.setCell (p := ⟨q1, i, none⟩) hq _⟩
theorem Row3.at {w W : World} {q1 q0 : Nat} {t : TypeId} {L : List Int} {cs : Array Value} (h : Row3 w W q1 q0 t L cs) (i : Nat) (hi : i < L.length) : W.cell? ⟨q1, i, none⟩ = some (.int .i64 (nth L i)) := by rw [h.r.cell i, nums_at L i hi]
set_option maxRecDepth 4000 in
set_option maxHeartbeats 8000000 in
theorem refPackN_c {n : Nd} {w : World} {e s g : Value} (h : NdIn w n e s g) (hc : n.Counted) : Calls Try.prog 28 #[n.val e s g] w fun e w' => ∃ v', e = .returned v' ∧ Wds w' v' (packN n) ∧ Below w.heap.size w w' := by
  have G := Lib.hid ((Bag.new w).add 34 (n.cells e s g))
  have h8 := hc.few
  have h1 := hc.one
  have hsl := hc.sl
  have hgl := hc.gl
  obtain ⟨A, c, rfl, hcc, hA⟩ := h.we
  obtain ⟨A', c', rfl, hcc', hA'⟩ := h.ws
  obtain ⟨A'', c'', rfl, hcc'', hA''⟩ := h.wg
  obtain ⟨b, off, rfl, ca⟩ := hA (by omega)
  obtain ⟨b', off', rfl, ca'⟩ := hA' (by omega)
  obtain ⟨b'', off'', rfl, ca''⟩ := hA'' (by omega)
  rw [hsl] at ca' hcc'
  rw [hgl] at ca'' hcc''
  have CA : Hid (∀ W, Below w.heap.size w W → ∀ k, k < n.ends.length → W.cell? ⟨b, off + k, none⟩ = some (.int .i64 (nth n.ends k)) ∧ W.cell? ⟨b', off' + k, none⟩ = some (.int .i64 (nth n.slots k)) ∧ W.cell? ⟨b'', off'' + k, none⟩ = some (.int .i64 (nth n.gaps k))) := Lib.hid (fun W hb k hk => by
    have e1 := ca k hk
    have e2 := ca' k hk
    have e3 := ca'' k hk
    refine ⟨?_, ?_, ?_⟩
    · rw [hb.cell (p := ⟨b, off + k, none⟩) (World.block_lt_of_cell? w _ e1)]; exact e1
    · rw [hb.cell (p := ⟨b', off' + k, none⟩) (World.block_lt_of_cell? w _ e2)]; exact e2
    · rw [hb.cell (p := ⟨b'', off'' + k, none⟩) (World.block_lt_of_cell? w _ e3)]; exact e3)
  have LT : Hid (b < w.heap.size ∧ b' < w.heap.size ∧ b'' < w.heap.size) := Lib.hid ⟨World.block_lt_of_cell? w _ (ca 0 (by omega)), World.block_lt_of_cell? w _ (ca' 0 (by omega)), World.block_lt_of_cell? w _ (ca'' 0 (by omega))⟩
  have HE := Lib.hid (refL_end hc)
  have HS := Lib.hid (fun k hk => refL_step n k hk)
  have HZ := Lib.hid (refL_zero n)
  have HPL := Lib.hid (pack_len hc)
  have HL := Lib.hid (refL_len n)
  have HF : Hid (n.first = (if n.inner then 2 else 1) + 16 * (n.ends.length : Int)) := Lib.hid rfl
  rw [hsl, hgl] at *
  clear hc ca ca' ca'' hA hA' hA'' h hsl hgl
  generalize hpk : packN n = pk at *
  clear hpk
  unfold Nd.val Nd.cells at *
  generalize refL n = RL at *
  generalize n.first = f at *
  obtain ⟨inner, lo, ends, slots, gaps⟩ := n
  simp only at *
  generalize ends.length = K at *
  have mk := make28
  go_enter Try.func28, Try.ntmps28
  go_upto_region 2 with (fail)
  have G := Lib.hid (G.out.add 2 (nums nul28))
  rw [World.size_alloc] at G
  have HR0 : Hid (Row3 w ((w.alloc (.cells #[.bool inner, .int .i64 lo, .slice (some ⟨b, off, none⟩) K c, .slice (some ⟨b', off', none⟩) K c', .slice (some ⟨b'', off'', none⟩) K c''] 34)).alloc (.cells (nums nul28) 2)) (w.heap.size + 1) w.heap.size 34 nul28 #[.bool inner, .int .i64 lo, .slice (some ⟨b, off, none⟩) K c, .slice (some ⟨b', off', none⟩) K c', .slice (some ⟨b'', off'', none⟩) K c'']) := Lib.hid ⟨G.out.v0, G.out.v1, G.out.bel⟩
  have GB := Lib.hid G.out.bel
  have hbq : b < w.heap.size ∧ b' < w.heap.size ∧ b'' < w.heap.size := LT.out
  generalize (w.alloc (.cells #[.bool inner, .int .i64 lo, .slice (some ⟨b, off, none⟩) K c, .slice (some ⟨b', off', none⟩) K c', .slice (some ⟨b'', off'', none⟩) K c''] 34)).alloc (.cells (nums nul28) 2) = wA at *
  clear mk
  have hqw : w.heap.size ≤ w.heap.size + 1 := by omega
  have hq2 : w.heap.size ≠ w.heap.size + 1 := by omega
  generalize hq1 : w.heap.size + 1 = q1 at *
  obtain ⟨d0, d1, d2, d3, d4⟩ := row5 G.out.v1
  have z0 : wA.cell? ⟨q1, 0, none⟩ = some (.int .i64 0) := G.out.v0.cell 0
  have z1 : wA.cell? ⟨q1, 1, none⟩ = some (.int .i64 0) := G.out.v0.cell 1
  have f0 := G.out.v0.frozen 0
  have f1 := G.out.v0.frozen 1
  have hw1 : IntKind.i64.wrap (16 * (K : Int)) = 16 * (K : Int) := by rw [IntKind.wrap_i64]; omega
  have hw2 : IntKind.i64.wrap (1 + 16 * (K : Int)) = 1 + 16 * (K : Int) := by rw [IntKind.wrap_i64]; omega
  have hw3 : IntKind.i64.wrap (1 + 16 * (K : Int) + 1) = 1 + 16 * (K : Int) + 1 := by rw [IntKind.wrap_i64]; omega
  have hq3 : ¬ q1 = w.heap.size := fun h => hq2 h.symm
  have b0 : ¬ b = q1 := by omega
  have b1 : ¬ b' = q1 := by omega
  have b2 : ¬ b'' = q1 := by omega
  have b3 : ¬ q1 = b := by omega
  have b4 : ¬ q1 = b' := by omega
  have b5 : ¬ q1 = b'' := by omega
  clear hbq hq1 LT
  cases inner with
  | true =>
    go_upto_region 6 with (fail)
    have HR : Hid (Row3 w (((wA.setCell ⟨q1, 0, none⟩ (.int .i64 (1 + 16 * (K : Int)))).setCell ⟨q1, 0, none⟩ (.int .i64 (1 + 16 * (K : Int) + 1))).setCell ⟨q1, 1, none⟩ (.int .i64 lo)) q1 w.heap.size 34 (RL 0) #[.bool true, .int .i64 lo, .slice (some ⟨b, off, none⟩) K c, .slice (some ⟨b', off', none⟩) K c', .slice (some ⟨b'', off'', none⟩) K c'']) := Lib.hid (by
      have := (((HR0.out.put hq2 hqw 0 (1 + 16 * (K : Int))).put hq2 hqw 0 (1 + 16 * (K : Int) + 1)).put hq2 hqw 1 lo)
      have e : 1 + 16 * (K : Int) + 1 = f := by rw [HF.out]; simp; omega
      rw [← HZ.out, ← e, ← List.set_set (l := nul28) (i := 0) (1 + 16 * (K : Int))]
      exact this)
    generalize ((wA.setCell ⟨q1, 0, none⟩ (.int .i64 (1 + 16 * (K : Int)))).setCell ⟨q1, 0, none⟩ (.int .i64 (1 + 16 * (K : Int) + 1))).setCell ⟨q1, 1, none⟩ (.int .i64 lo) = wB at *
    clear HR0 z0 z1 f0 f1 d0 d1 d2 d3 d4 hw1 hw2 hw3 HF HZ G GB
    go_wp2_with fail
    go_loopg [4] K (fun g s4 wr => ∃ k : Nat, k ≤ K ∧ K - k ≤ g ∧ s4 = .int .i64 k ∧ Hid (Row3 w wr q1 w.heap.size 34 (RL k) #[.bool true, .int .i64 lo, .slice (some ⟨b, off, none⟩) K c, .slice (some ⟨b', off', none⟩) K c', .slice (some ⟨b'', off'', none⟩) K c'']))
    case atStart => exact ⟨0, by omega, by omega, rfl, HR⟩
    case round =>
      obtain ⟨k, hk, hg, rfl, HR⟩ := hrel
      obtain ⟨d0, d1, d2, d3, d4⟩ := row5 HR.out.n
      by_cases hlt : k < K
      · have hz1 : (k : Int) < (K : Int) := by omega
        have hz0 : (0 : Int) ≤ (k : Int) := by omega
        obtain ⟨c0, c1, c2⟩ := CA.out _ HR.out.b k hlt
        have r0 := HR.out.at (2 + k) (by rw [HL.out]; omega)
        have r1 := HR.out.at (10 + k) (by rw [HL.out]; omega)
        have r2 := HR.out.at (18 + k) (by rw [HL.out]; omega)
        have f0 := HR.out.r.frozen (2 + k)
        have f1 := HR.out.r.frozen (10 + k)
        have f2 := HR.out.r.frozen (18 + k)
        have w0 : IntKind.i64.wrap (2 + (k : Int)) = 2 + (k : Int) := by rw [IntKind.wrap_i64]; omega
        have w1 : IntKind.i64.wrap (10 + (k : Int)) = 10 + (k : Int) := by rw [IntKind.wrap_i64]; omega
        have w2 : IntKind.i64.wrap (18 + (k : Int)) = 18 + (k : Int) := by rw [IntKind.wrap_i64]; omega
        have t0 : (2 + (k : Int)).toNat = 2 + k := by omega
        have t1 : (10 + (k : Int)).toNat = 10 + k := by omega
        have t2 : (18 + (k : Int)).toNat = 18 + k := by omega
        have i0 : (0 : Int) ≤ 2 + (k : Int) := by omega
        have i1 : (0 : Int) ≤ 10 + (k : Int) := by omega
        have i2 : (0 : Int) ≤ 18 + (k : Int) := by omega
        have j0 : 2 + (k : Int) < 28 := by omega
        have j1 : 10 + (k : Int) < 28 := by omega
        have j2 : 18 + (k : Int) < 28 := by omega
        have n0 : ¬ 10 + k = 2 + k := by omega
        have n1 : ¬ 18 + k = 2 + k := by omega
        have n2 : ¬ 18 + k = 10 + k := by omega
        have HP := Lib.hid (((HR.out.put hq2 hqw (2 + k) (nth ends k)).put hq2 hqw (10 + k) (nth slots k)).put hq2 hqw (18 + k) (nth gaps k))
        rw [HS.out k (by omega)] at HP
        generalize nth ends k = x at *
        generalize nth slots k = h at *
        generalize nth gaps k = y at *
        go_wp2_with fail
        go_roundg (K - (k + 1))
        case measure => omega
        case rel => exact ⟨k + 1, by omega, by omega, by go_num, HP⟩
      · obtain rfl : k = K := by omega
        have HW := Lib.hid (nums_wds HR.out.r (c := 28) (by rw [HL.out]; omega))
        rw [HE.out, HPL.out] at HW
        go_wp2_with fail
        go_ret
        exact ⟨_, rfl, HW.out, HR.out.b⟩
  | false =>
    go_upto_region 6 with (fail)
    have HR : Hid (Row3 w ((wA.setCell ⟨q1, 0, none⟩ (.int .i64 (1 + 16 * (K : Int)))).setCell ⟨q1, 1, none⟩ (.int .i64 lo)) q1 w.heap.size 34 (RL 0) #[.bool false, .int .i64 lo, .slice (some ⟨b, off, none⟩) K c, .slice (some ⟨b', off', none⟩) K c', .slice (some ⟨b'', off'', none⟩) K c'']) := Lib.hid (by
      have := ((HR0.out.put hq2 hqw 0 (1 + 16 * (K : Int))).put hq2 hqw 1 lo)
      have e : 1 + 16 * (K : Int) = f := by rw [HF.out]; simp
      rw [← HZ.out, ← e]
      exact this)
    generalize (wA.setCell ⟨q1, 0, none⟩ (.int .i64 (1 + 16 * (K : Int)))).setCell ⟨q1, 1, none⟩ (.int .i64 lo) = wB at *
    clear HR0 z0 z1 f0 f1 d0 d1 d2 d3 d4 hw1 hw2 hw3 HF HZ G GB
    go_wp2_with fail
    go_loopg [4] K (fun g s4 wr => ∃ k : Nat, k ≤ K ∧ K - k ≤ g ∧ s4 = .int .i64 k ∧ Hid (Row3 w wr q1 w.heap.size 34 (RL k) #[.bool false, .int .i64 lo, .slice (some ⟨b, off, none⟩) K c, .slice (some ⟨b', off', none⟩) K c', .slice (some ⟨b'', off'', none⟩) K c'']))
    case atStart => exact ⟨0, by omega, by omega, rfl, HR⟩
    case round =>
      obtain ⟨k, hk, hg, rfl, HR⟩ := hrel
      obtain ⟨d0, d1, d2, d3, d4⟩ := row5 HR.out.n
      by_cases hlt : k < K
      · have hz1 : (k : Int) < (K : Int) := by omega
        have hz0 : (0 : Int) ≤ (k : Int) := by omega
        obtain ⟨c0, c1, c2⟩ := CA.out _ HR.out.b k hlt
        have r0 := HR.out.at (2 + k) (by rw [HL.out]; omega)
        have r1 := HR.out.at (10 + k) (by rw [HL.out]; omega)
        have r2 := HR.out.at (18 + k) (by rw [HL.out]; omega)
        have f0 := HR.out.r.frozen (2 + k)
        have f1 := HR.out.r.frozen (10 + k)
        have f2 := HR.out.r.frozen (18 + k)
        have w0 : IntKind.i64.wrap (2 + (k : Int)) = 2 + (k : Int) := by rw [IntKind.wrap_i64]; omega
        have w1 : IntKind.i64.wrap (10 + (k : Int)) = 10 + (k : Int) := by rw [IntKind.wrap_i64]; omega
        have w2 : IntKind.i64.wrap (18 + (k : Int)) = 18 + (k : Int) := by rw [IntKind.wrap_i64]; omega
        have t0 : (2 + (k : Int)).toNat = 2 + k := by omega
        have t1 : (10 + (k : Int)).toNat = 10 + k := by omega
        have t2 : (18 + (k : Int)).toNat = 18 + k := by omega
        have i0 : (0 : Int) ≤ 2 + (k : Int) := by omega
        have i1 : (0 : Int) ≤ 10 + (k : Int) := by omega
        have i2 : (0 : Int) ≤ 18 + (k : Int) := by omega
        have j0 : 2 + (k : Int) < 28 := by omega
        have j1 : 10 + (k : Int) < 28 := by omega
        have j2 : 18 + (k : Int) < 28 := by omega
        have n0 : ¬ 10 + k = 2 + k := by omega
        have n1 : ¬ 18 + k = 2 + k := by omega
        have n2 : ¬ 18 + k = 10 + k := by omega
        have HP := Lib.hid (((HR.out.put hq2 hqw (2 + k) (nth ends k)).put hq2 hqw (10 + k) (nth slots k)).put hq2 hqw (18 + k) (nth gaps k))
        rw [HS.out k (by omega)] at HP
        generalize nth ends k = x at *
        generalize nth slots k = h at *
        generalize nth gaps k = y at *
        go_wp2_with fail
        go_roundg (K - (k + 1))
        case measure => omega
        case rel => exact ⟨k + 1, by omega, by omega, by go_num, HP⟩
      · obtain rfl : k = K := by omega
        have HW := Lib.hid (nums_wds HR.out.r (c := 28) (by rw [HL.out]; omega))
        rw [HE.out, HPL.out] at HW
        go_wp2_with fail
        go_ret
        exact ⟨_, rfl, HW.out, HR.out.b⟩
end Go.Proofs.Ytejkhnphplpkeaa

/-
  Layer 15: an area's words, as the reference tells them.
-/
namespace Go.Proofs.Ytejkhnphplpkeaa
open Go.ChangeShapes Go.WideShapes Go.ChangeAt Go.RowKit
set_option linter.unusedVariables false

theorem nul_len : nul28.length = 28 := by simp [nul28]
theorem set8 (x0 x1 x2 x3 x4 x5 x6 x7 : Int) : (((((((nul28.set 0 x0).set 1 x1).set 2 x2).set 3 x3).set 4 x4).set 5 x5).set 6 x6).set 7 x7 = fill [x0, x1, x2, x3, x4, x5, x6, x7] 28 := rfl
theorem set6a (x0 x2 x3 x4 x6 x7 : Int) : (((((nul28.set 0 x0).set 2 x2).set 3 x3).set 4 x4).set 6 x6).set 7 x7 = fill [x0, 0, x2, x3, x4, 0, x6, x7] 28 := rfl
theorem set7a (x0 x1 x2 x3 x4 x6 x7 : Int) : ((((((nul28.set 0 x0).set 1 x1).set 2 x2).set 3 x3).set 4 x4).set 6 x6).set 7 x7 = fill [x0, x1, x2, x3, x4, 0, x6, x7] 28 := rfl
theorem set7b (x0 x2 x3 x4 x5 x6 x7 : Int) : ((((((nul28.set 0 x0).set 2 x2).set 3 x3).set 4 x4).set 5 x5).set 6 x6).set 7 x7 = fill [x0, 0, x2, x3, x4, x5, x6, x7] 28 := rfl
end Go.Proofs.Ytejkhnphplpkeaa
