/-
  Texts of our own, one behind the other (SlRefF): what the laws' proofs rest on; each says at its head what it holds. No conditions.
-/
import Derived.Test.YtejkhnphplpkeaaPkWb
/-
  Layer 15: whether the reference takes a node for formed. (Written by gen/SlRef.py.)
-/
namespace Go.Proofs.Ytejkhnphplpkeaa
open Go.ChangeShapes Go.WideShapes Go.ChangeAt Go.RowKit
set_option linter.unusedVariables false

set_option maxRecDepth 4000 in
set_option maxHeartbeats 16000000 in
theorem refFormedN_yes {n : Nd} {w : World} {e s g : Value} (h : NdIn w n e s g) (hc : n.Counted) (hlo : 65536 ≤ n.lo) (hpg : n.lo.tmod 4096 = 0) {r : Bool} (hr : Tells r (NdF n)) : Calls Try.prog 14 #[n.val e s g] w fun e w' => e = .returned (.bool r) ∧ Below w.heap.size w w' := by
  have G := Lib.hid ((Bag.new w).add 34 (n.cells e s g))
  have HT := Lib.hid (show (∀ i, i < n.ends.length → n.Ent i) → true = r from fun h => (hr.yes ⟨hc, hlo, hpg, h⟩).symm)
  have HF := Lib.hid (show ∀ k, k < n.ends.length → ¬ n.Ent k → false = r from fun k hk h => (hr.no (fun f => h (f.ent k hk))).symm)
  have a0 : n.at 0 = n.lo := rfl
  have HS := Lib.hid n.at_succ
  have HB := Lib.hid (show ∀ k, k ≤ n.ends.length → (∀ i, i < k → n.Ent i) → 65536 ≤ n.at k from fun k => by
    induction k with
    | zero => intro _ _; exact hlo
    | succ k ih =>
      intro hk he
      have := ih (by omega) (fun i hi => he i (by omega))
      have := (he k (by omega)).up
      rw [HS.out]
      omega)
  have HN := Lib.hid (show ∀ k, n.Ent k ↔ n.at k < nth n.ends k ∧ nth n.ends k ≤ 2097152 ∧ (nth n.ends k).tmod 4096 = 0 ∧ holdsE n.inner (nth n.slots k) (nth n.gaps k) (nth n.ends k - n.at k) from fun k => ⟨fun ⟨a, b, c, d⟩ => ⟨a, b, c, d⟩, fun ⟨a, b, c, d⟩ => ⟨a, b, c, d⟩⟩)
  have h8 := hc.few
  have h1 := hc.one
  have hsl := hc.sl
  have hgl := hc.gl
  obtain ⟨A, c, rfl, hcc, hA⟩ := h.we
  obtain ⟨A', c', rfl, hcc', hA'⟩ := h.ws
  obtain ⟨A'', c'', rfl, hcc'', hA''⟩ := h.wg
  obtain ⟨b, off, rfl, ca⟩ := hA (by omega)
  obtain ⟨b', off', rfl, ca'⟩ := hA' (by omega)
  obtain ⟨b'', off'', rfl, ca''⟩ := hA'' (by omega)
  rw [hsl] at ca' hcc'
  rw [hgl] at ca'' hcc''
  have CA : Hid (∀ W, Below w.heap.size w W → ∀ k, k < n.ends.length → W.cell? ⟨b, off + k, none⟩ = some (.int .i64 (nth n.ends k)) ∧ W.cell? ⟨b', off' + k, none⟩ = some (.int .i64 (nth n.slots k)) ∧ W.cell? ⟨b'', off'' + k, none⟩ = some (.int .i64 (nth n.gaps k))) := Lib.hid (fun W hb k hk => by
    have e1 := ca k hk
    have e2 := ca' k hk
    have e3 := ca'' k hk
    refine ⟨?_, ?_, ?_⟩
    · rw [hb.cell (p := ⟨b, off + k, none⟩) (World.block_lt_of_cell? w _ e1)]; exact e1
    · rw [hb.cell (p := ⟨b', off' + k, none⟩) (World.block_lt_of_cell? w _ e2)]; exact e2
    · rw [hb.cell (p := ⟨b'', off'' + k, none⟩) (World.block_lt_of_cell? w _ e3)]; exact e3)
  rw [hsl, hgl] at *
  have hlm : n.lo.tmod 4096 = n.lo % 4096 := tmod_up (by omega)
  have hpg2 : n.lo % 4096 = 0 := by rw [← hlm]; exact hpg
  clear hr hc ca ca' ca'' hA hA' hA'' h hsl hgl
  unfold Nd.val Nd.cells at *
  obtain ⟨inner, lo, ends, slots, gaps⟩ := n
  simp only at *
  generalize Nd.at _ = at_ at *
  generalize ends.length = K at *
  have hK0 : ¬ (K : Int) < 1 := by omega
  have hK1 : ¬ (8 : Int) < (K : Int) := by omega
  obtain ⟨d0, d1, d2, d3, d4⟩ := row5 G.out.v0
  go_enter Try.func14, Try.ntmps14
  go_wp2_with fail
  generalize hw1 : w.alloc (.cells #[.bool inner, .int .i64 lo, .slice (some ⟨b, off, none⟩) K c, .slice (some ⟨b', off', none⟩) K c', .slice (some ⟨b'', off'', none⟩) K c''] 34) = w1 at *
  clear hw1
  go_loopg [4, 5, 6, 7] K (fun g s4 s5 _ _ wr => ∃ k : Nat, k ≤ K ∧ K - k ≤ g ∧ s5 = .int .i64 k ∧ s4 = .int .i64 (at_ k) ∧ wr = w1 ∧ Hid (∀ i, i < k → Nd.Ent ⟨inner, lo, ends, slots, gaps⟩ i))
  case atStart => exact ⟨0, by omega, by omega, rfl, by rw [a0], rfl, Lib.hid (fun i hi => by omega)⟩
  case round =>
    obtain ⟨k, hk, hg, rfl, rfl, rfl, HK⟩ := hrel
    clear a0
    by_cases hlt : k < K
    · have hz1 : (k : Int) < (K : Int) := by omega
      have hz0 : (0 : Int) ≤ (k : Int) := by omega
      obtain ⟨c0, c1, c2⟩ := CA.out _ G.out.bel k hlt
      have b0 := HB.out k hk HK.out
      have HNk := Lib.hid (HN.out k)
      have HFk := Lib.hid (HF.out k hlt)
      have HA1 := Lib.hid (HS.out k)
      have HK1 : Hid (Nd.Ent ⟨inner, lo, ends, slots, gaps⟩ k → ∀ i, i < k + 1 → Nd.Ent ⟨inner, lo, ends, slots, gaps⟩ i) := Lib.hid (fun e i hi => by
        by_cases h : i = k
        · rw [h]; exact e
        · exact HK.out i (by omega))
      clear HN HF HS HB HK
      generalize nth ends k = x at *
      generalize nth slots k = h at *
      generalize nth gaps k = y at *
      generalize hfr : at_ k = fr at *
      by_cases t1 : fr < x
      · have t1' : ¬ x ≤ fr := by omega
        have t1d : decide (x ≤ fr) = false := decide_eq_false t1'
        by_cases t2 : x ≤ 2097152
        · have hx0 : 0 ≤ x := by omega
          have hxm : x.tmod 4096 = x % 4096 := tmod_up hx0
          have hws : IntKind.i64.wrap (x - fr) = x - fr := by rw [IntKind.wrap_i64]; omega
          by_cases t3 : x % 4096 = 0
          · have t3' : x.tmod 4096 = 0 := by rw [hxm]; exact t3
            by_cases t4 : h < 0
            · have HF2 := Lib.hid (HFk.out (fun e => by
                  have h4 := (HNk.out.1 e).2.2.2
                  unfold holdsE at h4
                  split at h4
                  · omega
                  · split at h4 <;> omega))
              clear HNk HFk HK1 hfr
              go_wp2_with fail
              go_ret
              exact ⟨says_bool HF2.out, G.out.bel⟩
            · have t4' : 0 ≤ h := by omega
              cases inner with
              | true =>
                have HI : Hid (∀ h x len, holdsE true h x len ↔ (0 < h ∧ 0 ≤ x ∧ x ≤ len)) := Lib.hid (fun h x len => by simp [holdsE])
                rw [HI.out] at HNk
                by_cases t5 : h = 0
                · have HF2 := Lib.hid (HFk.out (fun e => (by have := (HNk.out.1 e).2.2.2; omega)))
                  clear HNk HFk HK1 hfr
                  go_wp2_with fail
                  go_ret
                  exact ⟨says_bool HF2.out, G.out.bel⟩
                · have t6 : 0 < h := by omega
                  have t5b : (h == 0) = false := by simpa using t5
                  by_cases t7 : y < 0
                  · have HF2 := Lib.hid (HFk.out (fun e => (by have := (HNk.out.1 e).2.2.2; omega)))
                    clear HNk HFk HK1 hfr
                    go_wp2_with fail
                    go_ret
                    exact ⟨says_bool HF2.out, G.out.bel⟩
                  · have t7' : 0 ≤ y := by omega
                    by_cases t8 : x - fr < y
                    · have HF2 := Lib.hid (HFk.out (fun e => (by have := (HNk.out.1 e).2.2.2; omega)))
                      clear HNk HFk HK1 hfr
                      go_wp2_with fail
                      go_ret
                      exact ⟨says_bool HF2.out, G.out.bel⟩
                    · have t8' : y ≤ x - fr := by omega
                      have HK2 := Lib.hid (HK1.out (HNk.out.2 ⟨t1, t2, t3', ⟨t6, t7', by omega⟩⟩))
                      clear HNk HFk HK1 hfr
                      go_wp2_with fail
                      go_roundg (K - (k + 1))
                      case measure => omega
                      case rel => exact ⟨k + 1, by omega, by omega, by go_num, by rw [HA1.out], rfl, HK2⟩
              | false =>
                have HI : Hid (∀ h x len, holdsE false h x len ↔ (if h = 0 then x = len else 0 < h ∧ x = 0)) := Lib.hid (fun h x len => by simp [holdsE])
                rw [HI.out] at HNk
                by_cases t5 : h = 0
                · subst t5
                  rw [if_pos rfl] at HNk
                  by_cases t7 : y = x - fr
                  · have HK2 := Lib.hid (HK1.out (HNk.out.2 ⟨t1, t2, t3', t7⟩))
                    subst t7
                    clear HNk HFk HK1 hfr
                    go_wp2_with fail
                    go_roundg (K - (k + 1))
                    case measure => omega
                    case rel => exact ⟨k + 1, by omega, by omega, by go_num, by rw [HA1.out], rfl, HK2⟩
                  · have t7b : (y != x - fr) = true := by simpa using t7
                    have HF2 := Lib.hid (HFk.out (fun e => t7 (HNk.out.1 e).2.2.2))
                    clear HNk HFk HK1 hfr
                    go_wp2_with fail
                    go_ret
                    exact ⟨says_bool HF2.out, G.out.bel⟩
                · have t5b : (h == 0) = false := by simpa using t5
                  rw [if_neg t5] at HNk
                  by_cases t7 : y = 0
                  · have HK2 := Lib.hid (HK1.out (HNk.out.2 ⟨t1, t2, t3', ⟨by omega, t7⟩⟩))
                    subst t7
                    clear HNk HFk HK1 hfr
                    go_wp2_with fail
                    go_roundg (K - (k + 1))
                    case measure => omega
                    case rel => exact ⟨k + 1, by omega, by omega, by go_num, by rw [HA1.out], rfl, HK2⟩
                  · have t7b : (y != 0) = true := by simpa using t7
                    have HF2 := Lib.hid (HFk.out (fun e => t7 (HNk.out.1 e).2.2.2.2))
                    clear HNk HFk HK1 hfr
                    go_wp2_with fail
                    go_ret
                    exact ⟨says_bool HF2.out, G.out.bel⟩
          · have t3b : (x % 4096 != 0) = true := by simpa using t3
            have HF2 := Lib.hid (HFk.out (fun e => t3 (by rw [← hxm]; exact (HNk.out.1 e).2.2.1)))
            clear HNk HFk HK1 hfr
            go_wp2_with fail
            go_ret
            exact ⟨says_bool HF2.out, G.out.bel⟩
        · have t2' : 2097152 < x := by omega
          have HF2 := Lib.hid (HFk.out (fun e => t2 (HNk.out.1 e).2.1))
          clear HNk HFk HK1 hfr
          go_wp2_with fail
          go_ret
          exact ⟨says_bool HF2.out, G.out.bel⟩
      · have t1' : x ≤ fr := by omega
        have HF2 := Lib.hid (HFk.out (fun e => t1 (HNk.out.1 e).1))
        clear HNk HFk HK1 hfr
        go_wp2_with fail
        go_ret
        exact ⟨says_bool HF2.out, G.out.bel⟩
    · obtain rfl : k = K := by omega
      have HT2 := Lib.hid (HT.out HK.out)
      go_wp2_with fail
      go_ret
      exact ⟨says_bool HT2.out, G.out.bel⟩

set_option maxHeartbeats 8000000 in
theorem refFormedN_c {n : Nd} {w : World} {e s g : Value} (h : NdIn w n e s g) {r : Bool} (hr : Tells r (NdF n)) : Calls Try.prog 14 #[n.val e s g] w fun e w' => e = .returned (.bool r) ∧ Below w.heap.size w w' := by
  by_cases hc : n.Counted ∧ 65536 ≤ n.lo ∧ n.lo.tmod 4096 = 0
  · exact refFormedN_yes h hc.1 hc.2.1 hc.2.2 hr
  · have hr' := Lib.hid (show false = r from (hr.no (fun f => hc ⟨f.cnt, f.lo, f.pg⟩)).symm)
    rw [counted_iff] at hc
    obtain ⟨A, c, rfl⟩ := h.we.is
    obtain ⟨A', c', rfl⟩ := h.ws.is
    obtain ⟨A'', c'', rfl⟩ := h.wg.is
    clear hr h
    unfold Nd.val
    obtain ⟨inner, lo, ends, slots, gaps⟩ := n
    simp only at *
    generalize ends.length = x at *
    generalize slots.length = y at *
    generalize gaps.length = z at *
    have hc6 : x < 1 ∨ 1 ≤ x ∧ (8 < x ∨ x ≤ 8 ∧ (y ≠ x ∨ y = x ∧ (z ≠ x ∨ z = x ∧ (lo < 65536 ∨ 65536 ≤ lo ∧ lo.tmod 4096 ≠ 0)))) := by
      by_cases h1 : x < 1
      · exact .inl h1
      · refine .inr ⟨by omega, ?_⟩
        by_cases h2 : 8 < x
        · exact .inl h2
        · refine .inr ⟨by omega, ?_⟩
          by_cases h3 : y = x
          · refine .inr ⟨h3, ?_⟩
            by_cases h4 : z = x
            · refine .inr ⟨h4, ?_⟩
              by_cases h5 : lo < 65536
              · exact .inl h5
              · exact .inr ⟨by omega, fun h6 => hc ⟨⟨by omega, by omega, h3, h4⟩, by omega, h6⟩⟩
            · exact .inl h4
          · exact .inl h3
    clear hc
    rcases hc6 with h1 | ⟨h1, h2 | ⟨h2, h3 | ⟨h3, h4 | ⟨h4, h5 | ⟨h5, h6⟩⟩⟩⟩⟩
    · have k1 : (x : Int) < 1 := by omega
      go_enter Try.func14, Try.ntmps14
      go_wp2_with fail
      go_ret
      exact ⟨says_bool hr'.out, below_new _ _⟩
    · have k1 : ¬ (x : Int) < 1 := by omega
      have k2 : (8 : Int) < (x : Int) := by omega
      go_enter Try.func14, Try.ntmps14
      go_wp2_with fail
      go_ret
      exact ⟨says_bool hr'.out, below_new _ _⟩
    · have k1 : ¬ (x : Int) < 1 := by omega
      have k2 : ¬ (8 : Int) < (x : Int) := by omega
      have k3 : ¬ (y : Int) = (x : Int) := by omega
      go_enter Try.func14, Try.ntmps14
      go_wp2_with fail
      go_ret
      exact ⟨says_bool hr'.out, below_new _ _⟩
    · subst h3
      have k1 : ¬ (y : Int) < 1 := by omega
      have k2 : ¬ (8 : Int) < (y : Int) := by omega
      have k3 : ¬ (z : Int) = (y : Int) := by omega
      go_enter Try.func14, Try.ntmps14
      go_wp2_with fail
      go_ret
      exact ⟨says_bool hr'.out, below_new _ _⟩
    · subst h3
      subst h4
      have k1 : ¬ (z : Int) < 1 := by omega
      have k2 : ¬ (8 : Int) < (z : Int) := by omega
      go_enter Try.func14, Try.ntmps14
      go_wp2_with fail
      go_ret
      exact ⟨says_bool hr'.out, below_new _ _⟩
    · subst h3
      subst h4
      have k1 : ¬ (z : Int) < 1 := by omega
      have k2 : ¬ (8 : Int) < (z : Int) := by omega
      have hlm : lo.tmod 4096 = lo % 4096 := tmod_up (by omega)
      have k5 : ¬ lo % 4096 = 0 := by rw [← hlm]; exact h6
      have k6 : (lo % 4096 != 0) = true := by simpa using k5
      go_enter Try.func14, Try.ntmps14
      go_wp2_with fail
      go_ret
      exact ⟨says_bool hr'.out, below_new _ _⟩
end Go.Proofs.Ytejkhnphplpkeaa
