/-
  Texts of our own, one behind the other (RbForm): what the laws' proofs rest on; each says at its head what it holds. No conditions.
-/
import Derived.Test.YtejkhnphplpkeaaPkZh
import Derived.Test.YtejkhnphplpkeaaPkZb
import Derived.BigQuiet
/-
  Layer 18: the reference: whether entries are a tree's.
-/
namespace Go.Proofs.Ytejkhnphplpkeaa
open Go.ChangeShapes Go.WideShapes Go.ChangeAt Go.RowKit
set_option linter.unusedVariables false

/-- A slice of entries, as it reads. -/
def Ens (w : World) (v : Value) (l : List En) : Prop := ∃ A c, v = .slice A l.length c ∧ l.length ≤ c ∧ (0 < l.length → ∃ b off, A = some ⟨b, off, none⟩ ∧ ∀ i, i < l.length → w.cell? ⟨b, off + i * 3, none⟩ = some (.int .i64 (enAt l i).lo) ∧ w.cell? ⟨b, off + i * 3 + 1, none⟩ = some (.int .i64 (enAt l i).hi) ∧ w.cell? ⟨b, off + i * 3 + 2, none⟩ = some (.int .i64 (enAt l i).h))
theorem Mes.ens {base : Nat} {w : World} {v : Value} {l : List En} (h : Mes base w v l) : Ens w v l := by
  obtain ⟨A, c, rfl⟩ := own_slice h
  have hc : l.length ≤ c := by
    rcases h.2 with ⟨e, h0⟩ | ⟨g, cap, cur, e, _, _, hn, _⟩
    · rw [h0]; omega
    · injection e with _ _ e3; omega
  refine ⟨A, c, rfl, hc, fun h0 => ?_⟩
  obtain ⟨g, rfl, _, _⟩ := own_form h h0
  refine ⟨g, 0, rfl, fun i hi => ?_⟩
  obtain ⟨g', c', e, h1, h2, h3⟩ := h.at i hi
  injection e with e1 _ _
  injection e1 with e1
  injection e1 with e1
  subst e1
  rw [Nat.zero_add]
  exact ⟨h1, h2, h3⟩
theorem Ens.still {w w' : World} {v : Value} {l : List En} (h : Ens w v l) (hb : Below w.heap.size w w') : Ens w' v l := by
  obtain ⟨A, c, rfl, hc, hA⟩ := h
  refine ⟨A, c, rfl, hc, fun h0 => ?_⟩
  obtain ⟨b, off, rfl, k⟩ := hA h0
  refine ⟨b, off, rfl, fun i hi => ?_⟩
  obtain ⟨k0, k1, k2⟩ := k i hi
  exact ⟨by rw [hb.cell (p := ⟨b, off + i * 3, none⟩) (World.block_lt_of_cell? w _ k0)]; exact k0, by rw [hb.cell (p := ⟨b, off + i * 3 + 1, none⟩) (World.block_lt_of_cell? w _ k1)]; exact k1, by rw [hb.cell (p := ⟨b, off + i * 3 + 2, none⟩) (World.block_lt_of_cell? w _ k2)]; exact k2⟩
/-- Entry i as it must be. -/
def EnOk (l : List En) (i : Nat) : Prop := 0 ≤ (enAt l i).h ∧ 65536 ≤ (enAt l i).lo ∧ (enAt l i).hi ≤ 2097152 ∧ (enAt l i).lo < (enAt l i).hi ∧ (enAt l i).lo.tmod 4096 = 0 ∧ (enAt l i).hi.tmod 4096 = 0 ∧ (0 < i → (enAt l (i - 1)).hi = (enAt l i).lo)
def Formed18 (l : List En) : Prop := (∀ i, i < l.length → EnOk l i) ∧ 1 ≤ l.length ∧ l.length ≤ 64
theorem formed_chain {l : List En} (h : Formed18 l) : Chain l := by
  refine ⟨fun i hi => ?_, fun i hi => ?_⟩
  · obtain ⟨a1, a2, a3, a4, a5, a6, _⟩ := h.1 i hi
    exact ⟨a1, a2, a3, a4, a5, a6⟩
  · exact (h.1 (i + 1) hi).2.2.2.2.2.2 (by omega)
theorem chain_formed {l : List En} (h : Chain l) (h1 : 1 ≤ l.length) (h2 : l.length ≤ 64) : Formed18 l := by
  refine ⟨fun i hi => ?_, h1, h2⟩
  obtain ⟨a1, a2, a3, a4, a5, a6⟩ := h.one i hi
  refine ⟨a1, a2, a3, a4, a5, a6, fun h0 => ?_⟩
  have := h.next (i - 1) (by omega)
  rw [show i - 1 + 1 = i by omega] at this
  exact this
set_option maxRecDepth 10000 in
set_option maxHeartbeats 8000000 in
theorem refFormed18_c {w : World} {v : Value} {l : List En} (h : Ens w v l) (hl : l.length ≤ 1000) {r : Bool} (hr : Tells r (Formed18 l)) : Calls Try.prog 22 #[v] w fun e w' => e = .returned (.bool r) ∧ Below w.heap.size w w' := by
  obtain ⟨A, c, rfl, hc, hA⟩ := h
  have CA : Hid (∀ W, Below w.heap.size w W → ∀ i, i < l.length → ∃ b off, A = some ⟨b, off, none⟩ ∧ W.cell? ⟨b, off + i * 3, none⟩ = some (.int .i64 (enAt l i).lo) ∧ W.cell? ⟨b, off + i * 3 + 1, none⟩ = some (.int .i64 (enAt l i).hi) ∧ W.cell? ⟨b, off + i * 3 + 2, none⟩ = some (.int .i64 (enAt l i).h)) := Lib.hid (fun W hb i hi => by
    obtain ⟨b, off, rfl, k⟩ := hA (by omega)
    obtain ⟨k0, k1, k2⟩ := k i hi
    exact ⟨b, off, rfl, by rw [hb.cell (p := ⟨b, off + i * 3, none⟩) (World.block_lt_of_cell? w _ k0)]; exact k0, by rw [hb.cell (p := ⟨b, off + i * 3 + 1, none⟩) (World.block_lt_of_cell? w _ k1)]; exact k1, by rw [hb.cell (p := ⟨b, off + i * 3 + 2, none⟩) (World.block_lt_of_cell? w _ k2)]; exact k2⟩)
  clear hA
  obtain ⟨R, hR⟩ : ∃ R : Ending → World → Prop, (fun e w' => e = .returned (.bool r) ∧ Below w.heap.size w w') = R := ⟨_, rfl⟩
  rw [hR]
  have NO : Hid (¬ Formed18 l → ∀ W, Below w.heap.size w W → R (.returned (.bool false)) W) := Lib.hid (fun hn W hb => by
    have e : r = false := by cases r with | false => rfl | true => exact (hn (hr.1 rfl)).elim
    rw [← hR, e]
    exact ⟨rfl, hb⟩)
  have YES : Hid (Formed18 l → ∀ W, Below w.heap.size w W → R (.returned (.bool true)) W) := Lib.hid (fun hy W hb => by
    rw [← hR, hr.2 hy]
    exact ⟨rfl, hb⟩)
  clear hR hr hc
  obtain ⟨n, hn⟩ : ∃ n, l.length = n := ⟨_, rfl⟩
  have HN := Lib.hid hn
  rw [hn] at hl CA ⊢
  clear hn
  go_enter Try.func22, Try.ntmps22
  go_wp2_with fail
  go_loopw [3] (fun iv wr => ∃ i : Nat, i ≤ n ∧ iv = .int .i64 i ∧ Below w.heap.size w wr ∧ ∀ j, j < i → EnOk l j) (fun iv _ => n - (intOf iv).toNat)
  case atStart => exact ⟨0, by omega, rfl, Below.refl _ _, fun j hj => by omega⟩
  case round =>
    obtain ⟨i, hi, rfl, hb, hj⟩ := hrel
    have hi8 : (i : Int) ≤ 1000 := by omega
    by_cases hlt : i < n
    · have j1 : (i : Int) < (n : Int) := by omega
      obtain ⟨b, off, rfl, k0, k1, k2⟩ := CA.out wr hb i hlt
      have PV : Hid (0 < i → ∃ p : Int, (enAt l (i - 1)).hi = p ∧ wr.cell? ⟨b, off + (i - 1) * 3 + 1, none⟩ = some (.int .i64 p)) := Lib.hid (fun h0 => by
        obtain ⟨b', off', e, q0, q1, q2⟩ := CA.out wr hb (i - 1) (by omega)
        injection e with e
        injection e with e1 e2
        subst e1 e2
        exact ⟨_, rfl, q1⟩)
      have HB := Lib.hid (fun o => below_then hb (below_new wr o) (Nat.le_refl _))
      have HJ := Lib.hid hj
      have BAD : Hid (¬ EnOk l i → ∀ W, Below w.heap.size w W → R (.returned (.bool false)) W) := Lib.hid (fun hn W hb => NO.out (fun h => hn (h.1 i (by rw [HN.out]; exact hlt))) W hb)
      have GOOD : Hid (EnOk l i → ∀ j, j < i + 1 → EnOk l j) := Lib.hid (fun h j hj => by
        by_cases e : j = i
        · subst e; exact h
        · exact HJ.out j (by omega))
      have EK : Hid (EnOk l i ↔ (0 ≤ (enAt l i).h ∧ 65536 ≤ (enAt l i).lo ∧ (enAt l i).hi ≤ 2097152 ∧ (enAt l i).lo < (enAt l i).hi ∧ (enAt l i).lo.tmod 4096 = 0 ∧ (enAt l i).hi.tmod 4096 = 0 ∧ (0 < i → (enAt l (i - 1)).hi = (enAt l i).lo))) := Lib.hid Iff.rfl
      clear hb hj NO YES HJ
      generalize enAt l i = en at *
      obtain ⟨lo, hi', eh⟩ := en
      simp only at k0 k1 k2 EK
      have hwl : ∀ x : Int, IntKind.i64.wrap (x.tmod 4096) = x.tmod 4096 := fun x => by
        have h1 := Int.lt_tmod_of_pos x (show (0 : Int) < 4096 by omega)
        have h2 := Int.tmod_lt_of_pos x (show (0 : Int) < 4096 by omega)
        rw [IntKind.wrap_i64]; omega
      have hw1 := hwl lo
      have hw2 := hwl hi'
      clear hwl
      obtain ⟨rl, hrl⟩ : ∃ rl, lo.tmod 4096 = rl := ⟨_, rfl⟩
      obtain ⟨rh, hrh⟩ : ∃ rh, hi'.tmod 4096 = rh := ⟨_, rfl⟩
      rw [hrl] at hw1 EK
      rw [hrh] at hw2 EK
      by_cases c1 : eh < 0
      · have FX := Lib.hid (fun o => BAD.out (fun h => by have := EK.out.1 h; omega) _ (HB.out o))
        skip
        clear BAD GOOD EK HB PV CA
        go_wp2_with fail
        exact FX.out _
      · skip
        by_cases c2 : lo < 65536
        · have FX := Lib.hid (fun o => BAD.out (fun h => by have := EK.out.1 h; omega) _ (HB.out o))
          skip
          clear BAD GOOD EK HB PV CA
          go_wp2_with fail
          exact FX.out _
        · skip
          by_cases c3 : 2097152 < hi'
          · have FX := Lib.hid (fun o => BAD.out (fun h => by have := EK.out.1 h; omega) _ (HB.out o))
            skip
            clear BAD GOOD EK HB PV CA
            go_wp2_with fail
            exact FX.out _
          · skip
            by_cases c4 : hi' ≤ lo
            · have FX := Lib.hid (fun o => BAD.out (fun h => by have := EK.out.1 h; omega) _ (HB.out o))
              skip
              clear BAD GOOD EK HB PV CA
              go_wp2_with fail
              exact FX.out _
            · skip
              by_cases c5 : rl ≠ 0
              · have FX := Lib.hid (fun o => BAD.out (fun h => by have := EK.out.1 h; omega) _ (HB.out o))
                have d5 : (rl != 0) = true := bne_iff_ne.2 c5
                clear BAD GOOD EK HB PV CA
                go_wp2_with fail
                exact FX.out _
              · have d5 : (rl != 0) = false := by simp; omega
                by_cases c6 : rh ≠ 0
                · have FX := Lib.hid (fun o => BAD.out (fun h => by have := EK.out.1 h; omega) _ (HB.out o))
                  have d6 : (rh != 0) = true := bne_iff_ne.2 c6
                  clear BAD GOOD EK HB PV CA
                  go_wp2_with fail
                  exact FX.out _
                · have d6 : (rh != 0) = false := by simp; omega
                  by_cases c0 : 0 < i
                  · obtain ⟨p, hp, kp⟩ := PV.out c0
                    have q0 : decide ((0 : Int) < (i : Int)) = true := decide_eq_true (by omega)
                    have q1 : (0 : Int) < (i : Int) := by omega
                    obtain ⟨m, rfl⟩ : ∃ m, i = m + 1 := ⟨i - 1, by omega⟩
                    rw [show m + 1 - 1 = m by omega] at hp kp
                    have kp2 : (wr.alloc (.cells #[.int .i64 lo, .int .i64 hi', .int .i64 eh] 44)).cell? ⟨b, off + m * 3 + 1, none⟩ = some (.int .i64 p) := box_cell _ _ _ _ kp
                    have hwm : IntKind.i64.wrap (((m + 1 : Nat) : Int) - 1) = (m : Int) := by rw [IntKind.wrap_i64]; omega
                    have hwm2 : wrap64 (((m : Int) + 1) - 1) = (m : Int) := by unfold wrap64; omega
                    have mlt : (m : Int) < (n : Int) := by omega
                    by_cases c7 : p = lo
                    · have d7 : (p != lo) = false := by simp; exact c7
                      have NX := Lib.hid (GOOD.out (EK.out.2 ⟨by omega, by omega, by omega, by omega, by omega, by omega, fun _ => hp.trans c7⟩))
                      have HD := Lib.hid (fun o q => below_then (HB.out o) (below_drewN (Below.refl _ _) q) (Nat.le_refl _))
                      clear BAD GOOD EK PV HB
                      go_upto_region 7 with (fail)
                      go_quiet (fail)
                      go_wp2_with fail
                      go_roundw
                      case rel => exact ⟨m + 1 + 1, by omega, by go_num, HD.out _ _, NX.out⟩
                      case measure => simp [intOf]; omega
                    · have d7 : (p != lo) = true := bne_iff_ne.2 c7
                      have FX := Lib.hid (fun o q => BAD.out (fun h => c7 (hp.symm.trans ((EK.out.1 h).2.2.2.2.2.2 c0))) _ (below_then (HB.out o) (below_drewN (Below.refl _ _) q) (Nat.le_refl _)))
                      clear BAD GOOD EK PV HB
                      go_upto_region 7 with (fail)
                      go_quiet (fail)
                      go_wp2_with fail
                      exact FX.out _ _
                  · have q0 : decide ((0 : Int) < (i : Int)) = false := decide_eq_false (by omega)
                    have NX := Lib.hid (GOOD.out (EK.out.2 ⟨by omega, by omega, by omega, by omega, by omega, by omega, fun h => absurd h c0⟩))
                    have HD := Lib.hid (fun o q => below_then (HB.out o) (below_drewN (Below.refl _ _) q) (Nat.le_refl _))
                    clear BAD GOOD EK PV HB
                    go_upto_region 7 with (fail)
                    go_quiet (fail)
                    go_wp2_with fail
                    go_roundw
                    case rel => exact ⟨i + 1, by omega, by go_num, HD.out _ _, NX.out⟩
                    case measure => simp [intOf]; omega
    · have e : i = n := by omega
      subst e
      have j1 : ¬ (i : Int) < (i : Int) := by omega
      by_cases h0 : 0 < i
      · have q0 : decide ((0 : Int) < (i : Int)) = true := decide_eq_true (by omega)
        by_cases h64 : i ≤ 64
        · have q1 : decide ((i : Int) ≤ 64) = true := decide_eq_true (by omega)
          have FX := Lib.hid (YES.out ⟨fun j hj' => hj j (by rw [← HN.out]; exact hj'), by rw [HN.out]; omega, by rw [HN.out]; exact h64⟩ _ hb)
          clear YES NO CA hb hj
          go_wp2_with fail
          exact FX.out
        · have q1 : decide ((i : Int) ≤ 64) = false := decide_eq_false (by omega)
          have FX := Lib.hid (NO.out (fun h => h64 (by have := h.2.2; rw [HN.out] at this; exact this)) _ hb)
          clear YES NO CA hb hj
          go_wp2_with fail
          exact FX.out
      · have q0 : decide ((0 : Int) < (i : Int)) = false := decide_eq_false (by omega)
        have FX := Lib.hid (NO.out (fun h => h0 (by have := h.2.1; rw [HN.out] at this; omega)) _ hb)
        clear YES NO CA hb hj
        go_wp2_with fail
        exact FX.out
end Go.Proofs.Ytejkhnphplpkeaa
