/-
  Texts of our own, one behind the other (BdLeaf): what the laws' proofs rest on; each says at its head what it holds. No conditions.
-/
import Derived.Test.YtejkhnphplpkeaaPkZn
/-
  Layer 18: whether entries are a tree's; entries as leaves have them.
-/
namespace Go.Proofs.Ytejkhnphplpkeaa
open Go.ChangeShapes Go.WideShapes Go.ChangeAt Go.RowKit
set_option linter.unusedVariables false

set_option maxRecDepth 10000 in
set_option maxHeartbeats 8000000 in
theorem right18_c {w : World} {v : Value} {l : List En} (h : Ens w v l) (hl : l.length ≤ 1000) {r : Bool} (hr : Tells r (Formed18 l)) : Calls Try.prog 39 #[v] w fun e w' => e = .returned (.bool r) ∧ Below w.heap.size w w' := by
  obtain ⟨A, c, rfl, hc, hA⟩ := h
  have CA : Hid (∀ W, Below w.heap.size w W → ∀ i, i < l.length → ∃ b off, A = some ⟨b, off, none⟩ ∧ W.cell? ⟨b, off + i * 3, none⟩ = some (.int .i64 (enAt l i).lo) ∧ W.cell? ⟨b, off + i * 3 + 1, none⟩ = some (.int .i64 (enAt l i).hi) ∧ W.cell? ⟨b, off + i * 3 + 2, none⟩ = some (.int .i64 (enAt l i).h)) := Lib.hid (fun W hb i hi => by
    obtain ⟨b, off, rfl, k⟩ := hA (by omega)
    obtain ⟨k0, k1, k2⟩ := k i hi
    exact ⟨b, off, rfl, by rw [hb.cell (p := ⟨b, off + i * 3, none⟩) (World.block_lt_of_cell? w _ k0)]; exact k0, by rw [hb.cell (p := ⟨b, off + i * 3 + 1, none⟩) (World.block_lt_of_cell? w _ k1)]; exact k1, by rw [hb.cell (p := ⟨b, off + i * 3 + 2, none⟩) (World.block_lt_of_cell? w _ k2)]; exact k2⟩)
  clear hA
  obtain ⟨R, hR⟩ : ∃ R : Ending → World → Prop, (fun e w' => e = .returned (.bool r) ∧ Below w.heap.size w w') = R := ⟨_, rfl⟩
  rw [hR]
  have NO : Hid (¬ Formed18 l → ∀ W, Below w.heap.size w W → R (.returned (.bool false)) W) := Lib.hid (fun hn W hb => by
    have e : r = false := by cases r with | false => rfl | true => exact (hn (hr.1 rfl)).elim
    rw [← hR, e]
    exact ⟨rfl, hb⟩)
  have YES : Hid (Formed18 l → ∀ W, Below w.heap.size w W → R (.returned (.bool true)) W) := Lib.hid (fun hy W hb => by
    rw [← hR, hr.2 hy]
    exact ⟨rfl, hb⟩)
  clear hR hr hc
  obtain ⟨n, hn⟩ : ∃ n, l.length = n := ⟨_, rfl⟩
  have HN := Lib.hid hn
  rw [hn] at hl CA ⊢
  clear hn
  by_cases h1 : n < 1
  · have j1 : (n : Int) < 1 := by omega
    have FX := Lib.hid (NO.out (fun h => by have := h.2.1; rw [HN.out] at this; omega) _ (Below.refl _ _))
    clear NO YES CA
    go_enter Try.func39, Try.ntmps39
    go_wp2_with fail
    exact FX.out
  have j1 : decide ((n : Int) < 1) = false := decide_eq_false (by omega)
  have j1' : ¬ (n : Int) < 1 := by omega
  by_cases h64 : 64 < n
  · have j2 : (64 : Int) < (n : Int) := by omega
    have FX := Lib.hid (NO.out (fun h => by have := h.2.2; rw [HN.out] at this; omega) _ (Below.refl _ _))
    clear NO YES CA
    go_enter Try.func39, Try.ntmps39
    go_wp2_with fail
    exact FX.out
  have j2 : decide ((64 : Int) < (n : Int)) = false := decide_eq_false (by omega)
  have j2' : ¬ (64 : Int) < (n : Int) := by omega
  obtain ⟨b, off, rfl, e0, e1, e2⟩ := CA.out w (Below.refl _ _) 0 (by omega)
  obtain ⟨lo0, hlo0⟩ : ∃ lo0, (enAt l 0).lo = lo0 := ⟨_, rfl⟩
  rw [hlo0, Nat.zero_mul, Nat.add_zero] at e0
  have HL0 := Lib.hid hlo0
  have j0 : (0 : Int) < (n : Int) := by omega
  clear e1 e2 hlo0
  by_cases hlo : lo0 < 65536
  · have FX := Lib.hid (NO.out (fun h => by have := (h.1 0 (by rw [HN.out]; omega)).2.1; rw [HL0.out] at this; omega) _ (Below.refl _ _))
    clear NO YES CA
    go_enter Try.func39, Try.ntmps39
    go_wp2_with fail
    exact FX.out
  go_enter Try.func39, Try.ntmps39
  go_wp2_with fail
  go_loopw [3, 5, 27] (fun fv _ iv wr => ∃ (i : Nat) (f : Int), i ≤ n ∧ iv = .int .i64 i ∧ fv = .int .i64 f ∧ 65536 ≤ f ∧ (i = 0 → f = lo0) ∧ (0 < i → (enAt l (i - 1)).hi = f) ∧ Below w.heap.size w wr ∧ ∀ j, j < i → EnOk l j) (fun _ _ iv _ => n - (intOf iv).toNat)
  case atStart => exact ⟨0, lo0, by omega, rfl, rfl, by omega, fun _ => rfl, fun h => by omega, Below.refl _ _, fun j hj => by omega⟩
  case round =>
    obtain ⟨i, f, hi, rfl, rfl, hf, hf0, hf1, hb, hj⟩ := hrel
    by_cases hlt : i < n
    · have k1' : (i : Int) < (n : Int) := by omega
      obtain ⟨b', off', e, k0, k1, k2⟩ := CA.out wr hb i hlt
      injection e with e
      injection e with e1 e2
      subst e1
      subst e2
      have HB := Lib.hid (fun o => below_then hb (below_new wr o) (Nat.le_refl _))
      have HJ := Lib.hid hj
      have BAD : Hid (¬ EnOk l i → ∀ W, Below w.heap.size w W → R (.returned (.bool false)) W) := Lib.hid (fun hn W hb => NO.out (fun h => hn (h.1 i (by rw [HN.out]; exact hlt))) W hb)
      have GOOD : Hid (EnOk l i → ∀ j, j < i + 1 → EnOk l j) := Lib.hid (fun h j hj => by
        by_cases e : j = i
        · subst e; exact h
        · exact HJ.out j (by omega))
      have EK : Hid (EnOk l i ↔ (0 ≤ (enAt l i).h ∧ 65536 ≤ (enAt l i).lo ∧ (enAt l i).hi ≤ 2097152 ∧ (enAt l i).lo < (enAt l i).hi ∧ (enAt l i).lo.tmod 4096 = 0 ∧ (enAt l i).hi.tmod 4096 = 0 ∧ (0 < i → (enAt l (i - 1)).hi = (enAt l i).lo))) := Lib.hid Iff.rfl
      have HF1 : Hid (0 < i → (enAt l (i - 1)).hi = f) := Lib.hid hf1
      have HF0 : Hid (i = 0 → f = (enAt l i).lo) := Lib.hid (fun h => by subst h; rw [HL0.out]; exact hf0 rfl)
      have NXE : Hid (0 < i + 1 → (enAt l (i + 1 - 1)).hi = (enAt l i).hi) := Lib.hid (fun _ => rfl)
      clear hb hj NO YES HJ CA hf0 hf1
      generalize enAt l i = en at *
      obtain ⟨lo, hi', eh⟩ := en
      simp only at k0 k1 k2 EK HF0 NXE
      have hwl : ∀ x : Int, IntKind.i64.wrap (x.tmod 4096) = x.tmod 4096 := fun x => by
        have h1 := Int.lt_tmod_of_pos x (show (0 : Int) < 4096 by omega)
        have h2 := Int.tmod_lt_of_pos x (show (0 : Int) < 4096 by omega)
        rw [IntKind.wrap_i64]; omega
      have hw1 := hwl lo
      have hw2 := hwl hi'
      clear hwl
      obtain ⟨rl, hrl⟩ : ∃ rl, lo.tmod 4096 = rl := ⟨_, rfl⟩
      obtain ⟨rh, hrh⟩ : ∃ rh, hi'.tmod 4096 = rh := ⟨_, rfl⟩
      rw [hrl] at hw1 EK
      rw [hrh] at hw2 EK
      by_cases c1 : lo = f
      · subst c1
        have d1 : (lo != lo) = false := by simp
        by_cases c2 : hi' ≤ lo
        · have FX := Lib.hid (fun o => BAD.out (fun h => by have := EK.out.1 h; omega) _ (HB.out o))
          clear BAD GOOD EK HB HF0 HF1 NXE
          go_wp2_with fail
          exact FX.out _
        · by_cases c3 : 2097152 < hi'
          · have FX := Lib.hid (fun o => BAD.out (fun h => by have := EK.out.1 h; omega) _ (HB.out o))
            clear BAD GOOD EK HB HF0 HF1 NXE
            go_wp2_with fail
            exact FX.out _
          · by_cases c4 : eh < 0
            · have FX := Lib.hid (fun o => BAD.out (fun h => by have := EK.out.1 h; omega) _ (HB.out o))
              clear BAD GOOD EK HB HF0 HF1 NXE
              go_wp2_with fail
              exact FX.out _
            · have d4 : decide (eh < 0) = false := decide_eq_false c4
              by_cases c5 : rl ≠ 0
              · have FX := Lib.hid (fun o => BAD.out (fun h => by have := EK.out.1 h; omega) _ (HB.out o))
                have d5 : (rl != 0) = true := bne_iff_ne.2 c5
                clear BAD GOOD EK HB HF0 HF1 NXE
                go_wp2_with fail
                exact FX.out _
              · have d5 : (rl != 0) = false := by simp; omega
                by_cases c6 : rh ≠ 0
                · have FX := Lib.hid (fun o => BAD.out (fun h => by have := EK.out.1 h; omega) _ (HB.out o))
                  have d6 : (rh != 0) = true := bne_iff_ne.2 c6
                  clear BAD GOOD EK HB HF0 HF1 NXE
                  go_wp2_with fail
                  exact FX.out _
                · have d6 : (rh != 0) = false := by simp; omega
                  have NX := Lib.hid (GOOD.out (EK.out.2 ⟨by omega, by omega, by omega, by omega, by omega, by omega, fun h => HF1.out h⟩))
                  have NB := Lib.hid (fun o => HB.out o)
                  clear BAD GOOD EK HB HF0 HF1
                  go_wp2_with fail
                  go_roundw
                  case rel => exact ⟨i + 1, hi', by omega, by go_num, rfl, by omega, fun h => by omega, NXE.out, NB.out _, NX.out⟩
                  case measure => simp [intOf]; omega
      · have d1 : (lo != f) = true := bne_iff_ne.2 c1
        have FX := Lib.hid (fun o => BAD.out (fun h => by
          have h7 := (EK.out.1 h).2.2.2.2.2.2
          by_cases h0 : 0 < i
          · exact c1 ((h7 h0).symm.trans (HF1.out h0))
          · exact c1 (HF0.out (by omega)).symm) _ (HB.out o))
        clear BAD GOOD EK HB HF0 HF1 NXE
        go_wp2_with fail
        exact FX.out _
    · have e : i = n := by omega
      subst e
      have k1 : ¬ (i : Int) < (i : Int) := by omega
      have FX := Lib.hid (YES.out ⟨fun j hj' => hj j (by rw [← HN.out]; exact hj'), by rw [HN.out]; omega, by rw [HN.out]; omega⟩ _ hb)
      clear YES NO CA hb hj hf0 hf1
      go_wp2_with fail
      exact FX.out

/-! As leaves have them. -/
def gapE (e : En) : Int := if e.h = 0 then e.hi - e.lo else 0
def leafU (l : List En) : List Up := l.map fun e => ⟨e.lo, e.hi, e.h, gapE e⟩
theorem leafU_len (l : List En) : (leafU l).length = l.length := by simp [leafU]
theorem leafU_at {l : List En} {i : Nat} (h : i < l.length) : upAt (leafU l) i = ⟨(enAt l i).lo, (enAt l i).hi, (enAt l i).h, gapE (enAt l i)⟩ := by
  unfold upAt leafU enAt
  rw [List.getD_eq_getElem?_getD, List.getElem?_map, List.getD_eq_getElem?_getD, List.getElem?_eq_getElem h]
  rfl
theorem leafU_nd {l : List En} (h1 : 1 ≤ l.length) : ndU false (leafU l) = leafN l := by
  unfold ndU leafN
  rw [leafU_at (by omega)]
  unfold leafU
  rw [List.map_map, List.map_map, List.map_map]
  rfl
theorem bentry_info : (Try.prog.info? 124).map (fun i => (i.zero, i.size, i.bytes)) = some (some (.agg #[.int .i64 0, .int .i64 0, .int .i64 0, .int .i64 0]), 4, 32) := by kernel_rfl
theorem bentry_info' : ∃ i0, Try.prog.info? 124 = some i0 ∧ i0.zero = some (.agg #[.int .i64 0, .int .i64 0, .int .i64 0, .int .i64 0]) ∧ i0.size = 4 ∧ i0.bytes = 32 := by
  obtain ⟨i0, h1, h2⟩ := Option.map_eq_some_iff.1 bentry_info
  simp only [Prod.mk.injEq] at h2
  exact ⟨i0, h1, h2.1, h2.2.1, h2.2.2⟩
set_option maxRecDepth 10000 in
set_option maxHeartbeats 8000000 in
theorem leafEntries_c {w : World} {v : Value} {l : List En} (h : Ens w v l) (hl : l.length ≤ 64) (hc : ∀ i, i < l.length → 0 ≤ (enAt l i).lo ∧ (enAt l i).lo ≤ (enAt l i).hi ∧ (enAt l i).hi ≤ 2097152) : Calls Try.prog 41 #[v] w fun e w' => ∃ v', e = .returned v' ∧ Ups w.heap.size w' v' (leafU l) ∧ Below w.heap.size w w' := by
  obtain ⟨A, c, rfl, _, hA⟩ := h
  have CA : Hid (∀ W, Below w.heap.size w W → ∀ i, i < l.length → ∃ b off, A = some ⟨b, off, none⟩ ∧ W.cell? ⟨b, off + i * 3, none⟩ = some (.int .i64 (enAt l i).lo) ∧ W.cell? ⟨b, off + i * 3 + 1, none⟩ = some (.int .i64 (enAt l i).hi) ∧ W.cell? ⟨b, off + i * 3 + 2, none⟩ = some (.int .i64 (enAt l i).h)) := Lib.hid (fun W hb i hi => by
    obtain ⟨b, off, rfl, k⟩ := hA (by omega)
    obtain ⟨k0, k1, k2⟩ := k i hi
    exact ⟨b, off, rfl, by rw [hb.cell (p := ⟨b, off + i * 3, none⟩) (World.block_lt_of_cell? w _ k0)]; exact k0, by rw [hb.cell (p := ⟨b, off + i * 3 + 1, none⟩) (World.block_lt_of_cell? w _ k1)]; exact k1, by rw [hb.cell (p := ⟨b, off + i * 3 + 2, none⟩) (World.block_lt_of_cell? w _ k2)]; exact k2⟩)
  clear hA
  obtain ⟨R, hR⟩ : ∃ R : Ending → World → Prop, (fun e w' => ∃ v', e = .returned v' ∧ Ups w.heap.size w' v' (leafU l) ∧ Below w.heap.size w w') = R := ⟨_, rfl⟩
  rw [hR]
  have FIN : Hid (∀ v W, Ups w.heap.size W v ((leafU l).take l.length) → Below w.heap.size w W → R (.returned v) W) := Lib.hid (fun v W h1 h2 => by rw [← leafU_len, List.take_length] at h1; rw [← hR]; exact ⟨v, rfl, h1, h2⟩)
  clear hR
  have AT : Hid (∀ i, i < l.length → upAt (leafU l) i = ⟨(enAt l i).lo, (enAt l i).hi, (enAt l i).h, gapE (enAt l i)⟩) := Lib.hid (fun i hi => leafU_at hi)
  have LN := Lib.hid (leafU_len l)
  have HC := Lib.hid hc
  clear hc
  obtain ⟨j0, hj0, hjz0, hjz1, hjz2⟩ := bentry_info'
  generalize leafU l = U at *
  obtain ⟨n, hn⟩ : ∃ n, l.length = n := ⟨_, rfl⟩
  rw [hn] at hl CA FIN AT LN HC ⊢
  clear hn
  go_enter Try.func41, Try.ntmps41
  go_wp2_with fail
  go_loopw [3, 5, 6, 9] (fun ov _ _ iv wr => ∃ i : Nat, i ≤ n ∧ iv = .int .i64 i ∧ Ups w.heap.size wr ov (U.take i) ∧ Below w.heap.size w wr) (fun _ _ _ iv _ => n - (intOf iv).toNat)
  case atStart => exact ⟨0, by omega, rfl, Ups.nil _ _, Below.refl _ _⟩
  case round =>
    obtain ⟨i, hi, rfl, hm, hb⟩ := hrel
    have hi8 : (i : Int) ≤ 64 := by omega
    obtain ⟨B1, c1, rfl⟩ := own_slice hm
    have HM := Lib.hid hm
    have HB := Lib.hid hb
    have LI : Hid ((U.take i).length = i) := Lib.hid (by rw [List.length_take, LN.out]; omega)
    rw [LI.out]
    by_cases hlt : i < n
    · have j1 : (i : Int) < (n : Int) := by omega
      obtain ⟨b, off, rfl, k0, k1, k2⟩ := CA.out wr hb i hlt
      have cc := HC.out i hlt
      have ST : Hid (U.take (i + 1) = U.take i ++ [upAt U i]) := Lib.hid (take_up (by rw [LN.out]; exact hlt))
      rw [AT.out i hlt] at ST
      have HG : Hid (gapE (enAt l i) = if (enAt l i).h = 0 then (enAt l i).hi - (enAt l i).lo else 0) := Lib.hid rfl
      clear CA HC AT hm hb FIN
      generalize enAt l i = en at *
      generalize gapE en = g at *
      obtain ⟨lo, hi', eh⟩ := en
      simp only at k0 k1 k2 cc HG ST
      have hw : IntKind.i64.wrap (hi' - lo) = hi' - lo := by rw [IntKind.wrap_i64]; omega
      have HX := Lib.hid (Whole.new wr 44 #[.int .i64 lo, .int .i64 hi', .int .i64 eh])
      have HBX := Lib.hid (below_new wr (.cells #[.int .i64 lo, .int .i64 hi', .int .i64 eh] 44))
      have HMX := Lib.hid (own_still HM.out HBX.out)
      have HB2 := Lib.hid (below_then HB.out HBX.out (Nat.le_refl _))
      rw [LI.out] at HMX
      go_upto_region 5 with (fail)
      obtain ⟨wE, hwE⟩ : ∃ wE, wr.alloc (.cells #[.int .i64 lo, .int .i64 hi', .int .i64 eh] 44) = wE := ⟨_, rfl⟩
      rw [hwE] at HX HMX HB2 ⊢
      obtain ⟨qe, hqe⟩ : ∃ qe, wr.heap.size = qe := ⟨_, rfl⟩
      rw [hqe] at HX ⊢
      have z0 : wE.cell? ⟨qe, 0, none⟩ = some (.int .i64 lo) := HX.out.cell 0
      have z1 : wE.cell? ⟨qe, 1, none⟩ = some (.int .i64 hi') := HX.out.cell 1
      have z2 : wE.cell? ⟨qe, 2, none⟩ = some (.int .i64 eh) := HX.out.cell 2
      clear k0 k1 k2 HM HB HBX hwE hqe HX
      have SE : w.heap.size ≤ wE.heap.size := HB2.out.size
      have LT : Hid (∀ k, (Value.slice B1 i c1).ownBlock = some k → w.heap.size ≤ k) := Lib.hid (fun k hk => (World.ownsRow.lt HMX.out k hk).1)
      by_cases hz : eh = 0
      · rw [if_pos hz] at HG
        have jz : (eh == 0) = true := beq_iff_eq.2 hz
        have HGG := HG.out
        subst HGG
        subst hz
        go_wp2_with (at_builtin; refine wpList_append_lies _ rfl (.tmp 21) (.tmp 25) _ rfl w.heap.size 124 j0 _ 4 32 Try.underlying77 hj0 hjz0 hjz1 hjz2 rfl (by omega) _ i _ rfl (HMX.out.alloc _) ⟨wE.heap.size, 0, none⟩ 1 1 [.int .i64 lo, .int .i64 hi', .int .i64 0, .int .i64 (hi' - lo)] rfl rfl (World.news_of_block (cs := #[.int .i64 lo, .int .i64 hi', .int .i64 0, .int .i64 (hi' - lo)]) (t := 124) (fr := (0, 0)) (heap_alloc_new wE _)) (by simp [Value.oneCell']) (by omega) (by simp only [maxLen]; omega) (by omega) (by simp; omega) (wE.heap.size + 1) (by simp) ?_; intro gg cap w3 hown hgrow hat hlt3)
        have NX : Hid (Ups w.heap.size w3 (.slice (some ⟨gg, 0, none⟩) (i + 1) cap) (U.take (i + 1))) := Lib.hid (by
          unfold Ups
          rw [ST.out, List.length_append, LI.out, upC_app]
          exact hown)
        have NB : Hid (Below w.heap.size w w3) := Lib.hid ((HB2.out.alloc SE _).grown hgrow (by simp; omega) (fun k hk => LT.out k hk))
        clear hown hgrow hat hlt3 HMX HB2
        go_roundw
        case rel => exact ⟨i + 1, by omega, by go_num, NX.out, NB.out⟩
        case measure => simp [intOf]; omega
      · rw [if_neg hz] at HG
        have jz : (eh == 0) = false := beq_eq_false_iff_ne.2 hz
        have HGG := HG.out
        subst HGG
        go_wp2_with (at_builtin; refine wpList_append_lies _ rfl (.tmp 21) (.tmp 25) _ rfl w.heap.size 124 j0 _ 4 32 Try.underlying77 hj0 hjz0 hjz1 hjz2 rfl (by omega) _ i _ rfl (HMX.out.alloc _) ⟨wE.heap.size, 0, none⟩ 1 1 [.int .i64 lo, .int .i64 hi', .int .i64 eh, .int .i64 0] rfl rfl (World.news_of_block (cs := #[.int .i64 lo, .int .i64 hi', .int .i64 eh, .int .i64 0]) (t := 124) (fr := (0, 0)) (heap_alloc_new wE _)) (by simp [Value.oneCell']) (by omega) (by simp only [maxLen]; omega) (by omega) (by simp; omega) (wE.heap.size + 1) (by simp) ?_; intro gg cap w3 hown hgrow hat hlt3)
        have NX : Hid (Ups w.heap.size w3 (.slice (some ⟨gg, 0, none⟩) (i + 1) cap) (U.take (i + 1))) := Lib.hid (by
          unfold Ups
          rw [ST.out, List.length_append, LI.out, upC_app]
          exact hown)
        have NB : Hid (Below w.heap.size w w3) := Lib.hid ((HB2.out.alloc SE _).grown hgrow (by simp; omega) (fun k hk => LT.out k hk))
        clear hown hgrow hat hlt3 HMX HB2
        go_roundw
        case rel => exact ⟨i + 1, by omega, by go_num, NX.out, NB.out⟩
        case measure => simp [intOf]; omega
    · have e : i = n := by omega
      subst e
      have j1 : ¬ (i : Int) < (i : Int) := by omega
      have FX := Lib.hid (FIN.out _ _ hm hb)
      rw [LI.out] at FX
      clear FIN hm hb HM HB CA HC
      go_wp2_with fail
      exact FX.out
end Go.Proofs.Ytejkhnphplpkeaa
