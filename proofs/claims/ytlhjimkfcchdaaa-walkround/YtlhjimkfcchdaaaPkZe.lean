/-
  Texts of our own, one behind the other (WkWords, WkLaw): what the laws' proofs rest on; each says at its head what it holds. No conditions.
-/
import Derived.Test.YtlhjimkfcchdaaaPkYc
import Derived.Test.YtlhjimkfcchdaaaPkZa
import Derived.Test.YtlhjimkfcchdaaaPkWj
import Derived.Deep.AppendLies
import Derived.Deep.RegionLaw
import Derived.Test.YtlhjimkfcchdaaaPkZd
import Derived.Test.YtlhjimkfcchdaaaPkWf
/-
  Layer 17: the laws' words: rows of whatever came, cut or filled up to 28 each; and the slots that have them.
-/
namespace Go.Proofs.Ytlhjimkfcchdaaa
open Go.ChangeShapes Go.WideShapes Go.ChangeAt Go.RowKit
set_option linter.unusedVariables false

section
variable {w : World} {v : Value} {ls : List (List Int)}
theorem Wss.still {w' : World} (h : Wss w v ls) (hb : Below w.heap.size w w') : Wss w' v ls := by
  obtain ⟨A, c, rfl, hc, hA⟩ := h
  refine ⟨A, c, rfl, hc, fun h0 => ?_⟩
  obtain ⟨b, off, rfl, hr⟩ := hA h0
  refine ⟨b, off, rfl, fun i hi => ?_⟩
  obtain ⟨u, hu, hw⟩ := hr i hi
  exact ⟨u, by rw [hb.cell (p := ⟨b, off + i, none⟩) (World.block_lt_of_cell? _ _ hu)]; exact hu, hw.still hb⟩
/-- What a row of it is, behind whatever lies above. -/
theorem Wss.row {A : Option Addr} {n c : Nat} (h : Wss w (.slice A n c) ls) (hn : ls.length = n) : ∀ W, Below w.heap.size w W → ∀ i, i < n → ∃ b off B d, A = some ⟨b, off, none⟩ ∧ W.cell? ⟨b, off + i, none⟩ = some (.slice B (ls.getD i []).length d) ∧ Wds W (.slice B (ls.getD i []).length d) (ls.getD i []) := by
  intro W hb i hi
  obtain ⟨A', c', e, _, hA⟩ := h
  injection e with e1 e2 e3
  subst e1
  obtain ⟨b, off, rfl, hr⟩ := hA (by omega)
  obtain ⟨u, hu, hw⟩ := hr i (by omega)
  obtain ⟨B, d, rfl⟩ := hw.is
  exact ⟨b, off, B, d, rfl, by rw [hb.cell (p := ⟨b, off + i, none⟩) (World.block_lt_of_cell? _ _ hu)]; exact hu, hw.still hb⟩

set_option maxHeartbeats 4000000 in
/-- Slots of a size that is looked at. -/
theorem few17_c (h : Wss w v ls) : Calls Try.prog 8 #[v] w fun e w' => ∃ r, e = .returned (.bool r) ∧ (r = true → ls.length ≤ 8 ∧ ∀ i, i < ls.length → (ls.getD i []).length ≤ 60) ∧ w = w' := by
  have h' := h
  obtain ⟨A, c, rfl, _, _⟩ := h'
  have RD := Lib.hid (h.row rfl w (Below.refl _ _))
  clear h
  obtain ⟨R, hR⟩ : ∃ R : Ending → World → Prop, (fun e w' => ∃ r, e = .returned (.bool r) ∧ (r = true → ls.length ≤ 8 ∧ ∀ i, i < ls.length → (ls.getD i []).length ≤ 60) ∧ w = w') = R := ⟨_, rfl⟩
  rw [hR]
  have NO : Hid (R (.returned (.bool false)) w) := Lib.hid (by rw [← hR]; exact ⟨false, rfl, (fun e => by cases e), rfl⟩)
  have YES : Hid ((∀ i, i < ls.length → i < 10 → (ls.getD i []).length ≤ 60) → R (.returned (.bool (decide ((ls.length : Int) ≤ 8)))) w) := Lib.hid (fun h => by
    rw [← hR]
    refine ⟨_, rfl, fun e => ?_, rfl⟩
    have h8 := of_decide_eq_true e
    exact ⟨by omega, fun i hi => h i hi (by omega)⟩)
  clear hR
  obtain ⟨ln, hln⟩ : ∃ ln : Nat → Nat, (fun i => (ls.getD i []).length) = ln := ⟨_, rfl⟩
  have HLN : Hid (∀ i, (ls.getD i []).length = ln i) := Lib.hid (fun i => by rw [← hln])
  have RD : Hid (∀ i, i < ls.length → ∃ b off B d, A = some ⟨b, off, none⟩ ∧ w.cell? ⟨b, off + i, none⟩ = some (.slice B (ln i) d)) := Lib.hid (fun i hi => by
    obtain ⟨b, off, B, d, h1, h2, _⟩ := RD.out i hi
    rw [HLN.out i] at h2
    exact ⟨b, off, B, d, h1, h2⟩)
  clear hln
  generalize ls.length = n at *
  go_enter Try.func8, Try.ntmps8
  go_wp2_with fail
  go_loopw [3] (fun iv wr => ∃ i : Nat, i ≤ 10 ∧ i ≤ n ∧ iv = .int .i64 i ∧ wr = w ∧ ∀ j, j < i → ln j ≤ 60) (fun iv _ => 10 - (intOf iv).toNat)
  case atStart => exact ⟨0, by omega, by omega, rfl, rfl, fun j hj => by omega⟩
  case round =>
    obtain ⟨i, hi, hin, rfl, rfl, hj⟩ := hrel
    have HJ := Lib.hid hj
    clear hj
    by_cases hln : i < n
    · have i1 : (i : Int) < (n : Int) := by omega
      have j1 : decide ((i : Int) < (n : Int)) = true := decide_eq_true i1
      by_cases h10 : i < 10
      · have i2 : (i : Int) < 10 := by omega
        obtain ⟨b, off, B, d, rfl, hc⟩ := RD.out i hln
        have HL := Lib.hid (HLN.out i)
        clear RD
        generalize hL : ln i = L at *
        have HLi := Lib.hid hL
        clear hL
        by_cases h60 : 60 < L
        · have i3 : (60 : Int) < (L : Int) := by omega
          clear HLN HL YES HJ
          go_wp2_with fail
          exact NO.out
        · have i3 : ¬ (60 : Int) < (L : Int) := by omega
          have HJ2 : Hid (∀ j, j < i + 1 → ln j ≤ 60) := Lib.hid (fun j hj => by
            by_cases hji : j = i
            · subst hji; have := HLi.out; omega
            · exact HJ.out j (by omega))
          clear HLN HL YES NO HJ HLi
          go_wp2_with fail
          go_roundw
          case rel => exact ⟨i + 1, by omega, by omega, by go_num, trivial, HJ2.out⟩
          case measure => simp [intOf]; omega
      · have i2 : ¬ (i : Int) < 10 := by omega
        have FX := Lib.hid (YES.out (fun j _ hj => by rw [HLN.out j]; exact HJ.out j (by omega)))
        clear YES NO RD HLN HJ
        go_wp2_with fail
        exact FX.out
    · have i1 : ¬ (i : Int) < (n : Int) := by omega
      have FX := Lib.hid (YES.out (fun j hj _ => by rw [HLN.out j]; exact HJ.out j (by omega)))
      clear YES NO RD HLN HJ
      go_wp2_with fail
      exact FX.out

/-- While the rows are laid. -/
structure WsAt (w wr : World) (ov : Value) (us : List Value) (ls : List (List Int)) : Prop where
  row : wr.ownsRow w.heap.size 31 1 ov us.length us
  each : ∀ i, i < us.length → ∃ q, us.getD i undef = .slice (some ⟨q, 0, none⟩) 28 28 ∧ Whole wr q 2 (nums (w28 (ls.getD i []))) ∧ w.heap.size ≤ q
  bel : Below w.heap.size w wr
theorem WsAt.only {wr w' : World} {S : Nat → Prop} {ov : Value} {us : List Value} (h : WsAt w wr ov us ls) (ho : Only S wr w') (h1 : ∀ k, ov.ownBlock = some k → ¬ S k) (h2 : ∀ i q, i < us.length → us.getD i undef = .slice (some ⟨q, 0, none⟩) 28 28 → ¬ S q) (h3 : ∀ k, S k → w.heap.size ≤ k) : WsAt w w' ov us ls :=
  ⟨own_only h.row ho h1, fun i hi => by obtain ⟨q, e, hq, hl⟩ := h.each i hi; exact ⟨q, e, hq.only ho (h2 i q hi e), hl⟩, h.bel.trans (ho.below h3 h.bel.size)⟩
theorem WsAt.still {wr w' : World} {ov : Value} {us : List Value} (h : WsAt w wr ov us ls) (hb : Below wr.heap.size wr w') : WsAt w w' ov us ls :=
  h.only (Only.of_below hb (fun _ => False)) (fun _ _ => id) (fun _ _ _ _ => id) (fun _ h => h.elim)
theorem WsAt.put {wr : World} {ov : Value} {us : List Value} {q0 : Nat} (h : WsAt w wr ov us ls) (t : 2 ≠ 31) {L : List Int} (hq : Whole wr q0 2 (nums L)) (hw : w.heap.size ≤ q0) (hf : ∀ i q, i < us.length → us.getD i undef = .slice (some ⟨q, 0, none⟩) 28 28 → q ≠ q0) (i : Nat) (x : Int) : WsAt w (wr.setCell ⟨q0, i, none⟩ (.int .i64 x)) ov us ls :=
  h.only (only_one wr q0 i (.int .i64 x)) (fun k hk he => own_apart h.row hq (Ne.symm t) (by rw [← he]; exact hk)) hf (fun k hk => by rw [hk]; exact hw)
theorem WsAt.lt {wr : World} {ov : Value} {us : List Value} (h : WsAt w wr ov us ls) : ∀ i q, i < us.length → us.getD i undef = .slice (some ⟨q, 0, none⟩) 28 28 → q < wr.heap.size := by
  intro i q hi e
  obtain ⟨q', e', hq, _⟩ := h.each i hi
  rw [e] at e'
  injection e' with e'
  injection e' with e'
  injection e' with e'
  subst e'
  exact hq.lt
theorem WsAt.append {wr w' : World} {ov ov' : Value} {us : List Value} {q0 : Nat} {o : Obj} (h : WsAt w wr ov us ls) (hq : Whole wr q0 2 (nums (w28 (ls.getD us.length [])))) (hw : w.heap.size ≤ q0) (hg : (wr.alloc o).grownBy w' ov.ownBlock)
    (hown : w'.ownsRow w.heap.size 31 1 ov' (us.length + 1) (us ++ [.slice (some ⟨q0, 0, none⟩) 28 28])) : WsAt w w' ov' (us ++ [.slice (some ⟨q0, 0, none⟩) 28 28]) ls := by
  have ho : Only (fun j => ov.ownBlock = some j) wr w' := ((Only.refl _ wr).alloc o).grown hg (fun j hj => .inl hj)
  refine ⟨by rw [List.length_append]; exact hown, fun i hi => ?_, h.bel.trans (ho.below (fun k hk => (World.ownsRow.lt h.row k hk).1) h.bel.size)⟩
  rw [List.length_append] at hi
  have hi : i < us.length + 1 := hi
  by_cases h1 : i < us.length
  · obtain ⟨q, e, hq', hl⟩ := h.each i h1
    refine ⟨q, ?_, hq'.only ho (fun hk => own_apart h.row hq' (by decide) hk), hl⟩
    rw [List.getD_eq_getElem?_getD, List.getElem?_append_left h1, ← List.getD_eq_getElem?_getD]
    exact e
  · have e : i = us.length := by omega
    subst e
    refine ⟨q0, ?_, hq.only ho (fun hk => own_apart h.row hq (by decide) hk), hw⟩
    rw [List.getD_eq_getElem?_getD, List.getElem?_append_right (Nat.le_refl _)]
    simp
/-- What it is in the end. -/
theorem WsAt.wss {wr : World} {ov : Value} {us : List Value} (h : WsAt w wr ov us ls) (hl : us.length = ls.length) : Wss wr ov (ls.map w28) := by
  have hlm : (ls.map w28).length = us.length := by simp [hl]
  obtain ⟨A, c, rfl⟩ := own_slice h.row
  rcases h.row with ⟨hl2, ⟨e, h0⟩ | ⟨g, cap, cur, e, hb, hg, hn, hm, hs, ht⟩⟩
  · exact ⟨A, c, by rw [hlm], by rw [hlm, h0]; omega, fun hp => absurd hp (by rw [hlm, h0]; omega)⟩
  · injection e with e1 e2 e3
    subst e1 e3
    refine ⟨_, c, by rw [hlm], by rw [hlm]; exact hn, fun _ => ⟨g, 0, rfl, fun i hi => ?_⟩⟩
    rw [hlm] at hi
    obtain ⟨q, eq, hq, _⟩ := h.each i hi
    refine ⟨_, (h.row.cellAt (0 + i) (by omega)).trans (by rw [Nat.zero_add, List.getElem?_eq_getElem hi]), ?_⟩
    have e2 : us[i] = .slice (some ⟨q, 0, none⟩) 28 28 := by
      rw [List.getD_eq_getElem?_getD, List.getElem?_eq_getElem hi] at eq
      exact eq
    rw [e2]
    have e3 : (ls.map w28).getD i [] = w28 (ls.getD i []) := by
      rw [List.getD_eq_getElem?_getD, List.getElem?_map, List.getD_eq_getElem?_getD, List.getElem?_eq_getElem (by omega)]
      rfl
    rw [e3]
    have := nums_wds hq (c := 28) (Nat.le_of_eq (w28_len _))
    rw [w28_len] at this
    exact this
theorem rows_info : (Try.prog.info? 31).map (fun i => (i.zero, i.size, i.bytes)) = some (some (.slice none 0 0), 1, 24) := by kernel_rfl
theorem rows_info' : ∃ i0, Try.prog.info? 31 = some i0 ∧ i0.zero = some (.slice none 0 0) ∧ i0.size = 1 ∧ i0.bytes = 24 := by
  obtain ⟨i0, h1, h2⟩ := Option.map_eq_some_iff.1 rows_info
  simp only [Prod.mk.injEq] at h2
  exact ⟨i0, h1, h2.1, h2.2.1, h2.2.2⟩
/-- A row of its own while it is filled, and the rows ahead of it. -/
structure WsRow (w wr : World) (ov : Value) (us : List Value) (ls : List (List Int)) (q : Nat) (L : List Int) : Prop where
  all : WsAt w wr ov us ls
  row : Whole wr q 2 (nums L)
  hq : w.heap.size ≤ q
  far : ∀ i q', i < us.length → us.getD i undef = .slice (some ⟨q', 0, none⟩) 28 28 → q' ≠ q
theorem WsRow.put {wr : World} {ov : Value} {us : List Value} {q : Nat} {L : List Int} (h : WsRow w wr ov us ls q L) (i : Nat) (x : Int) : WsRow w (wr.setCell ⟨q, i, none⟩ (.int .i64 x)) ov us ls q (L.set i x) :=
  ⟨h.all.put (by decide) h.row h.hq h.far i x, nums_put h.row i x, h.hq, h.far⟩
theorem WsRow.new {wr : World} {ov : Value} {us : List Value} (h : WsAt w wr ov us ls) : WsRow w (wr.alloc (.cells (nums nul28) 2)) ov us ls wr.heap.size nul28 :=
  ⟨h.still (below_new _ _), Whole.new _ _ _, h.bel.size, fun i q' hi e => by have := h.lt i q' hi e; omega⟩
set_option maxHeartbeats 8000000 in
theorem words17_c (h : Wss w v ls) (h8 : ls.length ≤ 8) (h60 : ∀ i, i < ls.length → (ls.getD i []).length ≤ 60) : Calls Try.prog 9 #[v] w fun e w' => ∃ v', e = .returned v' ∧ Wss w' v' (ls.map w28) ∧ Below w.heap.size w w' := by
  have h' := h
  obtain ⟨A, c, rfl, _, _⟩ := h'
  have RD := Lib.hid (h.row rfl)
  clear h
  obtain ⟨R, hR⟩ : ∃ R : Ending → World → Prop, (fun e w' => ∃ v', e = .returned v' ∧ Wss w' v' (ls.map w28) ∧ Below w.heap.size w w') = R := ⟨_, rfl⟩
  rw [hR]
  have FIN : Hid (∀ W ov us, WsAt w W ov us ls → us.length = ls.length → R (.returned ov) W) := Lib.hid (fun W ov us h hl => by rw [← hR]; exact ⟨ov, rfl, h.wss hl, h.bel⟩)
  clear hR
  have S0 : Hid (WsAt w w (.slice none 0 0) [] ls) := Lib.hid ⟨World.ownsRow_nil w _ _ _, fun i hi => absurd hi (by simp), Below.refl _ _⟩
  have HLEN := Lib.hid (⟨h8, h60⟩ : _ ∧ _)
  have mk := make28
  obtain ⟨i0, hi0, hz0, hz1, hz2⟩ := rows_info'
  obtain ⟨n, hn⟩ : ∃ n, ls.length = n := ⟨_, rfl⟩
  rw [hn] at h8 RD FIN HLEN ⊢
  clear h60 hn
  go_enter Try.func9, Try.ntmps9
  go_wp2_with fail
  go_loopw [3, 4] (fun ov iv wr => ∃ (i : Nat) (us : List Value), i ≤ n ∧ us.length = i ∧ iv = .int .i64 i ∧ WsAt w wr ov us ls) (fun _ iv _ => n - (intOf iv).toNat)
  case atStart => exact ⟨0, [], by omega, rfl, rfl, S0.out⟩
  case round =>
    obtain ⟨i, us, hi, hus, rfl, hS⟩ := hrel
    clear S0
    by_cases hlt : i < n
    · have RN := Lib.hid (WsRow.new hS)
      obtain ⟨B3, c3, rfl⟩ := own_slice hS.row
      have HU := Lib.hid hus
      have j1 : (i : Int) < (n : Int) := by omega
      have R0 : Hid (WsRow w (wr.alloc (.cells (nums nul28) 2)) (.slice B3 us.length c3) us ls wr.heap.size (wTo (ls.getD i []) 0)) := Lib.hid RN.out
      clear hS RN hus
      go_upto_region 6 with (fail)
      have HQ2 : Hid (w.heap.size ≤ wr.heap.size) := Lib.hid R0.out.hq
      generalize wr.alloc (.cells (nums nul28) 2) = wA at *
      generalize wr.heap.size = q at *
      generalize hl : ls.getD i [] = l at *
      have HL := Lib.hid hl
      have L60 : Hid (l.length ≤ 60) := Lib.hid (by rw [← hl]; exact HLEN.out.2 i hlt)
      clear hl
      have HST := Lib.hid (fun k hk hl => wTo_step l (k := k) hk hl)
      have HEN := Lib.hid (fun k h => wTo_end l (k := k) h)
      have HLN := Lib.hid (fun k h => wTo_len l (k := k) h)
      have RI : Hid (∀ W, Below w.heap.size w W → ∃ b off B d, A = some ⟨b, off, none⟩ ∧ W.cell? ⟨b, off + i, none⟩ = some (.slice B l.length d) ∧ Wds W (.slice B l.length d) l) := Lib.hid (fun W hb => by
        have := RD.out W hb i hlt
        rw [HL.out] at this
        exact this)
      obtain ⟨ll, hll⟩ : ∃ ll, l.length = ll := ⟨_, rfl⟩
      rw [hll] at L60 HST HEN RI
      have HLL := Lib.hid hll
      clear hll
      go_wp2_with fail
      go_loopw [6] (fun kv wr => ∃ k : Nat, k ≤ 28 ∧ k ≤ ll ∧ kv = .int .i64 k ∧ WsRow w wr (.slice B3 us.length c3) us ls q (wTo l k)) (fun kv _ => 28 - (intOf kv).toNat)
      case atStart => exact ⟨0, by omega, by omega, rfl, R0.out⟩
      case round =>
        obtain ⟨k, hk, hkn, rfl, hS⟩ := hrel
        have S1 := Lib.hid hS
        clear R0 hS
        obtain ⟨b, off, B, d, rfl, r1, rw1⟩ := RI.out wr S1.out.all.bel
        by_cases hkl : k < 28 ∧ k < ll
        · have i1 : (k : Int) < 28 := by omega
          have i2 : (k : Int) < (ll : Int) := by omega
          have i3 : decide ((k : Int) < 28) = true := decide_eq_true i1
          have i4 : decide ((k : Int) < (ll : Int)) = true := decide_eq_true i2
          obtain ⟨b2, off2, rfl, ya⟩ : ∃ b2 off2, B = some ⟨b2, off2, none⟩ ∧ wr.cell? ⟨b2, off2 + k, none⟩ = some (.int .i64 (nth l k)) := by
            obtain ⟨A', c', e, _, hA⟩ := rw1
            injection e with e1 e2 e3
            subst e1
            obtain ⟨b2, off2, rfl, hr⟩ := hA (by rw [HLL.out]; omega)
            exact ⟨b2, off2, rfl, hr k (by rw [HLL.out]; omega)⟩
          have z := S1.out.row.cell k
          rw [nums_at _ _ (by rw [HLN.out k hk]; omega)] at z
          have f := S1.out.row.frozen k
          have PT : Hid (WsRow w (wr.setCell ⟨q, k, none⟩ (.int .i64 (nth l k))) (.slice B3 us.length c3) us ls q (wTo l (k + 1))) := Lib.hid (by
            have := S1.out.put k (nth l k)
            rw [HST.out k hkl.1 hkl.2] at this
            exact this)
          clear S1 HST HEN rw1 RI RD
          generalize nth l k = y at *
          generalize nth (wTo l k) k = yo at *
          go_wp2_with fail
          go_roundw
          case rel => exact ⟨k + 1, by omega, by omega, by go_num, PT.out⟩
          case measure => simp [intOf]; omega
        · by_cases h28 : k < 28
          · have i1 : (k : Int) < 28 := by omega
            have i2 : ¬ (k : Int) < (ll : Int) := by omega
            have i4 : decide ((k : Int) < (ll : Int)) = false := decide_eq_false i2
            have EE : wTo l k = w28 l := HEN.out k (.inr ⟨by omega, hk⟩)
            rw [EE] at S1
            have O := Lib.hid S1.out.all.row
            have APP : Hid (∀ (o : Obj) w' ov', (wr.alloc o).grownBy w' (Value.slice B3 us.length c3).ownBlock → w'.ownsRow w.heap.size 31 1 ov' (us.length + 1) (us ++ [.slice (some ⟨q, 0, none⟩) 28 28]) → WsAt w w' ov' (us ++ [.slice (some ⟨q, 0, none⟩) 28 28]) ls) := Lib.hid (fun o w' ov' hg hown => S1.out.all.append (by rw [HU.out, HL.out]; exact S1.out.row) S1.out.hq hg hown)
            clear EE HST HEN HLN RD FIN rw1 RI
            have hub : us.length + 1 ≤ 8 := by have := HU.out; omega
            have hbs : w.heap.size ≤ wr.heap.size := S1.out.all.bel.size
            go_wp2_with (at_builtin; refine wpList_append_lies _ rfl (.tmp 37) (.tmp 39) _ rfl w.heap.size 31 i0 _ 1 24 Try.underlying22 hi0 hz0 hz1 hz2 rfl (by omega) _ us.length _ rfl (O.out.alloc _) ⟨wr.heap.size, 0, none⟩ 1 1 [.slice (some ⟨q, 0, none⟩) 28 28] rfl rfl (World.news_of_block (cs := #[.slice (some ⟨q, 0, none⟩) 28 28]) (t := 31) (fr := (0, 0)) (heap_alloc_new wr _)) (by simp [Value.oneCell']) (by omega) (by simp only [maxLen]; omega) (by omega) (by simp; omega) (wr.heap.size + 1) (by simp) ?_; intro gg cap w3 hown hgrow hat hlt3; have NX := Lib.hid (APP.out _ _ _ hgrow hown); clear hown hgrow hat hlt3)
            clear O APP S1
            go_roundw
            case rel => exact ⟨i + 1, _, by omega, by rw [List.length_append, HU.out]; rfl, by go_num, NX.out⟩
            case measure => simp [intOf]; omega
          · have i1 : ¬ (k : Int) < 28 := by omega
            have EE : wTo l k = w28 l := HEN.out k (.inl (by omega))
            rw [EE] at S1
            have O := Lib.hid S1.out.all.row
            have APP : Hid (∀ (o : Obj) w' ov', (wr.alloc o).grownBy w' (Value.slice B3 us.length c3).ownBlock → w'.ownsRow w.heap.size 31 1 ov' (us.length + 1) (us ++ [.slice (some ⟨q, 0, none⟩) 28 28]) → WsAt w w' ov' (us ++ [.slice (some ⟨q, 0, none⟩) 28 28]) ls) := Lib.hid (fun o w' ov' hg hown => S1.out.all.append (by rw [HU.out, HL.out]; exact S1.out.row) S1.out.hq hg hown)
            clear EE HST HEN HLN RD FIN rw1 RI r1
            have hub : us.length + 1 ≤ 8 := by have := HU.out; omega
            have hbs : w.heap.size ≤ wr.heap.size := S1.out.all.bel.size
            go_wp2_with (at_builtin; refine wpList_append_lies _ rfl (.tmp 37) (.tmp 39) _ rfl w.heap.size 31 i0 _ 1 24 Try.underlying22 hi0 hz0 hz1 hz2 rfl (by omega) _ us.length _ rfl (O.out.alloc _) ⟨wr.heap.size, 0, none⟩ 1 1 [.slice (some ⟨q, 0, none⟩) 28 28] rfl rfl (World.news_of_block (cs := #[.slice (some ⟨q, 0, none⟩) 28 28]) (t := 31) (fr := (0, 0)) (heap_alloc_new wr _)) (by simp [Value.oneCell']) (by omega) (by simp only [maxLen]; omega) (by omega) (by simp; omega) (wr.heap.size + 1) (by simp) ?_; intro gg cap w3 hown hgrow hat hlt3; have NX := Lib.hid (APP.out _ _ _ hgrow hown); clear hown hgrow hat hlt3)
            clear O APP S1
            go_roundw
            case rel => exact ⟨i + 1, _, by omega, by rw [List.length_append, HU.out]; rfl, by go_num, NX.out⟩
            case measure => simp [intOf]; omega
    · have FX := Lib.hid (FIN.out _ _ _ hS (by omega))
      have j1 : ¬ (i : Int) < (n : Int) := by omega
      clear FIN hS RD hus
      go_wp2_with fail
      exact FX.out
set_option maxHeartbeats 4000000 in
/-- No slots. -/
theorem slots_none (A : Option Addr) (c : Nat) (w : World) : Calls Try.prog 10 #[.slice A 0 c] w (SlotsPost w []) := by
  have FIN : Hid (∀ W mb mg ab ag, MemAt W mb mg (List.replicate (many 3) 0) 0 → ArAt W ab ag (firstOf 3) (freshS (slotsOf 0)) false false → w.heap.size ≤ mb → w.heap.size ≤ mg → w.heap.size ≤ ab → w.heap.size ≤ ag → Below w.heap.size w W → SlotsPost w [] (.returned (.tuple #[.pointer (some ⟨mb, 0, none⟩), .pointer (some ⟨ab, 0, none⟩)])) W) := Lib.hid (fun W mb mg ab ag m a a1 a2 a3 a4 b => ⟨mb, mg, ab, ag, rfl, m, a, a1, a2, a3, a4, b⟩)
  obtain ⟨P, hP⟩ : ∃ P, SlotsPost w [] = P := ⟨_, rfl⟩
  rw [hP] at FIN ⊢
  clear hP
  go_enter Try.func10, Try.ntmps10
  go_wp2_with fail
  refine (new_mem_ex _ _).mono ?_
  rintro e w1 ⟨mb, mg, rfl, hm, hmb, hmg, hb1⟩
  have HM := Lib.hid hm
  have HB1 := Lib.hid hb1
  have MB : Hid (w.heap.size ≤ mb ∧ w.heap.size ≤ mg) := Lib.hid ⟨hmb, hmg⟩
  clear hm hb1 hmb hmg
  go_wp2_with fail
  refine (arNew_any _ _ _).mono ?_
  rintro e w2 ⟨rfl, ha, hb2, hz⟩
  have hsz := HB1.out.size
  have FX := Lib.hid (FIN.out w2 mb mg (w1.heap.size + 1) w1.heap.size (HM.out.only (Only.of_below hb2 (fun _ => False)) id id) ha MB.out.1 MB.out.2 (by omega) hsz (HB1.out.trans (hb2.mono hsz)))
  clear HM ha hb2 hz HB1 hsz FIN MB
  go_wp2_with fail
  go_loopw [6] (fun iv wr => iv = .int .i64 0 ∧ wr = w2) (fun _ _ => 0)
  case atStart => exact ⟨rfl, rfl⟩
  case round =>
    obtain ⟨rfl, rfl⟩ := hrel
    go_wp2_with fail
    exact FX.out
theorem slots17_c (h : Wss w v ls) (h28 : All28 ls) (hn : ls.length ≤ 100) : Calls Try.prog 10 #[v] w (SlotsPost w ls) := by
  by_cases h0 : 0 < ls.length
  · exact slots_c h h28 hn h0
  · have e : ls = [] := by cases ls with | nil => rfl | cons a l => simp at h0
    subst e
    obtain ⟨A, c, rfl, _, _⟩ := h
    exact slots_none A c w
end
end Go.Proofs.Ytlhjimkfcchdaaa

/-
  Layer 17: what comes of a goer that is alone, over slots of words; and what a program that does nothing does not answer.
-/
namespace Go.Proofs.Ytlhjimkfcchdaaa
open Go.ChangeShapes Go.WideShapes Go.ChangeAt Go.RowKit
set_option linter.unusedVariables false

theorem gr_ans {α : Type} (q : Sk α) (f : α → Gr) (m : Mm) : (q.bind fun r => .ret (f r)).ans m = f (q.ans m) ∧ (q.bind fun r => .ret (f r)).reads m = q.reads m := by
  rw [Sk.ans_bind, Sk.reads_bind]
  exact ⟨rfl, by simp [Sk.reads]⟩
/-- Where only right handles are touched, no stale one was. -/
theorem touch_right (x : Wi) (l : List (Int × Int)) (h : ∀ q ∈ l, rightB x.l q.2 = true) : (evsW x (l.map fun q => .touch q.2)).st = x.st := by
  induction l generalizing x with
  | nil => rfl
  | cons q l ih =>
    simp only [List.map_cons]
    rw [evsW_cons, ih (evW x (.touch q.2)) (fun p hp => h p (List.mem_cons_of_mem _ hp))]
    show (x.st || !rightB x.l q.2) = x.st
    rw [h q (List.mem_cons_self ..)]
    simp
theorem wi_cells (n : Nat) (st : Bool) : (fun h => cellOf (wiOf n st).fst (wiOf n st).l.length h) = fun h => cellOf 3 n h := by
  have : (wiOf n st).l.length = n := bornTo_len (Nat.le_refl _)
  rw [this]
  rfl
section
variable {w : World} {mb mg ab ag : Nat} {ls : List (List Int)} {cnt root addr : Int} {st : Bool}
/-- What a goer alone leaves of the slots. -/
def ManyPost (w : World) (mb mg ab ag : Nat) (ls : List (List Int)) (cnt : Int) (st : Bool) (F : Gr) (k : Nat) (S : List (Int × Int)) (e : Ending) (w' : World) : Prop :=
  ∃ (A1 : Option Addr) (c1 : Nat) (A2 : Option Addr) (c2 : Nat) (cnt' : Int) (st' : Bool), e = .returned (.tuple #[.agg #[.int .i64 F.H, .bool F.O, .slice A1 F.E.length c1, .slice A2 F.N.length c2], .int .i64 (k : Int), .bool true]) ∧ Mes w.heap.size w' (.slice A1 F.E.length c1) F.E ∧ Mw w.heap.size w' (.slice A2 F.N.length c2) F.N ∧
    MemAt w' mb mg (manyM ls cnt').cs (manyM ls cnt').cnt ∧ cnt' ≤ cnt + 1800 ∧ ArAt w' ab ag 3 (bornTo ls.length ls.length) st' false ∧ Only (fun k => CTwo mb mg k ∨ ArTwo ab ag k) w w' ∧ ((∀ q ∈ S, rightB (bornTo ls.length ls.length) q.2 = true) → st' = st)
theorem many_alone {all : Bool} {p : Sk Gr} {F : Gr} {k : Nat} (h28 : All28 ls) (hf : ∀ i, i < ls.length → Fits (ls.getD i [])) (hc : cnt ≤ 100000) (M : MemAt w mb mg (manyM ls cnt).cs (manyM ls cnt).cnt) (A : ArAt w ab ag 3 (bornTo ls.length ls.length) st false)
    (hp : Goes17 1664 mb mg ab ag root addr all p (wiOf ls.length st)) (ha : p.ans (manyM ls cnt) = F) (hk : (p.reads (manyM ls cnt)).length = k) (h0 : 0 < k) (h1 : k < 1800) :
    Calls Try.prog 11 #[.pointer (some ⟨mb, 0, none⟩), .agg #[.pointer (some ⟨ab, 0, none⟩), .int .i64 root, .int .i64 addr, .bool all, .pointer none]] w (ManyPost w mb mg ab ag ls cnt st F k (p.reads (manyM ls cnt))) := by
  have hcn : (manyM ls cnt).cnt = cnt := rfl
  refine (alone_c (x := wiOf ls.length st) M A (wiOf_ok _ st) (many_fits h28 hf cnt) (by rw [hcn]; omega) (by omega) (by omega) hp).mono ?_
  rintro e w' ⟨A1, c1, A2, c2, he, hm, hw, hM, hA, ho⟩
  rw [ha] at he hm hw
  rw [hk] at he
  have hb := inbs_le (manyM ls cnt) (p.reads (manyM ls cnt))
  exact ⟨A1, c1, A2, c2, cnt + inbs (manyM ls cnt) (p.reads (manyM ls cnt)), _, he, hm, hw, hM, by omega, hA, ho, fun h => touch_right (wiOf ls.length st) _ h⟩
theorem alone_find (h28 : All28 ls) (hf : ∀ i, i < ls.length → Fits (ls.getD i [])) (hc : cnt ≤ 100000) (M : MemAt w mb mg (manyM ls cnt).cs (manyM ls cnt).cnt) (A : ArAt w ab ag 3 (bornTo ls.length ls.length) st false) (hr : root ≤ 9223372036854775807) :
    Calls Try.prog 11 #[.pointer (some ⟨mb, 0, none⟩), .agg #[.pointer (some ⟨ab, 0, none⟩), .int .i64 root, .int .i64 addr, .bool false, .pointer none]] w (ManyPost w mb mg ab ag ls cnt st ⟨(findW ls addr 8 root).1.1, (findW ls addr 8 root).1.2, [], []⟩ (findW ls addr 8 root).2 ((findFrom (fun h => cellOf 3 ls.length h) addr 8 root).reads (manyM ls cnt))) := by
  have hp := goes_find (b := mb) (g := mg) (ab := ab) (ag := ag) (x := wiOf ls.length st) root addr hr
  rw [wi_cells] at hp
  obtain ⟨f1, f2⟩ := find_ans (many_tells h28 cnt) addr 8 root
  obtain ⟨g1, g2⟩ := gr_ans (findFrom (fun h => cellOf 3 ls.length h) addr 8 root) (fun r => ⟨r.1, r.2, [], []⟩) (manyM ls cnt)
  have m1 := findW_some ls addr 7 root
  have m2 := findW_most ls addr 8 root
  have := many_alone h28 hf hc M A hp (F := ⟨(findW ls addr 8 root).1.1, (findW ls addr 8 root).1.2, [], []⟩) (k := (findW ls addr 8 root).2) (by
    show ((findFrom (fun h => cellOf 3 ls.length h) addr 8 root).bind fun r => .ret _).ans _ = _
    rw [g1, f1]) (by
    show (((findFrom (fun h => cellOf 3 ls.length h) addr 8 root).bind fun r => .ret _).reads _).length = _
    rw [g2, f2]) m1 (by omega)
  have e : (findRs (fun h => cellOf 3 ls.length h) root addr).reads (manyM ls cnt) = (findFrom (fun h => cellOf 3 ls.length h) addr 8 root).reads (manyM ls cnt) := g2
  rw [e] at this
  exact this
theorem alone_all (h28 : All28 ls) (hf : ∀ i, i < ls.length → Fits (ls.getD i [])) (hc : cnt ≤ 100000) (M : MemAt w mb mg (manyM ls cnt).cs (manyM ls cnt).cnt) (A : ArAt w ab ag 3 (bornTo ls.length ls.length) st false) (hr : root ≤ 9223372036854775807) :
    Calls Try.prog 11 #[.pointer (some ⟨mb, 0, none⟩), .agg #[.pointer (some ⟨ab, 0, none⟩), .int .i64 root, .int .i64 addr, .bool true, .pointer none]] w (ManyPost w mb mg ab ag ls cnt st (allR (thruW ls 8 root ⟨[], []⟩).1) (thruW ls 8 root ⟨[], []⟩).2 ((thru (fun h => cellOf 3 ls.length h) 8 root ⟨[], []⟩).reads (manyM ls cnt))) := by
  have hp := goes_all (b := mb) (g := mg) (ab := ab) (ag := ag) (x := wiOf ls.length st) root addr hr
  rw [wi_cells] at hp
  obtain ⟨f1, f2⟩ := thru_ans (many_tells h28 cnt) 8 root ⟨[], []⟩
  obtain ⟨g1, g2⟩ := gr_ans (thru (fun h => cellOf 3 ls.length h) 8 root ⟨[], []⟩) allR (manyM ls cnt)
  have m1 : 0 < (thruW ls 8 root ⟨[], []⟩).2 ∧ (thruW ls 8 root ⟨[], []⟩).2 ≤ 1664 := thruW_some ls 7 root
  have := many_alone h28 hf hc M A hp (F := allR (thruW ls 8 root ⟨[], []⟩).1) (k := (thruW ls 8 root ⟨[], []⟩).2) (by
    show ((thru (fun h => cellOf 3 ls.length h) 8 root ⟨[], []⟩).bind fun r => .ret (allR r)).ans _ = _
    rw [g1, f1]) (by
    show (((thru (fun h => cellOf 3 ls.length h) 8 root ⟨[], []⟩).bind fun r => .ret (allR r)).reads _).length = _
    rw [g2, f2]) m1.1 (by omega)
  have e : (allRs (fun h => cellOf 3 ls.length h) root).reads (manyM ls cnt) = (thru (fun h => cellOf 3 ls.length h) 8 root ⟨[], []⟩).reads (manyM ls cnt) := g2
  rw [e] at this
  exact this
end

/-- What Slots leaves, as many slots. -/
theorem slots_many {w : World} {v : Value} {ls : List (List Int)} (h : Wss w v ls) (h28 : All28 ls) (hn : ls.length ≤ 100) : Calls Try.prog 10 #[v] w fun e w' => ∃ mb mg ab ag : Nat, e = .returned (.tuple #[.pointer (some ⟨mb, 0, none⟩), .pointer (some ⟨ab, 0, none⟩)]) ∧
    MemAt w' mb mg (manyM ls (28 * ls.length : Nat)).cs (manyM ls (28 * ls.length : Nat)).cnt ∧ ArAt w' ab ag 3 (bornTo ls.length ls.length) false false ∧ w.heap.size ≤ mb ∧ w.heap.size ≤ mg ∧ w.heap.size ≤ ab ∧ w.heap.size ≤ ag ∧ Below w.heap.size w w' := slots17_c h h28 hn

/-! The leaf of the laws' first question. -/
def leafNd : Nd := ⟨false, 65536, [2097152], [0], [2031616]⟩
theorem leafNd_formed : NdF leafNd := by
  refine ⟨⟨by decide, by decide, rfl, rfl⟩, by decide, (by decide : (65536 : Int).tmod 4096 = 0), fun i hi => ?_⟩
  have : i = 0 := by have : leafNd.ends.length = 1 := rfl; omega
  subst this
  exact ⟨(by decide : (65536 : Int) < 2097152), (by decide : (2097152 : Int) ≤ 2097152), (by decide : (2097152 : Int).tmod 4096 = 0), (by decide : holdsE false 0 2031616 (2097152 - 65536))⟩
theorem leafNd_fits : Fits leafNd.slots := by
  intro i hi
  have : i = 0 := by have : leafNd.slots.length = 1 := rfl; omega
  subst this
  exact ⟨(by decide : (-9223372036854775808 : Int) ≤ 0), (by decide : (0 : Int) ≤ 9223372036854775807)⟩
theorem one28 {x : List Int} (h : x.length = 28) : All28 [x] := fun i hi => by
  have : i = 0 := by simp at hi; omega
  subst this
  exact h
theorem one_fit {x : List Int} (h : Fits x) : ∀ i, i < [x].length → Fits (([x] : List (List Int)).getD i []) := fun i hi => by
  have : i = 0 := by simp at hi; omega
  subst this
  exact h
set_option maxHeartbeats 4000000 in
theorem leaf_c (w : World) : Calls Try.prog 18 #[] w fun e w' => ∃ v, e = .returned v ∧ Wds w' v (packN leafNd) ∧ Below w.heap.size w w' := by
  have B := ((Bag.new w).add 2 (nums [2097152])).add 2 (nums [0])
  have B := B.add 2 (nums [2031616])
  simp only [World.size_alloc] at B
  have HB := Lib.hid B.bel
  have CP := Lib.hid (refPackN_c (n := leafNd) (w := ((w.alloc (.cells (nums [2097152]) 2)).alloc (.cells (nums [0]) 2)).alloc (.cells (nums [2031616]) 2)) (e := .slice (some ⟨w.heap.size, 0, none⟩) 1 1) (s := .slice (some ⟨w.heap.size + 1, 0, none⟩) 1 1) (g := .slice (some ⟨w.heap.size + 1 + 1, 0, none⟩) 1 1) ⟨nums_wds B.v2 (Nat.le_refl 1), nums_wds B.v1 (Nat.le_refl 1), nums_wds B.v0 (Nat.le_refl 1)⟩ leafNd_formed.cnt)
  unfold Nd.val at CP
  have e1 : leafNd.inner = false := rfl
  have e2 : leafNd.lo = 65536 := rfl
  rw [e1, e2] at CP
  clear B e1 e2
  obtain ⟨R, hR⟩ : ∃ R : Ending → World → Prop, (fun e w' => ∃ v, e = .returned v ∧ Wds w' v (packN leafNd) ∧ Below w.heap.size w w') = R := ⟨_, rfl⟩
  rw [hR]
  have FIN : Hid (∀ v w', Wds w' v (packN leafNd) → Below w.heap.size w w' → R (.returned v) w') := Lib.hid (fun v w' h1 h2 => by rw [← hR]; exact ⟨v, rfl, h1, h2⟩)
  clear hR
  simp only [nums, List.map_cons, List.map_nil, List.toArray] at CP HB
  go_enter Try.func18, Try.ntmps18
  go_wp2_with fail
  refine CP.out.mono ?_
  rintro e w1 ⟨v, rfl, hv, hb⟩
  have FX := Lib.hid (FIN.out v w1 hv (below_then HB.out hb (by have := HB.out.size; exact Nat.le_trans (Nat.le_refl _) (by simp))))
  clear hv hb CP FIN HB
  go_wp2_with fail
  exact FX.out
theorem leaf_thru : thruW [packN leafNd] 8 65537 ⟨[], []⟩ = (some ⟨[⟨65536, 2097152, 0⟩], [65537]⟩, 5) := thru_one leafNd_formed rfl
theorem many_below {w0 w w' : World} {mb mg ab ag : Nat} (hb : Below w0.heap.size w0 w) (ho : Only (fun k => CTwo mb mg k ∨ ArTwo ab ag k) w w') (h : w0.heap.size ≤ mb ∧ w0.heap.size ≤ mg ∧ w0.heap.size ≤ ab ∧ w0.heap.size ≤ ag) : Below w0.heap.size w0 w' := one_below hb ho h.1 h.2.1 h.2.2.1 h.2.2.2
set_option maxRecDepth 4000 in
set_option maxHeartbeats 8000000 in
theorem walk_awake : Says 7 #[] (.bool true) := by
  intro w
  have CL := Lib.hid (leaf_c w)
  have HPL := Lib.hid (pack_len leafNd_formed.cnt)
  have HF := Lib.hid (fits_pack leafNd_formed leafNd_fits)
  have HT := Lib.hid leaf_thru
  generalize packN leafNd = pk at *
  go_enter Try.func7, Try.ntmps7
  go_wp2_with fail
  refine CL.out.mono ?_
  rintro e w1 ⟨v, rfl, hv, hb1⟩
  obtain ⟨A, c, rfl⟩ := hv.is
  rw [HPL.out] at hv ⊢
  have SL := Lib.hid (slots_many (wss_one hv) (one28 HPL.out) (by simp))
  have B1 := Lib.hid (below_then hb1 (below_new w1 (.cells #[.slice A 28 c] 31)) (Nat.le_refl _))
  clear hv hb1 CL
  go_wp2_with fail
  refine SL.out.mono ?_
  rintro e w2 ⟨mb, mg, ab, ag, rfl, hm, ha, m1, m2, m3, m4, hb2⟩
  have AL := Lib.hid (alone_all (root := 65537) (addr := 0) (one28 HPL.out) (one_fit HF.out) (by simp) hm ha (by omega))
  rw [HT.out] at AL
  have MM : Hid (w.heap.size ≤ mb ∧ w.heap.size ≤ mg ∧ w.heap.size ≤ ab ∧ w.heap.size ≤ ag) := Lib.hid (by have := B1.out.size; omega)
  have B2 := Lib.hid (below_then B1.out hb2 (Nat.le_refl _))
  clear hm ha m1 m2 m3 m4 hb2 SL B1 HT
  go_wp2_with fail
  refine AL.out.mono ?_
  rintro e w3 ⟨A1, c1, A2, c2, cnt', st', rfl, _, _, _, _, _, ho, _⟩
  have B3 := Lib.hid (many_below B2.out ho MM.out)
  clear ho AL B2
  simp only [allR, List.length_cons, List.length_nil]
  go_upto_region 3 with (fail)
  have V := Lib.hid (Whole.new w3 33 #[.int .i64 0, .bool true, .slice A1 (0 + 1) c1, .slice A2 (0 + 1) c2])
  have B4 := Lib.hid (B3.out.alloc B3.out.size (.cells #[.int .i64 0, .bool true, .slice A1 (0 + 1) c1, .slice A2 (0 + 1) c2] 33))
  simp only [Nat.zero_add] at V B4
  obtain ⟨wB, hwB⟩ : ∃ wB, w3.alloc (.cells #[.int .i64 0, .bool true, .slice A1 1 c1, .slice A2 1 c2] 33) = wB := ⟨_, rfl⟩
  rw [hwB] at V B4 ⊢
  clear hwB B3
  generalize w3.heap.size = q at *
  obtain ⟨z0, z1, z2, z3⟩ := grow4 V.out
  go_wp2_with fail
  go_ret
  exact ⟨rfl, B4.out⟩
end Go.Proofs.Ytlhjimkfcchdaaa
