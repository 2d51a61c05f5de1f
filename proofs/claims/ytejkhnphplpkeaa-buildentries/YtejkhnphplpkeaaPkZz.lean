/-
  Texts of our own, one behind the other (RbEnts): what the laws' proofs rest on; each says at its head what it holds. No conditions.
-/
import Derived.Test.YtejkhnphplpkeaaPkZy
import Derived.Test.YtejkhnphplpkeaaPkR
/-
  Layer 18: the reference: a list's entries, and whether it may have these handles.
-/
namespace Go.Proofs.Ytejkhnphplpkeaa
open Go.ChangeShapes Go.WideShapes Go.ChangeAt Go.RowKit Go.Shelf
set_option linter.unusedVariables false

set_option maxHeartbeats 4000000 in
theorem above_c {w : World} {v : Value} {hs : List Int} (h : Wds w v hs) (hl : hs.length ≤ 1000) {r : Bool} (hr : Tells r (Given hs)) : Calls Try.prog 45 #[v] w fun e w' => e = .returned (.bool r) ∧ w' = w := by
  obtain ⟨A, c, rfl, _, hA⟩ := h
  obtain ⟨R, hR⟩ : ∃ R : Ending → World → Prop, (fun e w' => e = .returned (.bool r) ∧ w' = w) = R := ⟨_, rfl⟩
  rw [hR]
  have YES : Hid (Given hs → R (.returned (.bool true)) w) := Lib.hid (fun h => by rw [← hR, hr.2 h]; exact ⟨rfl, rfl⟩)
  have NO : Hid (∀ i : Nat, i < hs.length → nth hs i < 1 → R (.returned (.bool false)) w) := Lib.hid (fun i hi h => by
    have e : r = false := by
      cases r with
      | false => rfl
      | true => have := hr.1 rfl i hi; omega
    rw [← hR, e]; exact ⟨rfl, rfl⟩)
  unfold Given at YES
  have CA := Lib.hid hA
  clear hA hR hr
  generalize hs.length = n at *
  go_enter Try.func45, Try.ntmps45
  go_wp2_with fail
  go_loopw [3] (fun iv wr => ∃ i : Nat, i ≤ n ∧ iv = .int .i64 i ∧ wr = w ∧ ∀ j, j < i → 0 < nth hs j) (fun iv _ => n - (intOf iv).toNat)
  case atStart => exact ⟨0, by omega, rfl, rfl, fun j hj => by omega⟩
  case round =>
    obtain ⟨i, hi, rfl, rfl, hj⟩ := hrel
    have HJ := Lib.hid hj
    clear hj
    by_cases hlt : i < n
    · have j1 : (i : Int) < (n : Int) := by omega
      obtain ⟨b, off, rfl, ca⟩ := CA.out (by omega)
      have c0 := ca i hlt
      have NI := Lib.hid (fun h => NO.out i hlt h)
      have NX : Hid (0 < nth hs i → ∀ j, j < i + 1 → 0 < nth hs j) := Lib.hid (fun h j hj => by
        by_cases e : j = i
        · subst e; exact h
        · exact HJ.out j (by omega))
      clear ca CA YES NO HJ
      generalize nth hs i = x at *
      by_cases hx : x < 1
      · have FX := Lib.hid (NI.out hx)
        clear NX NI
        go_wp2_with fail
        exact FX.out
      · have FX := Lib.hid (NX.out (by omega))
        clear NX NI
        go_wp2_with fail
        go_roundw
        case rel => exact ⟨i + 1, by omega, by go_num, trivial, FX.out⟩
        case measure => simp [intOf]; omega
    · have e : i = n := by omega
      subst e
      have j1 : ¬ (i : Int) < (i : Int) := by omega
      have FX := Lib.hid (YES.out HJ.out)
      clear YES NO HJ CA
      go_wp2_with fail
      exact FX.out
set_option maxHeartbeats 4000000 in
theorem may18_c {w : World} {v hv : Value} {X : List Ar} {hs : List Int} (h : Holds w v X) (hh : Wds w hv hs) (hl : X.length ≤ 1000) (hhl : hs.length ≤ 1000) {r : Bool} (hr : Tells r (EntOk X hs)) : Calls Try.prog 19 #[v, hv] w fun e w' => e = .returned (.bool r) ∧ Below w.heap.size w w' := by
  obtain ⟨R, hR⟩ : ∃ R : Ending → World → Prop, (fun e w' => e = .returned (.bool r) ∧ Below w.heap.size w w') = R := ⟨_, rfl⟩
  rw [hR]
  have YES : Hid (EntOk X hs → ∀ W, Below w.heap.size w W → R (.returned (.bool true)) W) := Lib.hid (fun h W hb => by rw [← hR, hr.2 h]; exact ⟨rfl, hb⟩)
  have NO : Hid (¬ EntOk X hs → ∀ W, Below w.heap.size w W → R (.returned (.bool false)) W) := Lib.hid (fun h W hb => by
    have e : r = false := by
      cases r with
      | false => rfl
      | true => exact (h (hr.1 rfl)).elim
    rw [← hR, e]; exact ⟨rfl, hb⟩)
  clear hR hr
  have HW := Lib.hid hh
  obtain ⟨r3, hr3⟩ : ∃ r, Tells r (Given hs) := ⟨@decide (Given hs) (Classical.propDecidable _), @decide_eq_true_iff (Given hs) (Classical.propDecidable _)⟩
  obtain ⟨A, c, rfl, hc, hA⟩ := h
  have C1 := Lib.hid (refRight_any A c X hl w hA)
  have CG := Lib.hid (fun (W : World) (hW : Below w.heap.size w W) => above_c (HW.out.still hW) hhl hr3)
  obtain ⟨A', c', rfl, hc', hA'⟩ := hh
  clear hA hA'
  by_cases hr : RightL X
  case neg =>
    have FX := Lib.hid (fun W hb => NO.out (fun h => hr h.1) W hb)
    rw [decide_eq_false hr] at C1
    clear NO YES hr hr3 CG
    go_enter Try.func19, Try.ntmps19
    go_wp2_with fail
    refine C1.out.mono ?_
    rintro e w1 ⟨rfl, hb1⟩
    have F1 := Lib.hid (FX.out w1 hb1)
    clear FX C1 hb1
    go_wp2_with fail
    exact F1.out
  rw [decide_eq_true hr] at C1
  by_cases hlen : X.length = hs.length
  case neg =>
    have FX := Lib.hid (fun W hb => NO.out (fun h => hlen h.2.1.symm) W hb)
    have jb : ((X.length : Int) == (hs.length : Int)) = false := beq_eq_false_iff_ne.2 (by omega)
    clear NO YES hr hr3 hlen CG
    go_enter Try.func19, Try.ntmps19
    go_wp2_with fail
    refine C1.out.mono ?_
    rintro e w1 ⟨rfl, hb1⟩
    have F1 := Lib.hid (FX.out w1 hb1)
    clear FX C1 hb1
    go_wp2_with fail
    exact F1.out
  have FX : Hid (∀ W, Below w.heap.size w W → R (.returned (.bool r3)) W) := Lib.hid (fun W hb => by
    cases r3 with
    | true => exact YES.out ⟨hr, hlen.symm, hr3.1 rfl⟩ W hb
    | false => exact NO.out (fun h => by have := hr3.2 h.2.2; cases this) W hb)
  have jb : ((hs.length : Int) == (hs.length : Int)) = true := beq_self_eq_true _
  rw [hlen] at C1 ⊢
  clear NO YES hr hr3 hlen hc
  go_enter Try.func19, Try.ntmps19
  go_wp2_with fail
  refine C1.out.mono ?_
  rintro e w1 ⟨rfl, hb1⟩
  have B1 := Lib.hid hb1
  clear C1 hb1
  go_wp2_with fail
  refine (CG.out w1 B1.out).mono ?_
  rintro e w2 ⟨rfl, rfl⟩
  have F1 := Lib.hid (FX.out _ B1.out)
  clear FX CG B1
  cases r3 <;> (go_wp2_with fail; exact F1.out)
set_option maxRecDepth 10000 in
set_option maxHeartbeats 8000000 in
theorem refEntries_c {w : World} {v hv : Value} {X : List Ar} {hs : List Int} (h : Holds w v X) (hh : Wds w hv hs) (hl : X.length ≤ 1000) (hlen : hs.length = X.length) : Calls Try.prog 20 #[v, hv] w fun e w' => ∃ v', e = .returned v' ∧ Mes w.heap.size w' v' (entsFrom 65536 (X.zip hs)) ∧ Below w.heap.size w w' := by
  obtain ⟨j0, hj0, hjz0, hjz1, hjz2⟩ := wentry_info'
  obtain ⟨R, hR⟩ : ∃ R : Ending → World → Prop, (fun e w' => ∃ v', e = .returned v' ∧ Mes w.heap.size w' v' (entsFrom 65536 (X.zip hs)) ∧ Below w.heap.size w w') = R := ⟨_, rfl⟩
  rw [hR]
  have FIN : Hid (∀ W v', Mes w.heap.size W v' ((enTo X hs X.length).1 ++ gapL (enTo X hs X.length).2 2097152) → Below w.heap.size w W → R (.returned v') W) := Lib.hid (fun W v' a b => by rw [← hR]; exact ⟨v', rfl, by rw [← enTo_end X hs hlen]; exact a, b⟩)
  clear hR
  obtain ⟨A, c, rfl, hc, hA⟩ := h
  obtain ⟨A', c', rfl, hc', hA'⟩ := hh
  have CX : Hid (∀ W, Below w.heap.size w W → ∀ i, i < X.length → ∃ b off hb ho, A = some ⟨b, off, none⟩ ∧ A' = some ⟨hb, ho, none⟩ ∧ W.cell? ⟨b, off + i * 6, none⟩ = some (.int .i64 (arAt X i).s) ∧ W.cell? ⟨b, off + i * 6 + 1, none⟩ = some (.int .i64 (arAt X i).e) ∧ W.cell? ⟨hb, ho + i, none⟩ = some (.int .i64 (nth hs i))) := Lib.hid (fun W hW i hi => by
    rcases hA with h0 | ⟨b, off, e, hlt, ha⟩
    · rw [h0] at hi; simp at hi
    · obtain ⟨hb, ho, e', ch⟩ := hA' (by omega)
      have k0 := ch i (by omega)
      have hl2 := World.block_lt_of_cell? w _ k0
      have ar := (ha i hi).below hW hlt
      have e3 : arAt X i = X[i] := by unfold arAt; rw [List.getD_eq_getElem?_getD, List.getElem?_eq_getElem hi]; rfl
      rw [e3]
      exact ⟨b, off, hb, ho, e, e', ar.c0, ar.c1, by rw [hW.cell (p := ⟨hb, ho + i, none⟩) hl2]; exact k0⟩)
  have EL := Lib.hid (enTo_len X hs)
  have ES : Hid (∀ k, enTo X hs (k + 1) = (((enTo X hs k).1 ++ gapL (enTo X hs k).2 (arAt X k).s) ++ [⟨(arAt X k).s, (arAt X k).e, nth hs k⟩], (arAt X k).e)) := Lib.hid (fun k => rfl)
  have E0 : Hid (enTo X hs 0 = ([], 65536)) := Lib.hid rfl
  rw [hlen] at hc' ⊢
  clear hA hA' hlen
  generalize enTo X hs = EN at *
  obtain ⟨n, hn⟩ : ∃ n, X.length = n := ⟨_, rfl⟩
  rw [hn] at CX FIN hc hc' hl ⊢
  clear hn
  go_enter Try.func20, Try.ntmps20
  go_wp2_with fail
  go_loopw [5, 6, 7, 8] (fun ov lv iv _ wr => ∃ i : Nat, i ≤ n + 1 ∧ iv = .int .i64 i ∧ Below w.heap.size w wr ∧ (∃ A n c, ov = .slice A n c) ∧ (i ≤ n → lv = .int .i64 (EN i).2 ∧ Mes w.heap.size wr ov (EN i).1) ∧ (i = n + 1 → Mes w.heap.size wr ov ((EN n).1 ++ gapL (EN n).2 2097152))) (fun _ _ iv _ _ => n + 1 - (intOf iv).toNat)
  case atStart => exact ⟨0, by omega, rfl, Below.refl _ _, ⟨_, _, _, rfl⟩, fun _ => ⟨by rw [E0.out], by rw [E0.out]; exact Mes.nil _ _⟩, fun h => by omega⟩
  case round =>
    obtain ⟨i, hi, rfl, hb, ⟨B0, l0, c0, rfl⟩, hm1, hm2⟩ := hrel
    have hi8 : (i : Int) ≤ 1001 := by omega
    by_cases hin : i ≤ n
    · obtain ⟨rfl, hm⟩ := hm1 hin
      have el := EL.out i
      have ji : (i : Int) ≤ (n : Int) := by omega
      have hl0 : l0 = (EN i).1.length := by
        obtain ⟨A2, c2, e⟩ := own_slice hm
        injection e
      have O := Lib.hid hm
      unfold Mes at O
      rw [← hl0] at O el
      have HL0 := Lib.hid hl0
      clear hl0
      have HB := Lib.hid hb
      have LT : Hid (∀ k, (Value.slice B0 l0 c0).ownBlock = some k → w.heap.size ≤ k) := Lib.hid (fun k hk => (World.ownsRow.lt O.out k hk).1)
      have SZ := Lib.hid hb.size
      by_cases hlt : i < n
      · have j1 : (i : Int) < (n : Int) := by omega
        obtain ⟨b, off, hq, ho, rfl, rfl, a0, a1, kh⟩ := CX.out wr hb i hlt
        have ESI := Lib.hid (ES.out i)
        have CK : Hid (∀ W, Below w.heap.size w W → W.cell? ⟨b, off + i * 6 + 1, none⟩ = some (.int .i64 (arAt X i).e) ∧ W.cell? ⟨hq, ho + i, none⟩ = some (.int .i64 (nth hs i))) := Lib.hid (fun W hW => by
          obtain ⟨b', off', hq', ho', e1, e2, _, k1, k2⟩ := CX.out W hW i hlt
          injection e1 with e1
          injection e1 with f1 f2
          injection e2 with e2
          injection e2 with f3 f4
          subst f1 f2 f3 f4
          exact ⟨k1, k2⟩)
        have hne : i ≠ n := by omega
        clear CX ES FIN E0 EL hm hm1 hm2 hb kh a1
        generalize nth hs i = h at *
        generalize arAt X i = a at *
        obtain ⟨s, e, p, sh, bk, of_⟩ := a
        simp only at a0 ESI CK
        generalize hEI : EN i = es at *
        clear hEI
        obtain ⟨el0, lo0⟩ := es
        simp only at ESI O
        by_cases hg : lo0 < s
        case' pos =>
          have GL : Hid (gapL lo0 s = [⟨lo0, s, 0⟩]) := Lib.hid (by unfold gapL; rw [if_pos hg])
          go_upto_region 11 with (at_builtin; refine wpList_append_lies _ rfl (.tmp 27) (.tmp 31) _ rfl w.heap.size 44 j0 _ 3 24 Try.underlying25 hj0 hjz0 hjz1 hjz2 rfl (by omega) _ l0 _ rfl (O.out.alloc _) ⟨wr.heap.size, 0, none⟩ 1 1 [.int .i64 lo0, .int .i64 s, .int .i64 0] rfl rfl (World.news_of_block (cs := #[.int .i64 lo0, .int .i64 s, .int .i64 0]) (t := 44) (fr := (0, 0)) (heap_alloc_new wr _)) (by simp [Value.oneCell']) (by omega) (by simp only [maxLen]; omega) (by omega) (by have := SZ.out; simp; omega) (wr.heap.size + 1) (by simp) ?_; intro gg cap w7 hown hgrow hat hlt3)
          have O7 := Lib.hid hown
          have B7 := Lib.hid ((HB.out.alloc SZ.out _).grown hgrow (by have := SZ.out; simp; omega) (fun k hk => LT.out k hk))
          have GG : Hid (enCells (el0 ++ gapL lo0 s) = enCells el0 ++ [.int .i64 lo0, .int .i64 s, .int .i64 0] ∧ (el0 ++ gapL lo0 s).length = l0 + 1) := Lib.hid (by
            rw [GL.out, enCells_app, List.length_append, ← HL0.out]
            exact ⟨rfl, rfl⟩)
          rw [← GG.out.1] at O7
          obtain ⟨l7, hl7⟩ : ∃ l7, l0 + 1 = l7 := ⟨_, rfl⟩
          rw [hl7] at O7 GG ⊢
          have k7 : l7 ≤ 2 * i + 1 := by omega
          clear hown hgrow hat hlt3 GL O HB LT SZ a0 hl7 el
        case' neg =>
          have GL : Hid (gapL lo0 s = []) := Lib.hid (by unfold gapL; rw [if_neg hg])
          go_upto_region 11 with (fail)
          obtain ⟨w7, hw7⟩ : ∃ w7, wr = w7 := ⟨_, rfl⟩
          have O7 := Lib.hid O.out
          have B7 := Lib.hid HB.out
          have GG : Hid (enCells (el0 ++ gapL lo0 s) = enCells el0 ∧ (el0 ++ gapL lo0 s).length = l0) := Lib.hid (by
            rw [GL.out, List.append_nil, ← HL0.out]
            exact ⟨rfl, rfl⟩)
          rw [← GG.out.1] at O7
          obtain ⟨l7, hl7⟩ : ∃ l7, l0 = l7 := ⟨_, rfl⟩
          rw [hl7] at O7 GG ⊢
          rw [hw7] at O7 B7 ⊢
          have k7 : l7 ≤ 2 * i + 1 := by omega
          clear GL O HB LT SZ a0 hl7 el hw7
        all_goals (
          have LL := Lib.hid GG.out.2
          clear GG
          generalize el0 ++ gapL lo0 s = ls at *
          have DR := Lib.hid (below_drew (Below.refl w7.heap.size w7))
          have BD := Lib.hid (below_then B7.out DR.out (Nat.le_refl _))
          have OD := Lib.hid (own_still O7.out DR.out)
          have ka := CK.out w7 B7.out
          have kd := CK.out w7.drew BD.out
          have kc := CK.out (w7.drew.alloc (.cells #[.int .i64 s, .int .i64 e, .int .i64 h] 44)) (BD.out.alloc BD.out.size _)
          go_upto_region 12 with (fail)
          go_region_held3 (fun W => W.cell? ⟨b, off + i * 6 + 1, none⟩ = some (.int .i64 e) ∧ W.cell? ⟨hq, ho + i, none⟩ = some (.int .i64 h))
            (first | exact ka | exact kd | exact kc | exact K8)
            (first
              | fail
              | (refine step_append_lies _ (by rfl) (.tmp 37) (.tmp 49) _ (by rfl) w.heap.size 44 j0 _ 3 24 Try.underlying25 hj0 hjz0 hjz1 hjz2 rfl (by omega) _ l7 _ (by rfl) (OD.out.alloc _) ⟨w7.drew.heap.size, 0, none⟩ 1 1 [.int .i64 s, .int .i64 e, .int .i64 h] (by rfl) rfl (World.news_of_block (cs := #[.int .i64 s, .int .i64 e, .int .i64 h]) (t := 44) (fr := (0, 0)) (heap_alloc_new w7.drew _)) (by simp [Value.oneCell']) (by omega) (by simp only [maxLen]; omega) (by omega) (by have := BD.out.size; simp at this ⊢; omega) _ rfl ?_; intro g8 cap8 w8 hown hgrow hat hlt3; have NB := Lib.hid ((BD.out.alloc BD.out.size _).grown hgrow (by have := BD.out.size; simp at this ⊢; omega) (fun k hk => (World.ownsRow.lt OD.out k hk).1)); have K8 := CK.out w8 NB.out; have GW := Lib.hid hown; clear hown hgrow hat hlt3))
          have NX : Hid (Mes w.heap.size w8 (.slice (some ⟨g8, 0, none⟩) (l7 + 1) cap8) (ls ++ [⟨s, e, h⟩])) := Lib.hid (by
            unfold Mes
            rw [List.length_append, LL.out, enCells_app]
            exact GW.out)
          have k8 := K8.1
          rename_i hHeld
          clear hHeld ka kd kc K8 GW O7 OD B7 BD DR CK LL
          go_wp2_with fail
          go_roundw
          case rel => exact ⟨i + 1, by omega, by go_num, NB.out, ⟨_, _, _, rfl⟩, fun _ => ⟨by rw [ESI.out], by rw [ESI.out]; exact NX.out⟩, fun h => by omega⟩
          case measure => simp [intOf]; omega)
      · have e : i = n := by omega
        subst e
        have j1 : ¬ (i : Int) < (i : Int) := by omega
        clear CX ES FIN E0 EL hm hm1 hm2 hb
        generalize hEI : EN i = es at *
        clear hEI
        obtain ⟨el0, lo0⟩ := es
        simp only at O HL0
        by_cases hg : lo0 < 2097152
        · have GL : Hid (gapL lo0 2097152 = [⟨lo0, 2097152, 0⟩]) := Lib.hid (by unfold gapL; rw [if_pos hg])
          go_upto_region 11 with (at_builtin; refine wpList_append_lies _ rfl (.tmp 27) (.tmp 31) _ rfl w.heap.size 44 j0 _ 3 24 Try.underlying25 hj0 hjz0 hjz1 hjz2 rfl (by omega) _ l0 _ rfl (O.out.alloc _) ⟨wr.heap.size, 0, none⟩ 1 1 [.int .i64 lo0, .int .i64 2097152, .int .i64 0] rfl rfl (World.news_of_block (cs := #[.int .i64 lo0, .int .i64 2097152, .int .i64 0]) (t := 44) (fr := (0, 0)) (heap_alloc_new wr _)) (by simp [Value.oneCell']) (by omega) (by simp only [maxLen]; omega) (by omega) (by have := SZ.out; simp; omega) (wr.heap.size + 1) (by simp) ?_; intro gg cap w7 hown hgrow hat hlt3)
          have B7 := Lib.hid ((HB.out.alloc SZ.out _).grown hgrow (by have := SZ.out; simp; omega) (fun k hk => LT.out k hk))
          have NX : Hid (Mes w.heap.size w7 (.slice (some ⟨gg, 0, none⟩) (l0 + 1) cap) (el0 ++ gapL lo0 2097152)) := Lib.hid (by
            unfold Mes
            rw [GL.out, List.length_append, enCells_app, ← HL0.out]
            exact hown)
          clear hown hgrow hat hlt3 O HB LT SZ GL
          go_wp2_with fail
          go_roundw
          case rel => exact ⟨i + 1, by omega, by go_num, B7.out, ⟨_, _, _, rfl⟩, fun h => by omega, fun _ => NX.out⟩
          case measure => simp [intOf]
        · have NX : Hid (Mes w.heap.size wr (.slice B0 l0 c0) (el0 ++ gapL lo0 2097152)) := Lib.hid (by
            unfold gapL
            rw [if_neg hg, List.append_nil]
            unfold Mes
            rw [← HL0.out]
            exact O.out)
          clear O LT SZ
          go_wp2_with fail
          go_roundw
          case rel => exact ⟨i + 1, by omega, by go_num, HB.out, ⟨_, _, _, rfl⟩, fun h => by omega, fun _ => NX.out⟩
          case measure => simp [intOf]
    · have e : i = n + 1 := by omega
      have FX := Lib.hid (FIN.out wr _ (hm2 e) hb)
      have ji : ¬ (i : Int) ≤ (n : Int) := by omega
      clear CX ES FIN E0 EL hm1 hm2 hb e
      go_wp2_with fail
      exact FX.out
end Go.Proofs.Ytejkhnphplpkeaa
