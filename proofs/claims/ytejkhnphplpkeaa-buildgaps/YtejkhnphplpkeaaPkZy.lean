/-
  Texts of our own, one behind the other (BdList): what the laws' proofs rest on; each says at its head what it holds. No conditions.
-/
import Derived.Test.YtejkhnphplpkeaaPkZx
/-
  Layer 18: build.Entries.
-/
namespace Go.Proofs.Ytejkhnphplpkeaa
open Go.ChangeShapes Go.WideShapes Go.ChangeAt Go.RowKit Go.Shelf
set_option linter.unusedVariables false

/-- May a list have these handles? -/
def EntOk (X : List Ar) (hs : List Int) : Prop := RightL X ∧ hs.length = X.length ∧ Given hs
def EntPost (w : World) (X : List Ar) (hs : List Int) (e : Ending) (w' : World) : Prop :=
  (¬ EntOk X hs → e = .returned (.slice none 0 0) ∧ Below w.heap.size w w') ∧
  (EntOk X hs → ∃ v, e = .returned v ∧ Mes w.heap.size w' v (entsFrom 65536 (X.zip hs)) ∧ Below w.heap.size w w')
theorem gapped_r {base : Nat} {w : World} {v : Value} {l : List En} (h : Mes base w v l) (hl : l.length ≤ 5000) (hB : base ≤ w.heap.size) (lo hi : Int) : Calls Try.prog 38 #[v, .int .i64 lo, .int .i64 hi] w fun e w' => ∃ V n c ls, e = .returned (.slice V n c) ∧ ls = l ++ gapL lo hi ∧ ls.length = n ∧ n ≤ l.length + 1 ∧ w'.ownsRow base 44 3 (.slice V n c) n (enCells ls) ∧ Only (fun k => v.ownBlock = some k) w w' := by
  refine (gapped_c h hl hB lo hi).mono ?_
  rintro e w' ⟨v', rfl, hm, ho⟩
  obtain ⟨V, c, rfl⟩ := own_slice hm
  exact ⟨V, _, c, _, rfl, rfl, rfl, by have := gapL_len lo hi; rw [List.length_append]; omega, hm, ho⟩
set_option maxRecDepth 10000 in
set_option maxHeartbeats 8000000 in
theorem entries18_c {w : World} {v hv : Value} {X : List Ar} {hs : List Int} (h : Holds w v X) (hh : Wds w hv hs) (hl : X.length ≤ 1000) (hhl : hs.length ≤ 1000) : Calls Try.prog 10 #[v, hv] w (EntPost w X hs) := by
  have hnot : ∀ (x : Bool) (w : World), (Op.unary .not (.bool x)).run Try.prog w = .ok (.bool (!x)) w := fun _ _ => rfl
  obtain ⟨j0, hj0, hjz0, hjz1, hjz2⟩ := wentry_info'
  obtain ⟨R, hR⟩ : ∃ R, EntPost w X hs = R := ⟨_, rfl⟩
  rw [hR]
  have NO : Hid (¬ EntOk X hs → ∀ W, Below w.heap.size w W → R (.returned (.slice none 0 0)) W) := Lib.hid (fun hn W hb => by rw [← hR]; exact ⟨fun _ => ⟨rfl, hb⟩, fun h => (hn h).elim⟩)
  have YES : Hid (EntOk X hs → ∀ W v, Below w.heap.size w W → Mes w.heap.size W v (entsFrom 65536 (X.zip hs)) → R (.returned v) W) := Lib.hid (fun hy W v hb hp => by rw [← hR]; exact ⟨fun hn => (hn hy).elim, fun _ => ⟨v, rfl, hp, hb⟩⟩)
  clear hR
  have HW := Lib.hid hh
  obtain ⟨r3, hr3⟩ : ∃ r, Tells r (Given hs) := ⟨@decide (Given hs) (Classical.propDecidable _), @decide_eq_true_iff (Given hs) (Classical.propDecidable _)⟩
  obtain ⟨A, c, rfl, hc, hA⟩ := h
  have C1 := Lib.hid (right_any A X c (by omega) w hA)
  have HA := Lib.hid hA
  obtain ⟨A', c', rfl, hc', hA'⟩ := hh
  clear hA
  by_cases hr : RightL X
  case neg =>
    have FX := Lib.hid (fun W hb => NO.out (fun h => hr h.1) W hb)
    rw [decide_eq_false hr] at C1
    clear NO YES hr hr3 hA' HA
    go_enter Try.func10, Try.ntmps10
    go_wp2_with fail
    refine C1.out.mono ?_
    rintro e w1 ⟨rfl, hb1⟩
    have F1 := Lib.hid (FX.out w1 hb1)
    clear FX C1 hb1
    go_wp2_with fail
    exact F1.out
  rw [decide_eq_true hr] at C1
  by_cases hlen : hs.length = X.length
  case neg =>
    have FX := Lib.hid (fun W hb => NO.out (fun h => hlen h.2.1) W hb)
    have jb : ((hs.length : Int) != (X.length : Int)) = true := bne_iff_ne.2 (by omega)
    clear NO YES hr hr3 hA' HA hlen
    go_enter Try.func10, Try.ntmps10
    go_wp2_with fail
    refine C1.out.mono ?_
    rintro e w1 ⟨rfl, hb1⟩
    have F1 := Lib.hid (FX.out w1 hb1)
    clear FX C1 hb1
    go_wp2_with fail
    exact F1.out
  have CG := Lib.hid (fun (W : World) (hW : Below w.heap.size w W) => given_c (HW.out.still hW) hhl hr3)
  have CX : Hid (∀ W, Below w.heap.size w W → ∀ i, i < X.length → ∃ b off hb ho, A = some ⟨b, off, none⟩ ∧ A' = some ⟨hb, ho, none⟩ ∧ AreaAt W b (off + i * 6) (arAt X i) ∧ W.cell? ⟨hb, ho + i, none⟩ = some (.int .i64 (nth hs i)) ∧ hb < w.heap.size) := Lib.hid (fun W hW i hi => by
    rcases HA.out with h0 | ⟨b, off, e, hlt, ha⟩
    · rw [h0] at hi; simp at hi
    · obtain ⟨hb, ho, e', ch⟩ := hA' (by omega)
      have k0 := ch i (by omega)
      have hl2 := World.block_lt_of_cell? w _ k0
      refine ⟨b, off, hb, ho, e, e', ?_, ?_, hl2⟩
      · have := (ha i hi).below hW hlt
        have e3 : arAt X i = X[i] := by unfold arAt; rw [List.getD_eq_getElem?_getD, List.getElem?_eq_getElem hi]; rfl
        rw [e3]
        exact this
      · rw [hW.cell (p := ⟨hb, ho + i, none⟩) hl2]; exact k0)
  have jn : (hs.length : Int) = (X.length : Int) := by omega
  cases r3 with
  | false =>
    have FX := Lib.hid (fun W hb => NO.out (fun h => by have := hr3.2 h.2.2; cases this) W hb)
    rw [hlen] at CG hc' ⊢
    clear NO YES hr hr3 hA' HA hlen CX jn
    go_enter Try.func10, Try.ntmps10
    go_wp2_with fail
    refine C1.out.mono ?_
    rintro e w1 ⟨rfl, hb1⟩
    have B1 := Lib.hid hb1
    clear C1 hb1
    go_wp2_with fail
    refine (CG.out w1 B1.out).mono ?_
    rintro e w2 ⟨rfl, rfl⟩
    have F1 := Lib.hid (FX.out _ B1.out)
    clear FX CG B1
    go_wp2_with fail
    exact F1.out
  | true =>
    have ok : EntOk X hs := ⟨hr, hlen, hr3.1 rfl⟩
    have FIN : Hid (∀ W v', Mes w.heap.size W v' ((enTo X hs X.length).1 ++ gapL (enTo X hs X.length).2 2097152) → Below w.heap.size w W → R (.returned v') W) := Lib.hid (fun W v' a b => YES.out ok W v' b (by rw [← enTo_end X hs hlen]; exact a))
    have EL := Lib.hid (enTo_len X hs)
    have ES : Hid (∀ k, enTo X hs (k + 1) = (((enTo X hs k).1 ++ gapL (enTo X hs k).2 (arAt X k).s) ++ [⟨(arAt X k).s, (arAt X k).e, nth hs k⟩], (arAt X k).e)) := Lib.hid (fun k => rfl)
    have E0 : Hid (enTo X hs 0 = ([], 65536)) := Lib.hid rfl
    rw [hlen] at CG hc' ⊢
    clear NO YES hr hr3 hA' HA hlen jn ok HW
    generalize enTo X hs = EN at *
    obtain ⟨n, hn⟩ : ∃ n, X.length = n := ⟨_, rfl⟩
    rw [hn] at C1 CG CX FIN hc hc' hl ⊢
    clear hn
    go_enter Try.func10, Try.ntmps10
    go_wp2_with fail
    refine C1.out.mono ?_
    rintro e w1 ⟨rfl, hb1⟩
    have B1 := Lib.hid hb1
    clear C1 hb1
    go_wp2_with fail
    refine (CG.out w1 B1.out).mono ?_
    rintro e w2 ⟨rfl, rfl⟩
    clear CG
    go_wp2_with fail
    go_loopw [5, 6, 7, 8, 26] (fun ov lv _ _ iv wr => ∃ i : Nat, i ≤ n ∧ iv = .int .i64 i ∧ lv = .int .i64 (EN i).2 ∧ Mes w.heap.size wr ov (EN i).1 ∧ Below w.heap.size w wr) (fun _ _ _ _ iv _ => n - (intOf iv).toNat)
    case atStart => exact ⟨0, by omega, rfl, by rw [E0.out], by rw [E0.out]; exact Mes.nil _ _, B1.out⟩
    case round =>
      obtain ⟨i, hi, rfl, rfl, hm, hb⟩ := hrel
      have el := EL.out i
      have hi8 : (i : Int) ≤ 1000 := by omega
      obtain ⟨B0, c0, rfl⟩ := own_slice hm
      have HM := Lib.hid hm
      have HB := Lib.hid hb
      by_cases hlt : i < n
      · have j1 : (i : Int) < (n : Int) := by omega
        obtain ⟨b, off, hq, ho, rfl, rfl, ⟨a0, a1, a2, a3, a4, a5⟩, kh, khl⟩ := CX.out wr hb i hlt
        have ESI := Lib.hid (ES.out i)
        have CH : Hid (∀ W, Below w.heap.size w W → W.cell? ⟨hq, ho + i, none⟩ = some (.int .i64 (nth hs i))) := Lib.hid (fun W hW => by
          obtain ⟨b', off', hq', ho', e1, e2, _, k, _⟩ := CX.out W hW i hlt
          injection e2 with e2
          injection e2 with f1 f2
          subst f1
          subst f2
          exact k)
        clear CX ES FIN E0 EL hm hb kh
        generalize nth hs i = h at *
        generalize arAt X i = a at *
        obtain ⟨s, e, p, sh, bk, of_⟩ := a
        simp only at a0 a1 a2 a3 a4 a5 ESI
        generalize hEI : EN i = es at *
        clear hEI
        obtain ⟨el0, lo0⟩ := es
        simp only at ESI HM el
        have PX := Lib.hid (Whole.new wr 74 #[.int .i64 s, .int .i64 e, .int .i64 p, .bool sh, .int .i64 bk, .int .i64 of_])
        have BX := Lib.hid (below_new wr (.cells #[.int .i64 s, .int .i64 e, .int .i64 p, .bool sh, .int .i64 bk, .int .i64 of_] 74))
        go_upto_region 8 with (fail)
        have MX := Lib.hid (own_still HM.out BX.out)
        have B2 := Lib.hid (below_then HB.out BX.out (Nat.le_refl _))
        obtain ⟨wp, hwp⟩ : ∃ W, wr.alloc (.cells #[.int .i64 s, .int .i64 e, .int .i64 p, .bool sh, .int .i64 bk, .int .i64 of_] 74) = W := ⟨_, rfl⟩
        rw [hwp] at PX BX MX B2 ⊢
        obtain ⟨qa, hqa⟩ : ∃ q, wr.heap.size = q := ⟨_, rfl⟩
        rw [hqa] at PX ⊢
        clear hwp hqa HM HB BX a0 a1 a2 a3 a4 a5
        have p0 : wp.cell? ⟨qa, 0, none⟩ = some (.int .i64 s) := PX.out.cell 0
        have p1 : wp.cell? ⟨qa, 1, none⟩ = some (.int .i64 e) := PX.out.cell 1
        have DR : Hid (Below wp.heap.size wp wp.drew) := Lib.hid (below_drew (Below.refl _ _))
        have MD := Lib.hid (own_still MX.out DR.out)
        have PD := Lib.hid (PX.out.below DR.out PX.out.lt)
        have BD := Lib.hid (below_then B2.out DR.out (Nat.le_refl _))
        have HS := Lib.hid (fun (W : World) (hP : Whole W qa 74 #[.int .i64 s, .int .i64 e, .int .i64 p, .bool sh, .int .i64 bk, .int .i64 of_]) (hW : Below w.heap.size w W) => And.intro (show W.cell? ⟨qa, 0, none⟩ = some (.int .i64 s) from hP.cell 0) (And.intro (show W.cell? ⟨qa, 1, none⟩ = some (.int .i64 e) from hP.cell 1) (CH.out W hW)))
        have ka := HS.out wp PX.out B2.out
        have kd := HS.out wp.drew PD.out BD.out
        have DB : Hid (Below wp.heap.size wp (wp.alloc (.cells #[.int .i64 s, .int .i64 e, .int .i64 h] 44)).drew) := Lib.hid (below_drew (below_new wp _))
        have MB := Lib.hid (own_still MX.out DB.out)
        have PB := Lib.hid (PX.out.below DB.out PX.out.lt)
        have BB := Lib.hid (below_then B2.out DB.out (Nat.le_refl _))
        have NB0 : Hid (Whole (wp.alloc (.cells #[.int .i64 s, .int .i64 e, .int .i64 h] 44)).drew wp.heap.size 44 #[.int .i64 s, .int .i64 e, .int .i64 h]) := Lib.hid (Whole.new wp _ _)
        have kb := HS.out (wp.alloc (.cells #[.int .i64 s, .int .i64 e, .int .i64 h] 44)).drew PB.out BB.out
        go_region_held3 (fun W => W.cell? ⟨qa, 0, none⟩ = some (.int .i64 s) ∧ W.cell? ⟨qa, 1, none⟩ = some (.int .i64 e) ∧ W.cell? ⟨hq, ho + i, none⟩ = some (.int .i64 h))
          (first | exact ka | exact kd | exact kb | exact K7 | exact K8 | exact K9)
          (first
            | (go_at_call 38; refine (gapped_r (base := w.heap.size) MD.out (by omega) BD.out.size lo0 s).mono ?_; rintro eg w7 ⟨V7, ln, c7, ls, rfl, hls, hln, hn7, hm7, ho7⟩; have HLS := Lib.hid hls; have HLN := Lib.hid hln; have P7 := Lib.hid (PD.out.only ho7 (fun hk => own_apart MD.out PD.out (by decide) hk)); have B7 := Lib.hid (BD.out.trans (ho7.below (fun k hk => (World.ownsRow.lt MD.out k hk).1) BD.out.size)); have M7 := Lib.hid hm7; have K7 := HS.out w7 P7.out B7.out; have K8 := HS.out (w7.alloc (.cells #[.int .i64 s, .int .i64 e, .int .i64 h] 44)) (P7.out.alloc _) (B7.out.alloc B7.out.size _); clear hm7 ho7 hls hln)
            | (go_at_call 38; refine (gapped_r (base := w.heap.size) MB.out (by omega) BB.out.size lo0 s).mono ?_; rintro eg w7 ⟨V7, ln, c7, ls, rfl, hls, hln, hn7, hm7, ho7⟩; have HLS := Lib.hid hls; have HLN := Lib.hid hln; have P7 := Lib.hid (PB.out.only ho7 (fun hk => own_apart MB.out PB.out (by decide) hk)); have N7 := Lib.hid (NB0.out.only ho7 (fun hk => Nat.lt_irrefl _ (World.ownsRow.lt MX.out _ hk).2)); have B7 := Lib.hid (BB.out.trans (ho7.below (fun k hk => (World.ownsRow.lt MB.out k hk).1) BB.out.size)); have M7 := Lib.hid hm7; have K7 := HS.out w7 P7.out B7.out; clear hm7 ho7 hls hln)
            | (refine step_append_lies _ (by rfl) (.tmp 35) (.tmp 45) _ (by rfl) w.heap.size 44 j0 _ 3 24 Try.underlying25 hj0 hjz0 hjz1 hjz2 rfl (by omega) _ ln _ (by rfl) (M7.out.alloc _) ⟨w7.heap.size, 0, none⟩ 1 1 [.int .i64 s, .int .i64 e, .int .i64 h] (by rfl) rfl (World.news_of_block (cs := #[.int .i64 s, .int .i64 e, .int .i64 h]) (t := 44) (fr := (0, 0)) (heap_alloc_new w7 _)) (by simp [Value.oneCell']) (by omega) (by simp only [maxLen]; omega) (by omega) (by have := B7.out.size; simp; omega) (w7.heap.size + 1) (by simp) ?_; intro gg cap w8 hown hgrow hat hlt3; have P8 := Lib.hid ((P7.out.alloc _).grown hgrow (fun he => own_apart M7.out P7.out (by decide) he.symm)); have NB := Lib.hid ((B7.out.alloc B7.out.size _).grown hgrow (by have := B7.out.size; simp; omega) (fun k hk => (World.ownsRow.lt M7.out k hk).1)); have K9 := HS.out w8 P8.out NB.out; have GW := Lib.hid hown; clear hown hgrow hat hlt3)
            | (refine step_append_lies _ (by rfl) (.tmp 35) (.tmp 45) _ (by rfl) w.heap.size 44 j0 _ 3 24 Try.underlying25 hj0 hjz0 hjz1 hjz2 rfl (by omega) _ ln _ (by rfl) M7.out ⟨wp.heap.size, 0, none⟩ 1 1 [.int .i64 s, .int .i64 e, .int .i64 h] (by rfl) rfl (World.news_of_block (cs := #[.int .i64 s, .int .i64 e, .int .i64 h]) (t := 44) (fr := (0, 0)) N7.out) (by simp [Value.oneCell']) (by omega) (by simp only [maxLen]; omega) (by omega) B7.out.size _ rfl ?_; intro gg cap w8 hown hgrow hat hlt3; have P8 := Lib.hid (P7.out.grown hgrow (fun he => own_apart M7.out P7.out (by decide) he.symm)); have NB := Lib.hid (B7.out.grown hgrow B7.out.size (fun k hk => (World.ownsRow.lt M7.out k hk).1)); have K9 := HS.out w8 P8.out NB.out; have GW := Lib.hid hown; clear hown hgrow hat hlt3 N7)
            | fail)
        all_goals (
          have NX : Hid (Mes w.heap.size w8 (.slice (some ⟨gg, 0, none⟩) (ln + 1) cap) ((el0 ++ gapL lo0 s) ++ [⟨s, e, h⟩])) := Lib.hid (by
            unfold Mes
            rw [← HLS.out, List.length_append, HLN.out, enCells_app]
            exact GW.out)
          have n1 : w8.cell? ⟨qa, 1, none⟩ = some (.int .i64 e) := P8.out.cell 1
          rename_i hHeld
          try clear K8
          clear hHeld ka kd kb K7 K9 GW P7 M7 B7 HS MD PD BD DR MX PX B2 CH P8 p0 p1 MB PB BB NB0 DB
          go_wp2_with fail
          go_roundw
          case rel => exact ⟨i + 1, by omega, by go_num, by rw [ESI.out], by rw [ESI.out]; exact NX.out, NB.out⟩
          case measure => simp [intOf]; omega)
      · have e : i = n := by omega
        subst e
        have j1 : ¬ (i : Int) < (i : Int) := by omega
        have CG := Lib.hid (gapped_r HM.out (by omega) HB.out.size (EN i).2 2097152)
        have FN := Lib.hid (fun v' W hm ho => FIN.out W v' hm (HB.out.trans (Only.below (S := fun k => (Value.slice B0 (EN i).1.length c0).ownBlock = some k) ho (fun k hk => (World.ownsRow.lt HM.out k hk).1) HB.out.size)))
        clear FIN CX ES EL E0 hm hb HM HB el
        generalize (EN i).1.length = ln at *
        generalize (EN i).2 = l2 at *
        go_wp2_with fail
        refine CG.out.mono ?_
        rintro e w7 ⟨V7, l7, c7, ls, rfl, hls, hln, _, hm7, ho7⟩
        have FX := Lib.hid (FN.out (.slice V7 l7 c7) w7 (by rw [← hls]; unfold Mes; rw [hln]; exact hm7) ho7)
        clear FN CG hm7 ho7 hls hln
        go_wp2_with fail
        exact FX.out
end Go.Proofs.Ytejkhnphplpkeaa
