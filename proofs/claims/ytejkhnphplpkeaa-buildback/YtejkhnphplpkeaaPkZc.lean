/-
  Texts of our own, one behind the other (WkThru, WkEvery): what the laws' proofs rest on; each says at its head what it holds. No conditions.
-/
import Derived.Test.YtejkhnphplpkeaaPkZb
import Derived.Deep.AppendLies
import Derived.Deep.RegionLaw
/-
  Layer 17: going through a tree: a contract for the call that calls itself.
-/
namespace Go.Proofs.Ytejkhnphplpkeaa
open Go.ChangeShapes Go.WideShapes Go.ChangeAt Go.RowKit
set_option linter.unusedVariables false

theorem wentry_info : (Try.prog.info? 44).map (fun i => (i.zero, i.size, i.bytes)) = some (some (.agg #[.int .i64 0, .int .i64 0, .int .i64 0]), 3, 24) := by kernel_rfl
theorem wentry_info' : ∃ i0, Try.prog.info? 44 = some i0 ∧ i0.zero = some (.agg #[.int .i64 0, .int .i64 0, .int .i64 0]) ∧ i0.size = 3 ∧ i0.bytes = 24 := by
  obtain ⟨i0, h1, h2⟩ := Option.map_eq_some_iff.1 wentry_info
  simp only [Prod.mk.injEq] at h2
  exact ⟨i0, h1, h2.1, h2.2.1, h2.2.2⟩
theorem wint_info' : ∃ i0, Try.prog.info? 2 = some i0 ∧ i0.zero = some (.int .i64 0) ∧ i0.size = 1 ∧ i0.bytes = 8 := by
  obtain ⟨i0, h1, h2⟩ := Option.map_eq_some_iff.1 int_info
  simp only [Prod.mk.injEq] at h2
  exact ⟨i0, h1, h2.1, h2.2.1, h2.2.2⟩
theorem zip_drop {e s : List Int} (hl : s.length = e.length) (r : Nat) (hr : r < e.length) : (e.zip s).drop r = (nth e r, nth s r) :: (e.zip s).drop (r + 1) := by
  have h1 : r < (e.zip s).length := by simp; omega
  rw [List.drop_eq_getElem_cons h1]
  congr 1
  rw [List.getElem_zip]
  unfold nth
  rw [List.getD_eq_getElem?_getD, List.getElem?_eq_getElem hr, List.getD_eq_getElem?_getD, List.getElem?_eq_getElem (by omega)]
  rfl

/-- How many reads may still be done. -/
def thN (s : Thru) : Nat := 26 * (64 - s.ns.length)
def thO : Option Thru → Nat
  | none => 0
  | some s => thN s
/-- What the call leaves. -/
def ThPost (w : World) (b g tb ab ag : Nat) (tv mv : Value) (base sb : Nat) (ev nv : Value) (G : Int) (n : Nat) (O : WEnd (Option Thru)) (e : Ending) (w' : World) : Prop :=
  ∃ tv' mv' ev' nv', e = .returned (.bool O.a.isSome) ∧ SMoved w b g tb ab ag tv mv sb ev nv w' tv' mv' ev' nv' ∧ Sat w' b g tb ab ag tv' mv' O.T O.m O.x G (n + thO O.a) ∧ ∀ s', O.a = some s' → SeenAt w' b g tb ab ag tv' mv' base sb ev' nv' s' ∧ s'.ns.length ≤ 64 ∧ s'.es.length ≤ 8 * s'.ns.length
section
variable {b g tb ab ag base sb : Nat} {G : Int} {n : Nat}
/-- Where its loop stands: in a leaf (extra: the entries still to come), or an inner node. -/
def ThRel (w : World) (b g tb ab ag : Nat) (tv mv : Value) (base sb : Nat) (ev nv : Value) (x : Wi) (G : Int) (n : Nat) (O : WEnd (Option Thru)) (k p : Nat) (nd : Nd) (u y z : Value) (lv iv : Value) (wr : World) : Prop :=
  ∃ (r : Nat) (lo : Int) (tv' mv' ev' nv' : Value) (T' : Tr) (m' : Mm) (x' : Wi) (s' : Thru), r ≤ nd.ends.length ∧ lv = .int .i64 lo ∧ iv = .int .i64 r ∧ Sat wr b g tb ab ag tv' mv' T' m' x' G (n + thN s') ∧ SeenAt wr b g tb ab ag tv' mv' base sb ev' nv' s' ∧ SMoved w b g tb ab ag tv mv sb ev nv wr tv' mv' ev' nv' ∧
    NdAt wr b g tb ab ag tv' mv' sb ev' nv' p nd u y z ∧ (x'.fst = x.fst ∧ x'.l = x.l) ∧ (s'.ns.length ≤ 64 ∧ s'.es.length + (if nd.inner then 0 else nd.ends.length - r) ≤ 8 * s'.ns.length) ∧
    O = wend (thruE (thru (fun h => cellOf x.fst x.l.length h) k) nd.inner lo ((nd.ends.zip nd.slots).drop r) s') T' m' x'

/-- What a call for each height below is. -/
def ThAll (b g tb ab ag base sb : Nat) (G : Int) (n k : Nat) : Prop := ∀ (w : World) (tv mv ev nv : Value) (T : Tr) (m : Mm) (x : Wi) (s : Thru) (h : Int), Sat w b g tb ab ag tv mv T m x G (n + thN s) → SeenAt w b g tb ab ag tv mv base sb ev nv s → h ≤ 9223372036854775807 → base ≤ w.heap.size → s.ns.length ≤ 64 → s.es.length ≤ 8 * s.ns.length →
  Calls Try.prog 72 #[.pointer (some ⟨tb, 0, none⟩), .pointer (some ⟨ab, 0, none⟩), .int .i64 h, .int .i64 k, .pointer (some ⟨sb, 0, none⟩)] w (ThPost w b g tb ab ag tv mv base sb ev nv G n (wend (thru (fun h => cellOf x.fst x.l.length h) k h s) T m x))

set_option maxHeartbeats 1000000 in
theorem thru_zero : ThAll b g tb ab ag base sb G n 0 := by
  intro w tv mv ev nv T m x s h H S hh hb h64 h8
  have FIN : Hid (ThPost w b g tb ab ag tv mv base sb ev nv G n (wend (thru (fun h => cellOf x.fst x.l.length h) 0 h s) T m x) (.returned (.bool false)) w) := Lib.hid ⟨tv, mv, ev, nv, rfl, SMoved.refl .., H.less (by show n + 0 ≤ _; omega), fun s' e => by cases e⟩
  clear H S
  generalize ThPost w b g tb ab ag tv mv base sb ev nv G n (wend (thru (fun h => cellOf x.fst x.l.length h) 0 h s) T m x) = R at *
  go_enter Try.func72, Try.ntmps72
  go_wp2_with fail
  exact FIN.out
set_option maxRecDepth 100000 in
set_option maxHeartbeats 8000000 in
theorem thru_succ (k : Nat) (hk : k < 8) (IH : ThAll b g tb ab ag base sb G n k) : ThAll b g tb ab ag base sb G n (k + 1) := by
  intro w tv mv ev nv T m x s h H S hh hb h64 h8
  have hnot : ∀ (x : Bool) (w : World), (Op.unary .not (.bool x)).run Try.prog w = .ok (.bool (!x)) w := fun _ _ => rfl
  have ih := Lib.hid IH
  clear IH
  obtain ⟨OO, hO⟩ : ∃ O, wend (thru (fun h => cellOf x.fst x.l.length h) (k + 1) h s) T m x = O := ⟨_, rfl⟩
  rw [hO]
  unfold thru at hO
  obtain ⟨R, hR⟩ : ∃ R, ThPost w b g tb ab ag tv mv base sb ev nv G n OO = R := ⟨_, rfl⟩
  rw [hR]
  have FIN : Hid (∀ w1 tv1 mv1 ev1 nv1 (r : Option Thru) T1 m1 x1, OO = ⟨r, T1, m1, x1⟩ → SMoved w b g tb ab ag tv mv sb ev nv w1 tv1 mv1 ev1 nv1 → Sat w1 b g tb ab ag tv1 mv1 T1 m1 x1 G (n + thO r) → (∀ s', r = some s' → SeenAt w1 b g tb ab ag tv1 mv1 base sb ev1 nv1 s' ∧ s'.ns.length ≤ 64 ∧ s'.es.length ≤ 8 * s'.ns.length) → R (.returned (.bool r.isSome)) w1) := Lib.hid (by
    intro w1 tv1 mv1 ev1 nv1 r T1 m1 x1 e mo sa se
    rw [← hR, e]
    exact ⟨tv1, mv1, ev1, nv1, rfl, mo, sa, se⟩)
  clear hR
  obtain ⟨A2, c2, rfl⟩ := own_slice S.ns
  have d1 : w.cell? ⟨sb, 1, none⟩ = some (.slice A2 s.ns.length c2) := S.top.cell 1
  have k0 : ((k : Int) + 1 == 0) = false := by simp; omega
  have hw1 : IntKind.i64.wrap ((k : Int) + 1 - 1) = (k : Int) := by rw [IntKind.wrap_i64]; omega
  have hw2 : wrap64 ((k : Int) + 1 - 1) = (k : Int) := by unfold wrap64; omega
  have HB := Lib.hid hb
  have H8 := Lib.hid h8
  have H64 := Lib.hid h64
  clear h8 h64 hb
  by_cases hl : s.ns.length = 64
  · rw [if_pos hl] at hO
    have FX := Lib.hid (FIN.out w tv mv ev (.slice A2 s.ns.length c2) none T m x hO.symm (SMoved.refl ..) (H.less (by show n + 0 ≤ _; omega)) (fun s' e => by cases e))
    have l64 : ((s.ns.length : Int) == 64) = true := by simp; omega
    clear FIN hO H S
    go_enter Try.func72, Try.ntmps72
    go_wp2_with fail
    exact FX.out
  · rw [if_neg hl, wend_bind] at hO
    have l64 : ((s.ns.length : Int) == 64) = false := by simp; omega
    have hl63 : s.ns.length < 64 := by have := H64.out; omega
    have eN : thN s = 26 * (64 - (s.ns.length + 1)) + 26 := by unfold thN; omega
    rw [eN] at H
    have C := Lib.hid (node_cx (n := n + 26 * (64 - (s.ns.length + 1))) h (by rw [Nat.add_assoc]; exact H) hh)
    have ws := wend_same (nodeP (cellOf x.fst x.l.length h) h) T m x
    have nf := node_fit (cellOf x.fst x.l.length h) h (x := x) H.ft H.fm
    generalize wend (nodeP (cellOf x.fst x.l.length h) h) T m x = q at *
    obtain ⟨nr, T1, m1, x1⟩ := q
    simp only at hO ws nf
    have HO := Lib.hid hO
    have WS := Lib.hid ws
    have NF := Lib.hid nf
    have HS := Lib.hid S
    have HH := Lib.hid H.st
    have HL := Lib.hid hl63
    clear hO ws nf S H eN hl hl63
    go_enter Try.func72, Try.ntmps72
    go_wp2_with fail
    refine C.out.mono ?_
    rintro e w1 ⟨v, tv1, mv1, rfl, hv, hap, s1, mo1⟩
    have S1 := Lib.hid s1
    have M1 := Lib.hid mo1
    have A1 := Lib.hid hv
    have AP := Lib.hid hap
    clear s1 mo1 hv hap C d1
    cases nr with
    | none =>
      have hv : v = .tuple #[nilN, .bool false] := A1.out
      subst hv
      unfold nilN at *
      have FX : Hid (∀ o, R (.returned (.bool false)) (w1.alloc o)) := Lib.hid (fun o => FIN.out _ tv1 mv1 ev (.slice A2 s.ns.length c2) none T1 m1 x1 HO.out.symm ((SMoved.of_w M1.out).trans (SMoved.still (below_new w1 o) ..)) ((S1.out.still (below_new w1 o)).less (by show n + 0 ≤ _; omega)) (fun s' e => by cases e))
      clear FIN HO S1 M1 A1 AP ih HH HS NF WS
      go_wp2_with fail
      exact FX.out _
    | some nd =>
      obtain ⟨u, y, z, rfl, hmi⟩ : nodeA w.heap.size (some nd) v w1 := A1.out
      have hnf := NF.out nd rfl
      have hc := hnf.f.cnt
      obtain ⟨g1, g2, g3, c3, c4, c5, rfl, rfl, rfl, _, _, _⟩ := hmi.blocks hc
      have hnd := NdAt.fresh HS.out S1.out.st AP.out hmi M1.out.only.size
      have hb1 := below_new w1 (.cells (nd.cells (.slice (some ⟨g1, 0, none⟩) nd.ends.length c3) (.slice (some ⟨g2, 0, none⟩) nd.ends.length c4) (.slice (some ⟨g3, 0, none⟩) nd.ends.length c5)) 34)
      have ND := Lib.hid hnd
      have M2 := Lib.hid ((SMoved.of_w (sb := sb) (ev := ev) (nv := .slice A2 s.ns.length c2) M1.out).trans (SMoved.still hb1 ..))
      have S2 := Lib.hid (S1.out.still hb1)
      have SE := Lib.hid ((HS.out.moved_w M1.out).still hb1)
      have HB2 : Hid (base ≤ w1.heap.size) := Lib.hid (Nat.le_trans HB.out M1.out.only.size)
      have HC := Lib.hid hc
      have FS := Lib.hid hnf.s
      have HSZ : Hid (w1.heap.size < (w1.alloc (.cells (nd.cells (.slice (some ⟨g1, 0, none⟩) nd.ends.length c3) (.slice (some ⟨g2, 0, none⟩) nd.ends.length c4) (.slice (some ⟨g3, 0, none⟩) nd.ends.length c5)) 34)).heap.size) := Lib.hid (by simp)
      clear hnf hc hmi hnd hb1 S1 M1 A1 AP NF HH HS
      unfold Nd.val Nd.cells at *
      go_upto_region 6 with (fail)
      generalize w1.alloc _ = w2 at *
      generalize w1.heap.size = p at *
      obtain ⟨i0, hi0, hz0, hz1, hz2⟩ := wint_info'
      have O := Lib.hid SE.out.ns
      unfold Mw at O
      have d1 : w2.cell? ⟨sb, 1, none⟩ = some (.slice A2 s.ns.length c2) := SE.out.top.cell 1
      have d1' : (w2.alloc (.cells #[.int .i64 h] 2)).cell? ⟨sb, 1, none⟩ = some (.slice A2 s.ns.length c2) := box_cell _ _ _ _ d1
      have hbw : base ≤ w2.heap.size := Nat.le_of_lt (Nat.lt_of_le_of_lt HB2.out HSZ.out)
      have hs64 : s.ns.length < 64 := HL.out
      have BC : Hid (∀ w3, (w2.alloc (.cells #[.int .i64 h] 2)).grownBy w3 (Value.slice A2 s.ns.length c2).ownBlock → w3.cell? ⟨sb, 1, none⟩ = some (.slice A2 s.ns.length c2) ∧ w3.frozen? ⟨sb, 1, none⟩ = false) := Lib.hid (fun w3 hg => by
        have := SE.out.grown (.inr rfl) hg
        exact ⟨this.cell 1, this.frozen 1⟩)
      go_upto_region 7 with (at_builtin; refine wpList_append_lies _ rfl (.tmp 39) (.tmp 41) _ rfl base 2 i0 _ 1 8 Try.underlying27 hi0 hz0 hz1 hz2 rfl (by omega) _ s.ns.length _ rfl (O.out.alloc _) ⟨w2.heap.size, 0, none⟩ 1 1 [.int .i64 h] rfl rfl (World.news_of_block (cs := #[.int .i64 h]) (t := 2) (fr := (0, 0)) (heap_alloc_new w2 _)) (by simp [Value.oneCell']) (by omega) (by simp only [maxLen]; omega) (by omega) (by simp; omega) (w2.heap.size + 1) (by simp) ?_; intro gg cap w3 hown hgrow hat hlt; have b2 := (BC.out _ hgrow).1; have bf := (BC.out _ hgrow).2)
      obtain ⟨se, on, mo⟩ := SE.out.node (h := h) (nv' := .slice (some ⟨gg, 0, none⟩) (s.ns.length + 1) cap) S2.out.st hgrow hown (hat.imp id (fun e => by rw [e]; rfl))
      have SE4 := Lib.hid se
      have M4 := Lib.hid (M2.out.trans mo)
      have ND4 := Lib.hid (ND.out.moved mo)
      have S4 : Hid (Sat (w3.setCell ⟨sb, 1, none⟩ (.slice (some ⟨gg, 0, none⟩) (s.ns.length + 1) cap)) b g tb ab ag tv1 mv1 T1 m1 x1 G (n + thN ⟨s.es, s.ns ++ [h]⟩)) := Lib.hid (by
        have e : thN ⟨s.es, s.ns ++ [h]⟩ = 26 * (64 - (s.ns.length + 1)) := by unfold thN; simp
        rw [e]
        exact S2.out.beside_all SE.out.far on)
      clear se on mo hown hgrow hat hlt b2 bf BC d1 d1' O hi0 hz0 hz1 hz2 SE M2 ND S2
      generalize w3.setCell ⟨sb, 1, none⟩ (.slice (some ⟨gg, 0, none⟩) (s.ns.length + 1) cap) = w4 at *
      generalize Value.slice (some ⟨gg, 0, none⟩) (s.ns.length + 1) cap = nv1 at *
      have L0 : Hid (ThRel w b g tb ab ag tv mv base sb ev (.slice A2 s.ns.length c2) x G n OO k p nd (.slice (some ⟨g1, 0, none⟩) nd.ends.length c3) (.slice (some ⟨g2, 0, none⟩) nd.ends.length c4) (.slice (some ⟨g3, 0, none⟩) nd.ends.length c5) (.int .i64 nd.lo) (.int .i64 0) w4) := Lib.hid
        ⟨0, nd.lo, tv1, mv1, ev, nv1, T1, m1, x1, ⟨s.es, s.ns ++ [h]⟩, by omega, rfl, rfl, S4.out, SE4.out, M4.out, ND4.out, WS.out, ⟨by simp; omega, by have := H8.out; have := HC.out.few; simp; split <;> omega⟩, by rw [List.drop_zero]; exact HO.out.symm⟩
      have e1 : w4.cell? ⟨p, 1, none⟩ = some (.int .i64 nd.lo) := ND4.out.node.cell 1
      have e2 : w4.cell? ⟨p, 2, none⟩ = some (.slice (some ⟨g1, 0, none⟩) nd.ends.length c3) := ND4.out.node.cell 2
      clear SE4 M4 ND4 S4 WS HO
      go_wp2_with fail
      clear e1 e2 k0 l64
      go_loopw [13, 50] (fun lv iv wr => ThRel w b g tb ab ag tv mv base sb ev (.slice A2 s.ns.length c2) x G n OO k p nd (.slice (some ⟨g1, 0, none⟩) nd.ends.length c3) (.slice (some ⟨g2, 0, none⟩) nd.ends.length c4) (.slice (some ⟨g3, 0, none⟩) nd.ends.length c5) lv iv wr) (fun _ iv _ => nd.ends.length - (intOf iv).toNat)
      case atStart => exact L0.out
      case round =>
        obtain ⟨r, lo, tv2, mv2, ev2, nv2, T2, m2, x2, s2, hr, rfl, rfl, sa, se, mo, na, hx, hbd, e2⟩ := hrel
        clear L0
        have hK8 := HC.out.few
        have hr8 : (r : Int) ≤ 8 := by omega
        by_cases hlt : r < nd.ends.length
        · rw [zip_drop HC.out.sl r hlt] at e2
          have hltI : (r : Int) < (nd.ends.length : Int) := by omega
          have f1 : wr.cell? ⟨g1, r, none⟩ = some (.int .i64 (nth nd.ends r)) := (own_cell na.me rfl r hlt).1
          have f2 : wr.cell? ⟨g2, r, none⟩ = some (.int .i64 (nth nd.slots r)) := (own_cell na.ms HC.out.sl r hlt).1
          have p0 : wr.cell? ⟨p, 0, none⟩ = some (.bool nd.inner) := na.node.cell 0
          have p3 : wr.cell? ⟨p, 3, none⟩ = some (.slice (some ⟨g2, 0, none⟩) nd.ends.length c4) := na.node.cell 3
          cases hin : nd.inner with
          | true =>
            rw [hin] at p0 hbd e2
            unfold thruE at e2
            simp only [if_true, Nat.add_zero] at e2 hbd
            rw [wend_bind] at e2
            have IC := Lib.hid (ih.out wr tv2 mv2 ev2 nv2 T2 m2 x2 s2 (nth nd.slots r) sa se (fits_nth FS.out r).2 (Nat.le_trans HB.out mo.only.size) hbd.1 hbd.2)
            rw [hx.1, hx.2] at IC
            have ws := wend_same (thru (fun h => cellOf x.fst x.l.length h) k (nth nd.slots r) s2) T2 m2 x2
            generalize wend (thru (fun h => cellOf x.fst x.l.length h) k (nth nd.slots r) s2) T2 m2 x2 = q at *
            obtain ⟨qa, T3, m3, x3⟩ := q
            simp only at e2 ws
            have E2 := Lib.hid e2
            have X3 : Hid (x3.fst = x.fst ∧ x3.l = x.l) := Lib.hid ⟨ws.1.trans hx.1, ws.2.trans hx.2⟩
            have MO := Lib.hid mo
            have NA := Lib.hid na
            have HIN := Lib.hid hin
            clear e2 ws hx hbd sa se mo na hin
            go_wp2_with fail
            refine IC.out.mono ?_
            rintro e w5 ⟨tv3, mv3, ev3, nv3, rfl, mo3, sa3, se3⟩
            have M5 := Lib.hid (MO.out.trans mo3)
            have N5 := Lib.hid (NA.out.moved mo3)
            have S5 := Lib.hid sa3
            have E5 := Lib.hid se3
            clear mo3 sa3 se3 IC MO NA f1 f2 p0 p3
            simp only at S5 E5
            cases qa with
            | none =>
              have FX := Lib.hid (FIN.out w5 tv3 mv3 ev3 nv3 none T3 m3 x3 E2.out M5.out S5.out (fun s' e => by cases e))
              clear FIN E2 M5 N5 S5 E5 ih
              go_wp2_with fail
              exact FX.out
            | some s3 =>
              obtain ⟨se5, l64, l8⟩ := E5.out s3 rfl
              have SE5 := Lib.hid se5
              have LL := Lib.hid (And.intro l64 l8)
              clear se5 l64 l8 E5
              go_wp2_with fail
              go_roundw
              case rel => exact ⟨r + 1, nth nd.ends r, tv3, mv3, ev3, nv3, T3, m3, x3, s3, by omega, rfl, by go_num, S5.out, SE5.out, M5.out, N5.out, X3.out, ⟨LL.out.1, by rw [if_pos HIN.out]; exact LL.out.2⟩, by rw [HIN.out]; exact E2.out⟩
              case measure => simp [intOf]; omega
          | false =>
            rw [hin] at p0 hbd e2
            unfold thruE at e2
            simp only [Bool.false_eq_true, if_false] at e2 hbd
            obtain ⟨j0, hj0, hjz0, hjz1, hjz2⟩ := wentry_info'
            generalize nth nd.ends r = en at *
            generalize nth nd.slots r = sn at *
            obtain ⟨A3, c6, rfl⟩ := se.es.is
            have hes : s2.es.length ≤ 511 := by omega
            have hbw : base ≤ wr.heap.size := Nat.le_trans HB.out mo.only.size
            have a0 : wr.cell? ⟨sb, 0, none⟩ = some (.slice A3 s2.es.length c6) := se.top.cell 0
            have a1 : (wr.alloc (.cells #[.int .i64 lo, .int .i64 en, .int .i64 sn] 44)).cell? ⟨sb, 0, none⟩ = some (.slice A3 s2.es.length c6) := box_cell _ _ _ _ a0
            have SD := Lib.hid (se.still (below_drew (Below.refl wr.heap.size wr)))
            have O : Hid (wr.drew.ownsRow base 44 3 (.slice A3 s2.es.length c6) s2.es.length (enCells s2.es)) := Lib.hid SD.out.es
            have BC : Hid (∀ w3, (wr.drew.alloc (.cells #[.int .i64 lo, .int .i64 en, .int .i64 sn] 44)).grownBy w3 (Value.slice A3 s2.es.length c6).ownBlock → w3.cell? ⟨sb, 0, none⟩ = some (.slice A3 s2.es.length c6) ∧ w3.frozen? ⟨sb, 0, none⟩ = false) := Lib.hid (fun w3 hg => by
              have := SD.out.grown (.inl rfl) hg
              exact ⟨this.cell 0, this.frozen 0⟩)
            have E2 := Lib.hid e2
            have X2 := Lib.hid hx
            have SA := Lib.hid (sa.still (below_drew (Below.refl wr.heap.size wr)))
            have MO := Lib.hid (mo.trans (SMoved.still (below_drew (Below.refl wr.heap.size wr)) ..))
            have NA := Lib.hid (na.moved (SMoved.still (below_drew (Below.refl wr.heap.size wr)) ..))
            have HIN := Lib.hid hin
            have LL := Lib.hid hbd
            clear e2 hx hbd sa se mo na hin ih FIN
            go_upto_region 12 with (fail)
            go_region_law
              ((refine step_append_lies _ (by rfl) _ _ _ (by rfl) base 44 j0 _ 3 24 Try.underlying25 hj0 hjz0 hjz1 hjz2 rfl (by omega) _ s2.es.length _ (by rfl) (O.out.alloc _)
                  ⟨wr.heap.size, 0, none⟩ 1 1 [.int .i64 lo, .int .i64 en, .int .i64 sn] (by rfl) (by rfl) (World.news_of_block (cs := #[.int .i64 lo, .int .i64 en, .int .i64 sn]) (t := 44) (fr := (0, 0)) (heap_alloc_new wr _)) (by simp [Value.oneCell'])
                  (by omega) (by simp only [maxLen]; omega) (by omega) (by simp; omega) (wr.heap.size + 1) (by simp) ?_; intro gg cap w3 hown hgrow hat hlt'; have b2 := (BC.out _ hgrow).1; have bf := (BC.out _ hgrow).2))
            all_goals
              obtain ⟨se6, on6, mo6⟩ := SD.out.entry (e := ⟨lo, en, sn⟩) (ev' := .slice (some ⟨gg, 0, none⟩) (s2.es.length + 1) cap) SA.out.st hgrow hown (hat.imp id (fun e => by rw [e]; rfl))
              have FX : Hid (ThRel w b g tb ab ag tv mv base sb ev (.slice A2 s.ns.length c2) x G n OO k p nd (.slice (some ⟨g1, 0, none⟩) nd.ends.length c3) (.slice (some ⟨g2, 0, none⟩) nd.ends.length c4) (.slice (some ⟨g3, 0, none⟩) nd.ends.length c5) (.int .i64 en) (.int .i64 ((r : Int) + 1)) (w3.setCell ⟨sb, 0, none⟩ (.slice (some ⟨gg, 0, none⟩) (s2.es.length + 1) cap))) := Lib.hid
                ⟨r + 1, en, tv2, mv2, .slice (some ⟨gg, 0, none⟩) (s2.es.length + 1) cap, nv2, T2, m2, x2, ⟨s2.es ++ [⟨lo, en, sn⟩], s2.ns⟩, by omega, rfl, by go_num, SA.out.beside_all SD.out.far on6, se6, MO.out.trans mo6, NA.out.moved mo6, X2.out, ⟨LL.out.1, by
                  rw [HIN.out]
                  have := LL.out.2
                  simp only [Bool.false_eq_true, if_false, List.length_append, List.length_cons, List.length_nil]
                  omega⟩, by rw [HIN.out]; exact E2.out⟩
              clear se6 on6 mo6 hown hgrow hat hlt' b2 bf BC SD O SA MO NA LL X2 E2 a0 a1 f1 f2 p0 p3
              generalize w3.setCell ⟨sb, 0, none⟩ (.slice (some ⟨gg, 0, none⟩) (s2.es.length + 1) cap) = w6 at *
              go_wp2_with fail
              go_roundw
              case rel => exact FX.out
              case measure => simp [intOf]; omega
        · have hrK : r = nd.ends.length := by omega
          have hz : (nd.ends.zip nd.slots).drop r = [] := List.drop_eq_nil_of_le (by simp; omega)
          rw [hz] at e2
          have e3 : OO = ⟨some s2, T2, m2, x2⟩ := by rw [e2]; unfold thruE; rfl
          have FX := Lib.hid (FIN.out wr tv2 mv2 ev2 nv2 (some s2) T2 m2 x2 e3 mo sa (fun s' e => by
            injection e with e
            subst e
            exact ⟨se, hbd.1, by have := hbd.2; split at this <;> omega⟩))
          have nlt : ¬ (r : Int) < (nd.ends.length : Int) := by omega
          clear FIN e2 e3 sa se mo na hx hbd ih hz
          go_wp2_with fail
          exact FX.out
theorem thru_c (k : Nat) (hk : k ≤ 8) : ThAll b g tb ab ag base sb G n k := by
  induction k with
  | zero => exact thru_zero
  | succ k ih => exact thru_succ k (by omega) (ih (by omega))
end
end Go.Proofs.Ytejkhnphplpkeaa

/-
  Layer 17: all that is below a root: a contract for the call.
-/
namespace Go.Proofs.Ytejkhnphplpkeaa
open Go.ChangeShapes Go.WideShapes Go.ChangeAt Go.RowKit
set_option linter.unusedVariables false

/-- What is told of a tree, in new memory. -/
def allA (base : Nat) : Option Thru → Value → World → Prop
  | none, v, _ => v = .tuple #[.slice none 0 0, .slice none 0 0, .bool false]
  | some s, v, w => ∃ A1 c1 A2 c2, v = .tuple #[.slice A1 s.es.length c1, .slice A2 s.ns.length c2, .bool true] ∧ Mes base w (.slice A1 s.es.length c1) s.es ∧ Mw base w (.slice A2 s.ns.length c2) s.ns
section
variable {w wA w' : World} {b g tb ab ag sb : Nat} {tv mv ev nv tv' mv' ev' nv' : Value} {T : Tr} {m : Mm} {x : Wi} {G : Int} {n : Nat}
theorem SMoved.to_w (h : SMoved wA b g tb ab ag tv mv sb ev nv w' tv' mv' ev' nv') (hb : Below w.heap.size w wA) (hnew : ∀ k, SnAll sb ev nv k → w.heap.size ≤ k) : WMoved w b g tb ab ag tv mv w' tv' mv' := by
  refine ⟨⟨h.only.os.trans hb.os, h.only.tape.trans hb.tape, h.only.output.trans hb.output, Nat.le_trans hb.size h.only.size, fun k hk hn => ?_⟩, fun k hk => (h.t k hk).imp id (Nat.le_trans hb.size), fun k hk => (h.m k hk).imp id (Nat.le_trans hb.size)⟩
  rw [h.only.block k (Nat.lt_of_lt_of_le hk hb.size) (fun ha => ?_), hb.block k hk]
  rcases ha with ha | ha
  · exact hn ha
  · have := hnew k ha; omega
set_option maxHeartbeats 4000000 in
theorem every_c (root : Int) (H : Sat w b g tb ab ag tv mv T m x G (n + 1664)) (hh : root ≤ 9223372036854775807) :
    Calls Try.prog 54 #[.pointer (some ⟨tb, 0, none⟩), .pointer (some ⟨ab, 0, none⟩), .int .i64 root] w (SkPost w b g tb ab ag tv mv G n (allA w.heap.size) (wend (thru (fun h => cellOf x.fst x.l.length h) 8 root ⟨[], []⟩) T m x)) := by
  have hnot : ∀ (x : Bool) (w : World), (Op.unary .not (.bool x)).run Try.prog w = .ok (.bool (!x)) w := fun _ _ => rfl
  have hb := below_new w (.cells #[.slice none 0 0, .slice none 0 0] 136)
  have hS : SeenAt (w.alloc (.cells #[.slice none 0 0, .slice none 0 0] 136)) b g tb ab ag tv mv w.heap.size w.heap.size (.slice none 0 0) (.slice none 0 0) ⟨[], []⟩ := by
    refine ⟨Whole.new _ _ _, Mes.nil _ _, Mw.nil _ _, ?_⟩
    rintro k (rfl | hk | hk)
    · intro ha; have := wall_lt H.st ha; omega
    · simp [Value.ownBlock] at hk
    · simp [Value.ownBlock] at hk
  have C := Lib.hid (thru_c (n := n) (G := G) 8 (Nat.le_refl _) _ _ _ _ _ _ _ _ _ root (H.still hb) hS hh (by simp) (by simp) (by simp))
  rw [show ((8 : Nat) : Int) = 8 from rfl] at C
  obtain ⟨O, hO⟩ : ∃ O, wend (thru (fun h => cellOf x.fst x.l.length h) 8 root ⟨[], []⟩) T m x = O := ⟨_, rfl⟩
  rw [hO] at C ⊢
  obtain ⟨R, hR⟩ : ∃ R, SkPost w b g tb ab ag tv mv G n (allA w.heap.size) O = R := ⟨_, rfl⟩
  rw [hR]
  obtain ⟨a, T1, m1, x1⟩ := O
  have HB := Lib.hid hb
  have FIN : Hid (∀ w1 tv1 mv1 ev1 nv1 (val : Value), allA w.heap.size a val w1 → Sat w1 b g tb ab ag tv1 mv1 T1 m1 x1 G n → SMoved (w.alloc (.cells #[.slice none 0 0, .slice none 0 0] 136)) b g tb ab ag tv mv w.heap.size (.slice none 0 0) (.slice none 0 0) w1 tv1 mv1 ev1 nv1 → R (.returned val) w1) := Lib.hid (by
    intro w1 tv1 mv1 ev1 nv1 val ha s mo
    rw [← hR]
    refine ⟨val, tv1, mv1, rfl, ha, s, mo.to_w HB.out ?_⟩
    rintro k (rfl | hk | hk)
    · exact Nat.le_refl _
    · simp [Value.ownBlock] at hk
    · simp [Value.ownBlock] at hk)
  clear hO hR H hS hb hh HB
  go_enter Try.func54, Try.ntmps54
  go_upto_region 2 with (fail)
  generalize w.alloc (.cells #[.slice none 0 0, .slice none 0 0] 136) = wA at *
  generalize w.heap.size = sb at *
  go_wp2_with fail
  refine C.out.mono ?_
  rintro e w5 ⟨tv3, mv3, ev3, nv3, rfl, mo3, sa3, se3⟩
  have MO := Lib.hid mo3
  have SA := Lib.hid sa3
  have SE := Lib.hid se3
  clear mo3 sa3 se3 C
  simp only at SA SE
  cases a with
  | none =>
    have FX := Lib.hid (FIN.out w5 tv3 mv3 ev3 nv3 (.tuple #[.slice none 0 0, .slice none 0 0, .bool false]) rfl (SA.out.less (by omega)) MO.out)
    clear FIN MO SA SE
    go_wp2_with fail
    go_ret3
    exact FX.out
  | some s =>
    obtain ⟨hs, _, _⟩ := SE.out s rfl
    obtain ⟨A1, c1, rfl⟩ := hs.es.is
    obtain ⟨A2, c2, rfl⟩ := own_slice hs.ns
    have FX : Hid (∀ q, R (.returned (.tuple #[.slice A1 s.es.length c1, .slice A2 s.ns.length c2, .bool true])) (w5.drewN q)) := Lib.hid (fun q => by
      have hd := below_drewN (Below.refl w5.heap.size w5) q
      exact FIN.out _ tv3 mv3 (.slice A1 s.es.length c1) (.slice A2 s.ns.length c2) _ ⟨A1, c1, A2, c2, rfl, hs.es.still hd, hs.ns.still hd⟩ ((SA.out.still hd).less (by omega)) (MO.out.trans (SMoved.still hd ..)))
    have d0 : w5.cell? ⟨sb, 0, none⟩ = some (.slice A1 s.es.length c1) := hs.top.cell 0
    have d1 : w5.cell? ⟨sb, 1, none⟩ = some (.slice A2 s.ns.length c2) := hs.top.cell 1
    clear FIN MO SA SE hs
    go_upto_region 4 with (fail)
    go_quiet (fail)
    go_wp2_with fail
    go_ret3
    exact FX.out _
end
end Go.Proofs.Ytejkhnphplpkeaa
