/-
  Texts of our own, one behind the other (WkRes, WkRun, WkAlone): what the laws' proofs rest on; each says at its head what it holds. No conditions.
-/
import Derived.Test.YtlhjimkfcchdaaaPkZb
import Derived.Test.YtlhjimkfcchdaaaPkZc
import Derived.Test.YtlhjimkfcchdaaaPkYb
import Derived.Test.YtlhjimkfcchdaaaPkYc
/-
  Layer 17: what comes of a goer, in a variable: its four cells.
-/
namespace Go.Proofs.Ytlhjimkfcchdaaa
open Go.ChangeShapes Go.WideShapes Go.ChangeAt Go.RowKit
set_option linter.unusedVariables false
variable {α β : Type}

/-- What came of it. -/
structure Gr where
  H : Int
  O : Bool
  E : List En
  N : List Int
def Gr.nil : Gr := ⟨0, false, [], []⟩
def Gr.cells (r : Gr) (e n : Value) : Array Value := #[.int .i64 r.H, .bool r.O, e, n]
def nilG : Array Value := #[.int .i64 0, .bool false, .slice none 0 0, .slice none 0 0]
/-- It lies in block rb. -/
def GLay (base rb : Nat) (r : Option Gr) (w : World) : Prop :=
  match r with
  | none => Whole w rb 33 nilG
  | some r => ∃ e n, Whole w rb 33 (r.cells e n) ∧ Mes base w e r.E ∧ Mw base w n r.N
theorem glay_keeps {base rb tb : Nat} (h1 : rb ≠ tb) (h2 : tb < base) : Keeps tb (GLay base rb) := by
  constructor
  · intro r W W' h hb
    cases r with
    | none => exact Whole.below h hb (Whole.lt h)
    | some r =>
      obtain ⟨e, n, hw, he, hn⟩ := h
      exact ⟨e, n, hw.below hb hw.lt, he.still hb, hn.still hb⟩
  · intro r W i u h
    cases r with
    | none => exact Whole.far (p := ⟨tb, i, none⟩) h h1 u
    | some r =>
      obtain ⟨e, n, hw, he, hn⟩ := h
      exact ⟨e, n, hw.far (p := ⟨tb, i, none⟩) h1 u, own_far (p := ⟨tb, i, none⟩) he (fun hk => by have := (World.ownsRow.lt he tb hk).1; omega) u, own_far (p := ⟨tb, i, none⟩) hn (fun hk => by have := (World.ownsRow.lt hn tb hk).1; omega) u⟩

def gset4 (w : World) (q : Nat) (x0 x1 x2 x3 : Value) : World := (((w.setCell ⟨q, 0, none⟩ x0).setCell ⟨q, 1, none⟩ x1).setCell ⟨q, 2, none⟩ x2).setCell ⟨q, 3, none⟩ x3
theorem gput4 {w : World} {q : Nat} {t : TypeId} {y0 y1 y2 y3 : Value} (h : Whole w q t #[y0, y1, y2, y3]) (x0 x1 x2 x3 : Value) : Whole (gset4 w q x0 x1 x2 x3) q t #[x0, x1, x2, x3] := by
  have h0 : Whole _ q t #[x0, y1, y2, y3] := Whole.put h 0 x0
  have h1 : Whole _ q t #[x0, x1, y2, y3] := Whole.put h0 1 x1
  have h2 : Whole _ q t #[x0, x1, x2, y3] := Whole.put h1 2 x2
  have h3 : Whole _ q t #[x0, x1, x2, x3] := Whole.put h2 3 x3
  exact h3
theorem gonly4 (w : World) (q : Nat) (x0 x1 x2 x3 : Value) : Only (fun k => k = q) w (gset4 w q x0 x1 x2 x3) := by
  have h := Only.refl (fun k => k = q) w
  have h := h.setCell (p := ⟨q, 0, none⟩) (.inl rfl) x0
  have h := h.setCell (p := ⟨q, 1, none⟩) (.inl rfl) x1
  have h := h.setCell (p := ⟨q, 2, none⟩) (.inl rfl) x2
  have h := h.setCell (p := ⟨q, 3, none⟩) (.inl rfl) x3
  exact h
theorem grow4 {w : World} {q : Nat} {t : TypeId} {y0 y1 y2 y3 : Value} (h : Whole w q t #[y0, y1, y2, y3]) : w.cell? ⟨q, 0, none⟩ = some y0 ∧ w.cell? ⟨q, 1, none⟩ = some y1 ∧ w.cell? ⟨q, 2, none⟩ = some y2 ∧ w.cell? ⟨q, 3, none⟩ = some y3 := ⟨h.cell 0, h.cell 1, h.cell 2, h.cell 3⟩
theorem grow4f {w : World} {q : Nat} {t : TypeId} {y0 y1 y2 y3 : Value} (h : Whole w q t #[y0, y1, y2, y3]) : w.frozen? ⟨q, 0, none⟩ = false ∧ w.frozen? ⟨q, 1, none⟩ = false ∧ w.frozen? ⟨q, 2, none⟩ = false ∧ w.frozen? ⟨q, 3, none⟩ = false := ⟨h.frozen 0, h.frozen 1, h.frozen 2, h.frozen 3⟩

/-- What the tasks are, with all that comes of them. -/
def findRs (c : Int → Int → Int) (root addr : Int) : Sk Gr := (findFrom c addr 8 root).bind fun r => .ret ⟨r.1, r.2, [], []⟩
def allR : Option Thru → Gr
  | none => Gr.nil
  | some s => ⟨0, true, s.es, s.ns⟩
noncomputable def allRs (c : Int → Int → Int) (root : Int) : Sk Gr := (thru c 8 root ⟨[], []⟩).bind fun r => .ret (allR r)
/-- The laws' goer. -/
def goer (ab : Nat) (root addr : Int) (all : Bool) (rb : Nat) : Value := .agg #[.pointer (some ⟨ab, 0, none⟩), .int .i64 root, .int .i64 addr, .bool all, .pointer (some ⟨rb, 0, none⟩)]
section
variable {w w2 w' : World} {b g tb ab ag rb base : Nat} {tv mv tv' mv' : Value} {T T' : Tr} {m m' : Mm} {x x' : Wi} {G : Int} {n : Nat} {q : Sk α} {f : α → Gr} {a : α}
/-- What its run leaves, of what a call has left. -/
theorem grun_ends (hb : wend q T m x = ⟨a, T', m', x'⟩) (hs : WSt w' b g tb ab ag tv' mv' T' m' x')
    (ho : Only (fun k => WAll b g tb ab ag tv mv k ∨ k = rb) w w') (ht : ∀ k, tv'.ownBlock = some k → tv.ownBlock = some k ∨ w.heap.size ≤ k) (hm : ∀ k, mv'.ownBlock = some k → mv.ownBlock = some k ∨ w.heap.size ≤ k)
    (hl : GLay base rb (if dry T' then none else some (f a)) w') :
    WRan w b g tb ab ag tv mv (fun k => k = rb) (fun W' => GLay base rb (wplay (Sk.laid (q.bind fun r => .ret (f r))).toW T m).a W') (wplay (Sk.laid (q.bind fun r => .ret (f r))).toW T m) x (.returned (.tuple #[])) w' := by
  have e := wend_laid q f T m x
  rw [hb] at e
  have ea : (wplay (Sk.laid (q.bind fun r => .ret (f r))).toW T m).a = (if dry T' then none else some (f a)) := congrArg WEnd.a e
  have eT : (wplay (Sk.laid (q.bind fun r => .ret (f r))).toW T m).T = T' := congrArg WEnd.T e
  have em : (wplay (Sk.laid (q.bind fun r => .ret (f r))).toW T m).m = m' := congrArg WEnd.m e
  have ex : evsW x (wplay (Sk.laid (q.bind fun r => .ret (f r))).toW T m).evs = x' := congrArg WEnd.x e
  refine ⟨rfl, tv', mv', ?_, ho, ht, hm, ?_⟩
  · rw [eT, em, ex]; exact hs
  · show GLay base rb (wplay (Sk.laid (q.bind fun r => .ret (f r))).toW T m).a w'
    rw [ea]; exact hl
theorem grun_wet {e s : Value} (hb : wend q T m x = ⟨a, T', m', x'⟩) (hd : dry T' = false) (hs : Sat w2 b g tb ab ag tv' mv' T' m' x' G n) (mo : WMoved w b g tb ab ag tv mv w2 tv' mv') (hr : Beside w2 b g tb ab ag tv' mv' rb 33 nilG) (he : Mes base w2 e (f a).E) (hn : Mw base w2 s (f a).N) :
    WRan w b g tb ab ag tv mv (fun k => k = rb) (fun W' => GLay base rb (wplay (Sk.laid (q.bind fun r => .ret (f r))).toW T m).a W') (wplay (Sk.laid (q.bind fun r => .ret (f r))).toW T m) x (.returned (.tuple #[])) (gset4 w2 rb (.int .i64 (f a).H) (.bool (f a).O) e s) := by
  have ho := gonly4 w2 rb (.int .i64 (f a).H) (.bool (f a).O) e s
  refine grun_ends hb (hs.beside hr.far ho).st (moved_only mo ho) mo.t mo.m ?_
  rw [hd]
  exact ⟨e, s, gput4 hr.here .., he.only ho (fun k hk hq => by subst hq; exact own_apart he hr.here (by decide) hk), hn.only ho (fun k hk hq => by subst hq; exact own_apart hn hr.here (by decide) hk)⟩
theorem grun_dry (hb : wend q T m x = ⟨a, T', m', x'⟩) (hd : dry T' = true) (hs : Sat w2 b g tb ab ag tv' mv' T' m' x' G n) (mo : WMoved w b g tb ab ag tv mv w2 tv' mv') (hr : Beside w2 b g tb ab ag tv' mv' rb 33 nilG) :
    WRan w b g tb ab ag tv mv (fun k => k = rb) (fun W' => GLay base rb (wplay (Sk.laid (q.bind fun r => .ret (f r))).toW T m).a W') (wplay (Sk.laid (q.bind fun r => .ret (f r))).toW T m) x (.returned (.tuple #[])) w2 := by
  refine grun_ends hb hs.st (mo.only.mono (fun k _ hk => .inl hk)) mo.t mo.m ?_
  rw [hd]
  exact hr.here
/-- Where a run begins: its goer and its result. -/
theorem grun_boxes (H : Sat w b g tb ab ag tv mv T m x G n) (root addr : Int) (all : Bool) : Sat ((w.alloc (.cells #[.pointer (some ⟨ab, 0, none⟩), .int .i64 root, .int .i64 addr, .bool all, .pointer (some ⟨rb, 0, none⟩)] 38)).alloc (.cells nilG 33)) b g tb ab ag tv mv T m x G n ∧
    WMoved w b g tb ab ag tv mv ((w.alloc (.cells #[.pointer (some ⟨ab, 0, none⟩), .int .i64 root, .int .i64 addr, .bool all, .pointer (some ⟨rb, 0, none⟩)] 38)).alloc (.cells nilG 33)) tv mv ∧
    Beside ((w.alloc (.cells #[.pointer (some ⟨ab, 0, none⟩), .int .i64 root, .int .i64 addr, .bool all, .pointer (some ⟨rb, 0, none⟩)] 38)).alloc (.cells nilG 33)) b g tb ab ag tv mv w.heap.size 38 #[.pointer (some ⟨ab, 0, none⟩), .int .i64 root, .int .i64 addr, .bool all, .pointer (some ⟨rb, 0, none⟩)] ∧
    Beside ((w.alloc (.cells #[.pointer (some ⟨ab, 0, none⟩), .int .i64 root, .int .i64 addr, .bool all, .pointer (some ⟨rb, 0, none⟩)] 38)).alloc (.cells nilG 33)) b g tb ab ag tv mv (w.heap.size + 1) 33 nilG := by
  have B := Bag.two w 38 33 #[.pointer (some ⟨ab, 0, none⟩), .int .i64 root, .int .i64 addr, .bool all, .pointer (some ⟨rb, 0, none⟩)] nilG
  exact ⟨H.still B.bel, WMoved.still B.bel b g tb ab ag tv mv, .of_new H.st B.v1 (by omega), .of_new H.st B.v0 (by omega)⟩
end
end Go.Proofs.Ytlhjimkfcchdaaa

/-
  Layer 17: the laws' goer: its run, for each of its ways.
-/
namespace Go.Proofs.Ytlhjimkfcchdaaa
open Go.ChangeShapes Go.WideShapes Go.ChangeAt Go.RowKit
set_option linter.unusedVariables false

section
variable {b g tb ab ag rb base N : Nat} {x : Wi}
set_option maxRecDepth 4000 in
set_option maxHeartbeats 8000000 in
theorem grun_find (root addr : Int) (hh : root ≤ 9223372036854775807) : RunsBy (N + 80) b g tb ab ag rb (GLay base rb) 26 #[goer ab root addr false rb] (findRs (fun h => cellOf x.fst x.l.length h) root addr) x := by
  intro w tv mv T m x' G H hf hl lay0 hap hlt
  have hnot : ∀ (x : Bool) (w : World), (Op.unary .not (.bool x)).run Try.prog w = .ok (.bool (!x)) w := fun _ _ => rfl
  show Calls Try.prog 26 #[goer ab root addr false rb, .pointer (some ⟨tb, 0, none⟩)] w _
  have HRQ : Hid (rb ≠ w.heap.size + 1) := Lib.hid (by omega)
  obtain ⟨s1, mo1, k0, k1⟩ := grun_boxes (rb := rb) H root addr false
  have LR : Hid (Beside w b g tb ab ag tv mv rb 33 nilG) := Lib.hid ⟨lay0, hap⟩
  obtain ⟨R, hR⟩ : ∃ R, WRan w b g tb ab ag tv mv (fun k => k = rb) (fun W' => GLay base rb (wplay (Sk.laid (findRs (fun h => cellOf x.fst x.l.length h) root addr)).toW T m).a W') (wplay (Sk.laid (findRs (fun h => cellOf x.fst x.l.length h) root addr)).toW T m) x' = R := ⟨_, rfl⟩
  rw [hR]
  have HR := Lib.hid hR
  have LR1 := Lib.hid (LR.out.moved mo1)
  have M1 := Lib.hid mo1
  have K0 := Lib.hid k0
  have K1 := Lib.hid k1
  have Q1 : Hid (w.heap.size ≤ w.heap.size + 1) := Lib.hid (by omega)
  have C := Lib.hid (find_c (n := N) root addr s1 hh)
  rw [hf, hl] at C
  clear s1 mo1 k0 k1 hR H lay0 hap hlt hf hl LR
  unfold goer nilG at *
  go_enter Try.func26, Try.ntmps26
  go_upto_region 2 with (fail)
  generalize (w.alloc (.cells #[.pointer (some ⟨ab, 0, none⟩), .int .i64 root, .int .i64 addr, .bool false, .pointer (some ⟨rb, 0, none⟩)] 38)).alloc _ = wA at *
  generalize w.heap.size + 1 = q1 at *
  obtain ⟨q0, hq0⟩ : ∃ q0, w.heap.size = q0 := ⟨_, rfl⟩
  have HQ0 := Lib.hid hq0
  rw [hq0] at K0
  obtain ⟨a0, a1, a2, a3, a4⟩ := lk5 K0.out.here
  have hne : ¬ q0 = q1 := K0.out.here.apart K1.out.here (by decide)
  have HNE := Lib.hid hne
  go_wp2_with fail
  obtain ⟨O, hO⟩ : ∃ O, wend (findFrom (fun h => cellOf x.fst x.l.length h) addr 8 root) T m x' = O := ⟨_, rfl⟩
  rw [hO] at C
  have E2 := Lib.hid hO
  clear hO
  obtain ⟨⟨v, ok⟩, T2, m2, x2⟩ := O
  refine C.out.mono ?_
  rintro e w2 ⟨val, tv2, mv2, rfl, rfl, s2, mo2⟩
  have S2 := Lib.hid s2
  have M2 := Lib.hid (M1.out.trans mo2)
  have K1b := Lib.hid (K1.out.moved mo2)
  have K0b := Lib.hid (K0.out.moved mo2)
  have LRb := Lib.hid (LR1.out.moved mo2)
  clear s2 mo2 C M1 K0 K1 LR1 a0 a1 a2 a3 a4
  unfold findV
  have S3 := Lib.hid (S2.out.beside K1b.out.far (gonly4 w2 q1 (.int .i64 v) (.bool ok) (.slice none 0 0) (.slice none 0 0)))
  have M3 := Lib.hid (M2.out.then_only Q1.out (gonly4 w2 q1 (.int .i64 v) (.bool ok) (.slice none 0 0) (.slice none 0 0)))
  have K03 : Hid (Beside (gset4 w2 q1 (.int .i64 v) (.bool ok) (.slice none 0 0) (.slice none 0 0)) b g tb ab ag tv2 mv2 q0 38 _) := Lib.hid ⟨K0b.out.here.only (gonly4 ..) HNE.out, K0b.out.far⟩
  have K13 : Hid (Beside (gset4 w2 q1 (.int .i64 v) (.bool ok) (.slice none 0 0) (.slice none 0 0)) b g tb ab ag tv2 mv2 q1 33 #[.int .i64 v, .bool ok, .slice none 0 0, .slice none 0 0]) := Lib.hid ⟨gput4 K1b.out.here .., K1b.out.far⟩
  have LR3 : Hid (Beside (gset4 w2 q1 (.int .i64 v) (.bool ok) (.slice none 0 0) (.slice none 0 0)) b g tb ab ag tv2 mv2 rb 33 _) := Lib.hid ⟨LRb.out.here.only (gonly4 ..) HRQ.out, LRb.out.far⟩
  obtain ⟨z0, z1, z2, z3⟩ := grow4 K1b.out.here
  obtain ⟨f0, f1, f2, f3⟩ := grow4f K1b.out.here
  clear S2 M2 LRb K0b
  go_upto_region 7 with (fail)
  unfold gset4 at S3 M3 K03 K13 LR3
  generalize World.setCell (World.setCell _ _ _) ⟨q1, 3, none⟩ _ = w3 at *
  clear K1b z0 z1 z2 z3 f0 f1 f2 f3
  have DR := Lib.hid (dry_c S3.out)
  obtain ⟨a0, a1, a2, a3, a4⟩ := lk5 K03.out.here
  obtain ⟨z0, z1, z2, z3⟩ := grow4 K13.out.here
  obtain ⟨r0, r1, r2, r3⟩ := grow4 LR3.out.here
  obtain ⟨f0, f1, f2, f3⟩ := grow4f LR3.out.here
  cases hd : dry T2 with
  | true =>
    rw [hd] at DR
    have FX : Hid (R (.returned (.tuple #[])) w3) := Lib.hid (by rw [← HR.out]; exact grun_dry (f := fun r => ⟨r.1, r.2, [], []⟩) E2.out hd S3.out M3.out LR3.out)
    clear HR S3 M3 K03 K13 LR3 E2
    go_wp2_with fail
    refine DR.out.mono ?_
    rintro e w9 ⟨rfl, rfl⟩
    go_wp2_with fail
    go_end0
    exact FX.out
  | false =>
    rw [hd] at DR
    have FX := Lib.hid (grun_wet (base := base) (f := fun r => ⟨r.1, r.2, [], []⟩) E2.out hd S3.out M3.out LR3.out (Mes.nil _ _) (Mw.nil _ _))
    have FY : Hid (R (.returned (.tuple #[])) (gset4 w3 rb (.int .i64 v) (.bool ok) (.slice none 0 0) (.slice none 0 0))) := Lib.hid (by rw [← HR.out]; exact FX.out)
    clear HR S3 M3 K03 K13 LR3 E2 FX
    go_wp2_with fail
    refine DR.out.mono ?_
    rintro e w9 ⟨rfl, rfl⟩
    go_wp2_with fail
    go_end0
    exact FY.out

set_option maxRecDepth 4000 in
set_option maxHeartbeats 8000000 in
theorem grun_all (root addr : Int) (hh : root ≤ 9223372036854775807) (hbase : base = tb + 1) : RunsBy (N + 1664) b g tb ab ag rb (GLay base rb) 26 #[goer ab root addr true rb] (allRs (fun h => cellOf x.fst x.l.length h) root) x := by
  intro w tv mv T m x' G H hf hl lay0 hap hlt
  have hnot : ∀ (x : Bool) (w : World), (Op.unary .not (.bool x)).run Try.prog w = .ok (.bool (!x)) w := fun _ _ => rfl
  show Calls Try.prog 26 #[goer ab root addr true rb, .pointer (some ⟨tb, 0, none⟩)] w _
  have HB : Hid (base ≤ w.heap.size) := Lib.hid (by have := H.st.st.tr.top.lt; omega)
  have HRQ : Hid (rb ≠ w.heap.size + 1) := Lib.hid (by omega)
  obtain ⟨s1, mo1, k0, k1⟩ := grun_boxes (rb := rb) H root addr true
  have LR : Hid (Beside w b g tb ab ag tv mv rb 33 nilG) := Lib.hid ⟨lay0, hap⟩
  obtain ⟨R, hR⟩ : ∃ R, WRan w b g tb ab ag tv mv (fun k => k = rb) (fun W' => GLay base rb (wplay (Sk.laid (allRs (fun h => cellOf x.fst x.l.length h) root)).toW T m).a W') (wplay (Sk.laid (allRs (fun h => cellOf x.fst x.l.length h) root)).toW T m) x' = R := ⟨_, rfl⟩
  rw [hR]
  have HR := Lib.hid hR
  have LR1 := Lib.hid (LR.out.moved mo1)
  have M1 := Lib.hid mo1
  have K0 := Lib.hid k0
  have K1 := Lib.hid k1
  have Q1 : Hid (w.heap.size ≤ w.heap.size + 1) := Lib.hid (by omega)
  have C := Lib.hid (every_c (n := N) root s1 hh)
  rw [hf, hl] at C
  clear s1 mo1 k0 k1 hR H lay0 hap hlt hf hl LR
  unfold goer nilG at *
  go_enter Try.func26, Try.ntmps26
  go_upto_region 2 with (fail)
  have HA : Hid (base ≤ ((w.alloc (.cells #[.pointer (some ⟨ab, 0, none⟩), .int .i64 root, .int .i64 addr, .bool true, .pointer (some ⟨rb, 0, none⟩)] 38)).alloc (.cells #[.int .i64 0, .bool false, .slice none 0 0, .slice none 0 0] 33)).heap.size) := Lib.hid (by have := HB.out; simp; omega)
  generalize (w.alloc (.cells #[.pointer (some ⟨ab, 0, none⟩), .int .i64 root, .int .i64 addr, .bool true, .pointer (some ⟨rb, 0, none⟩)] 38)).alloc _ = wA at *
  generalize w.heap.size + 1 = q1 at *
  obtain ⟨q0, hq0⟩ : ∃ q0, w.heap.size = q0 := ⟨_, rfl⟩
  have HQ0 := Lib.hid hq0
  rw [hq0] at K0
  obtain ⟨a0, a1, a2, a3, a4⟩ := lk5 K0.out.here
  have hne : ¬ q0 = q1 := K0.out.here.apart K1.out.here (by decide)
  have HNE := Lib.hid hne
  go_wp2_with fail
  obtain ⟨O, hO⟩ : ∃ O, wend (thru (fun h => cellOf x.fst x.l.length h) 8 root ⟨[], []⟩) T m x' = O := ⟨_, rfl⟩
  rw [hO] at C
  have E2 := Lib.hid hO
  clear hO
  obtain ⟨r, T2, m2, x2⟩ := O
  refine C.out.mono ?_
  rintro e w2 ⟨val, tv2, mv2, rfl, hA, s2, mo2⟩
  have S2 := Lib.hid s2
  have M2 := Lib.hid (M1.out.trans mo2)
  have K1b := Lib.hid (K1.out.moved mo2)
  have K0b := Lib.hid (K0.out.moved mo2)
  have LRb := Lib.hid (LR1.out.moved mo2)
  clear s2 mo2 C M1 K0 K1 LR1 a0 a1 a2 a3 a4
  obtain ⟨A1, c1, A2, c2, hval, he, hn⟩ : ∃ A1 c1 A2 c2, val = .tuple #[.slice A1 (allR r).E.length c1, .slice A2 (allR r).N.length c2, .bool (allR r).O] ∧ Mes base w2 (.slice A1 (allR r).E.length c1) (allR r).E ∧ Mw base w2 (.slice A2 (allR r).N.length c2) (allR r).N := by
    cases r with
    | none => exact ⟨none, 0, none, 0, hA, Mes.nil _ _, Mw.nil _ _⟩
    | some s =>
      obtain ⟨A1, c1, A2, c2, h1, h2, h3⟩ := hA
      exact ⟨A1, c1, A2, c2, h1, h2.base' HA.out, h3.base' HA.out⟩
  subst hval
  have h0 : (allR r).H = 0 := by cases r <;> rfl
  have H0 := Lib.hid h0
  clear hA h0
  generalize hfr : allR r = F at *
  have HF := Lib.hid hfr
  clear hfr
  obtain ⟨F0, F1, F2, F3⟩ := F
  simp only at he hn H0
  have HE := Lib.hid he
  have HN := Lib.hid hn
  clear he hn
  have HEQ := Lib.hid (⟨rfl, rfl⟩ : F2.length = F2.length ∧ F3.length = F3.length)
  have S3 := Lib.hid (S2.out.beside K1b.out.far (gonly4 w2 q1 (.int .i64 0) (.bool F1) (.slice A1 F2.length c1) (.slice A2 F3.length c2)))
  have M3 := Lib.hid (M2.out.then_only Q1.out (gonly4 w2 q1 (.int .i64 0) (.bool F1) (.slice A1 F2.length c1) (.slice A2 F3.length c2)))
  have K03 : Hid (Beside (gset4 w2 q1 (.int .i64 0) (.bool F1) (.slice A1 F2.length c1) (.slice A2 F3.length c2)) b g tb ab ag tv2 mv2 q0 38 _) := Lib.hid ⟨K0b.out.here.only (gonly4 ..) HNE.out, K0b.out.far⟩
  have K13 : Hid (Beside (gset4 w2 q1 (.int .i64 0) (.bool F1) (.slice A1 F2.length c1) (.slice A2 F3.length c2)) b g tb ab ag tv2 mv2 q1 33 #[.int .i64 0, .bool F1, .slice A1 F2.length c1, .slice A2 F3.length c2]) := Lib.hid ⟨gput4 K1b.out.here .., K1b.out.far⟩
  have LR3 : Hid (Beside (gset4 w2 q1 (.int .i64 0) (.bool F1) (.slice A1 F2.length c1) (.slice A2 F3.length c2)) b g tb ab ag tv2 mv2 rb 33 _) := Lib.hid ⟨LRb.out.here.only (gonly4 ..) HRQ.out, LRb.out.far⟩
  have HE3 : Hid (Mes base (gset4 w2 q1 (.int .i64 0) (.bool F1) (.slice A1 F2.length c1) (.slice A2 F3.length c2)) (.slice A1 F2.length c1) F2) := Lib.hid (HE.out.only (gonly4 ..) (fun k hk hq => by subst hq; exact own_apart HE.out K1b.out.here (by decide) hk))
  have HN3 : Hid (Mw base (gset4 w2 q1 (.int .i64 0) (.bool F1) (.slice A1 F2.length c1) (.slice A2 F3.length c2)) (.slice A2 F3.length c2) F3) := Lib.hid (HN.out.only (gonly4 ..) (fun k hk hq => by subst hq; exact own_apart HN.out K1b.out.here (by decide) hk))
  obtain ⟨z0, z1, z2, z3⟩ := grow4 K1b.out.here
  obtain ⟨f0, f1, f2, f3⟩ := grow4f K1b.out.here
  clear S2 M2 LRb K0b HE HN
  go_upto_region 7 with (fail)
  unfold gset4 at S3 M3 K03 K13 LR3 HE3 HN3
  generalize World.setCell (World.setCell _ _ _) ⟨q1, 3, none⟩ _ = w3 at *
  clear K1b z0 z1 z2 z3 f0 f1 f2 f3
  have DR := Lib.hid (dry_c S3.out)
  obtain ⟨a0, a1, a2, a3, a4⟩ := lk5 K03.out.here
  obtain ⟨z0, z1, z2, z3⟩ := grow4 K13.out.here
  obtain ⟨r0, r1, r2, r3⟩ := grow4 LR3.out.here
  obtain ⟨f0, f1, f2, f3⟩ := grow4f LR3.out.here
  cases hd : dry T2 with
  | true =>
    rw [hd] at DR
    have FX : Hid (R (.returned (.tuple #[])) w3) := Lib.hid (by rw [← HR.out]; exact grun_dry (f := allR) E2.out hd S3.out M3.out LR3.out)
    clear HR S3 M3 K03 K13 LR3 E2
    go_wp2_with fail
    refine DR.out.mono ?_
    rintro e w9 ⟨rfl, rfl⟩
    go_wp2_with fail
    go_end0
    exact FX.out
  | false =>
    rw [hd] at DR
    have FX := Lib.hid (grun_wet (base := base) (f := allR) E2.out hd S3.out M3.out LR3.out (e := .slice A1 F2.length c1) (s := .slice A2 F3.length c2) (by rw [HF.out]; exact HE3.out) (by rw [HF.out]; exact HN3.out))
    rw [HF.out] at FX
    simp only at FX
    rw [H0.out] at FX
    have FY : Hid (R (.returned (.tuple #[])) (gset4 w3 rb (.int .i64 0) (.bool F1) (.slice A1 F2.length c1) (.slice A2 F3.length c2))) := Lib.hid (by rw [← HR.out]; exact FX.out)
    clear HR S3 M3 K03 K13 LR3 E2 FX
    go_wp2_with fail
    refine DR.out.mono ?_
    rintro e w9 ⟨rfl, rfl⟩
    go_wp2_with fail
    go_end0
    exact FY.out
end
end Go.Proofs.Ytlhjimkfcchdaaa

/-
  Layer 17: what comes of a goer that is alone.
-/
namespace Go.Proofs.Ytlhjimkfcchdaaa
open Go.ChangeShapes Go.WideShapes Go.ChangeAt Go.RowKit
set_option linter.unusedVariables false

/-- A goer of whatever way, whose run does p. -/
def Goes17 (N : Nat) (b g ab ag : Nat) (root addr : Int) (all : Bool) (p : Sk Gr) (x : Wi) : Prop :=
  ∀ tb rb, RunsBy N b g tb ab ag rb (GLay (tb + 1) rb) 26 #[goer ab root addr all rb] p x
theorem goes_find {b g ab ag : Nat} {x : Wi} (root addr : Int) (hh : root ≤ 9223372036854775807) : Goes17 1664 b g ab ag root addr false (findRs (fun h => cellOf x.fst x.l.length h) root addr) x := fun tb rb => grun_find (N := 1584) root addr hh
theorem goes_all {b g ab ag : Nat} {x : Wi} (root addr : Int) (hh : root ≤ 9223372036854775807) : Goes17 1664 b g ab ag root addr true (allRs (fun h => cellOf x.fst x.l.length h) root) x := fun tb rb => grun_all (N := 0) root addr hh rfl

/-- The cells of what is told, as a value. -/
def Gr.val (r : Gr) (e n : Value) : Value := .agg #[.int .i64 r.H, .bool r.O, e, n]
/-- What alone leaves. -/
def AlonePost (w : World) (b g ab ag : Nat) (m : Mm) (x : Wi) (p : Sk Gr) (e : Ending) (w' : World) : Prop :=
  ∃ (A1 : Option Addr) (c1 : Nat) (A2 : Option Addr) (c2 : Nat), e = .returned (.tuple #[(p.ans m).val (.slice A1 (p.ans m).E.length c1) (.slice A2 (p.ans m).N.length c2), .int .i64 ((p.reads m).length : Int), .bool true]) ∧
    Mes w.heap.size w' (.slice A1 (p.ans m).E.length c1) (p.ans m).E ∧ Mw w.heap.size w' (.slice A2 (p.ans m).N.length c2) (p.ans m).N ∧
    MemAt w' b g m.cs (m.cnt + inbs m (p.reads m)) ∧ ArAt w' ab ag x.fst x.l (evsW x ((p.reads m).map fun q => .touch q.2)).st x.db ∧ Only (fun k => CTwo b g k ∨ ArTwo ab ag k) w w'
section
variable {w : World} {b g ab ag : Nat} {m : Mm} {x : Wi} {G : Int} {root addr : Int} {all : Bool} {p : Sk Gr}
theorem gafter_over (p : Sk Gr) (m : Mm) (x : Wi) : (p.after some m x none (p.reads m).length) = ⟨((p.reads m).map fun q => rdv m q.1), true, ⟨m.cs, m.cnt + inbs m (p.reads m)⟩, evsW x ((p.reads m).map fun q => .touch q.2), some (p.ans m)⟩ := by
  unfold Sk.after
  simp
/-- Where the loop stands. -/
def AloneRel (w1 : World) (b g tb ab ag rb : Nat) (m : Mm) (x : Wi) (p : Sk Gr) (iv : Value) (wr : World) : Prop :=
  ∃ (n : Nat) (T : Tr) (tv mv : Value), n ≤ (p.reads m).length ∧ iv = .int .i64 n ∧ WLay w1 b g tb ab ag rb (GLay (tb + 1) rb) (p.after some m x none n) T tv mv wr
set_option maxRecDepth 4000 in
set_option maxHeartbeats 8000000 in
theorem alone_c (hm : MemAt w b g m.cs m.cnt) (ha : ArAt w ab ag x.fst x.l x.st x.db) (hx : WiOk x G) (hf : Fits m.cs) (hc : m.cnt + 60000 ≤ 4611686018427387904) (h0 : 0 < (p.reads m).length) (h1 : (p.reads m).length < 1800) (hrun : Goes17 1664 b g ab ag root addr all p x) :
    Calls Try.prog 11 #[.pointer (some ⟨b, 0, none⟩), .agg #[.pointer (some ⟨ab, 0, none⟩), .int .i64 root, .int .i64 addr, .bool all, .pointer none]] w (AlonePost w b g ab ag m x p) := by
  have hnot : ∀ (x : Bool) (w : World), (Op.unary .not (.bool x)).run Try.prog w = .ok (.bool (!x)) w := fun _ _ => rfl
  have hmf : ∀ (fn : Fn) (first cap : Array Value) (w : World), (Instr.makeFunc fn first cap).run Try.prog w = .ok (.func fn first cap) w := fun _ _ _ _ => rfl
  have B := (((Bag.new w).add 38 #[.pointer (some ⟨ab, 0, none⟩), .int .i64 root, .int .i64 addr, .bool all, .pointer none]).add 33 nilG).add 33 nilG
  simp only [World.size_alloc] at B
  have HBG := Lib.hid B
  have z4 := B.v2.cell 4
  have f4 := B.v2.frozen 4
  have HM := Lib.hid hm
  have HA := Lib.hid ha
  have HX := Lib.hid hx
  have HF := Lib.hid hf
  have HC := Lib.hid hc
  have HR := Lib.hid hrun
  clear hm ha hx hf hc hrun B
  unfold nilG at *
  go_enter Try.func11, Try.ntmps11
  go_upto_region 2 with (fail)
  have QQ : Hid (w.heap.size ≤ w.heap.size + 1 + 1 ∧ w.heap.size ≤ w.heap.size ∧ w.heap.size ≤ w.heap.size + 1 ∧ w.heap.size ≠ w.heap.size + 1 + 1 ∧ w.heap.size + 1 ≠ w.heap.size + 1 + 1 ∧ w.heap.size + 1 ≠ w.heap.size) := Lib.hid (by omega)
  generalize ((w.alloc (.cells #[.pointer (some ⟨ab, 0, none⟩), .int .i64 root, .int .i64 addr, .bool all, .pointer none] 38)).alloc _).alloc _ = wA at *
  generalize w.heap.size + 1 + 1 = rb at *
  generalize w.heap.size + 1 = q1 at *
  obtain ⟨q0, hq0⟩ : ∃ q0, w.heap.size = q0 := ⟨_, rfl⟩
  have HQ0 := Lib.hid hq0
  rw [hq0] at z4 f4 HBG
  go_upto_region 3 with (fail)
  have QR : Hid (q0 ≠ rb ∧ q1 ≠ rb ∧ q1 ≠ q0 ∧ w.heap.size ≤ q0 ∧ w.heap.size ≤ rb ∧ w.heap.size ≤ q1) := Lib.hid (by have := QQ.out; omega)
  have L1 : Hid (Whole (wA.setCell ⟨q0, 4, none⟩ (.pointer (some ⟨rb, 0, none⟩))) q0 38 #[.pointer (some ⟨ab, 0, none⟩), .int .i64 root, .int .i64 addr, .bool all, .pointer (some ⟨rb, 0, none⟩)]) := Lib.hid (HBG.out.v2.put 4 _)
  have L2 := Lib.hid (HBG.out.v1.far (p := ⟨q0, 4, none⟩) QR.out.2.2.1 (.pointer (some ⟨rb, 0, none⟩)))
  have L3 := Lib.hid (HBG.out.v0.far (p := ⟨q0, 4, none⟩) (Ne.symm QR.out.1) (.pointer (some ⟨rb, 0, none⟩)))
  have BL : Hid (Below w.heap.size w (wA.setCell ⟨q0, 4, none⟩ (.pointer (some ⟨rb, 0, none⟩)))) := Lib.hid (HBG.out.bel.setCell (p := ⟨q0, 4, none⟩) QR.out.2.2.2.1 _)
  generalize wA.setCell ⟨q0, 4, none⟩ (.pointer (some ⟨rb, 0, none⟩)) = w1 at *
  clear z4 f4 HBG QQ hq0
  have M1 : Hid (MemAt w1 b g m.cs m.cnt) := Lib.hid (HM.out.only (Only.of_below BL.out (fun _ => False)) id id)
  have A1 : Hid (ArAt w1 ab ag x.fst x.l x.st x.db) := Lib.hid (HA.out.still BL.out)
  have HLT : Hid (b < w.heap.size ∧ g < w.heap.size ∧ ab < w.heap.size ∧ ag < w.heap.size) := Lib.hid ⟨HM.out.top.lt, HM.out.row.lt, HA.out.top.lt, HA.out.row.lt⟩
  clear HM HA
  go_wp2_with fail
  refine (new_trail_ex M1.out).mono ?_
  rintro e w2 ⟨tb, rfl, hs, htb, hb⟩
  have SO : Hid (AloneRel w1 b g tb ab ag rb m x p (.int .i64 0) w2) := Lib.hid ⟨0, _, _, _, by omega, rfl,
    WLay.fresh p h0 ⟨hs, A1.out.still hb⟩ (Only.of_below hb _) htb (Nat.lt_of_lt_of_le L3.out.lt hb.size) (L3.out.below hb L3.out.lt) (by
      have h2 := HLT.out
      have h3 := L3.out.lt
      have h4 := QR.out.2.2.2.2.1
      rintro ((h1 | h1 | h1 | h1 | h1) | h1 | h1)
      · omega
      · omega
      · omega
      · simp [Value.ownBlock] at h1
      · simp [Value.ownBlock] at h1
      · omega
      · omega)⟩
  have HTB : Hid (q0 < tb ∧ rb < tb ∧ w.heap.size ≤ tb) := Lib.hid ⟨Nat.lt_of_lt_of_le L1.out.lt htb, Nat.lt_of_lt_of_le L3.out.lt htb, Nat.le_trans BL.out.size htb⟩
  have KP : Hid (Keeps tb (GLay (tb + 1) rb)) := Lib.hid (glay_keeps (by have := HTB.out; omega) (by omega))
  clear hs hb htb M1 A1 L3
  go_wp2_with fail
  go_loopw [9] (fun iv wr => AloneRel w1 b g tb ab ag rb m x p iv wr) (fun iv _ => 1800 - (intOf iv).toNat)
  case atStart => exact SO.out
  case round =>
    obtain ⟨n, T, tv, mv, hn, rfl, hL⟩ := hrel
    have S1 := Lib.hid hL
    have OV := Lib.hid (overs hL.st.st)
    rw [hL.over] at OV
    have hw0 : ∀ k, k = q0 ∨ k = q1 → ¬ (CTwo b g k ∨ ArTwo ab ag k ∨ k = rb) := by
      intro k hk
      have h2 := HLT.out
      have h4 := QR.out
      rcases hk with rfl | rfl <;> rintro ((h1 | h1) | (h1 | h1) | h1) <;> omega
    have LK := Lib.hid (L1.out.only hL.only (hw0 _ (.inl rfl)))
    have LQ := Lib.hid (L2.out.only hL.only (hw0 _ (.inr rfl)))
    rw [← HQ0.out] at LK
    obtain ⟨a0, a1, a2, a3, a4⟩ := lk5 LK.out
    clear hL SO hw0
    by_cases hlt : n < (p.reads m).length
    · have X := Lib.hid (alone_step (F := 26) (first := #[.agg #[.pointer (some ⟨ab, 0, none⟩), .int .i64 root, .int .i64 addr, .bool all, .pointer (some ⟨rb, 0, none⟩)]]) n KP.out (HR.out tb rb) (fun _ => rfl) hlt (by omega) HC.out HX.out HF.out S1.out)
      have ov : (p.after some m x none n).over = false := by simp only [Sk.after]; exact decide_eq_false (by omega)
      rw [ov] at OV
      have i60 : (n : Int) < 1800 := by omega
      clear S1 ov LQ
      go_wp2_with fail
      refine OV.out.mono ?_
      rintro e w5 ⟨rfl, rfl⟩
      clear OV
      go_wp2_with fail
      refine X.out.mono ?_
      rintro e w6 ⟨T', tv', mv', rfl, hS'⟩
      have S2 := Lib.hid hS'
      clear hS' X LK a0 a1 a2 a3 a4
      go_wp2_with fail
      go_roundw
      case rel => exact ⟨n + 1, _, _, _, by omega, by go_num, S2.out⟩
      case measure => simp [intOf]; omega
    · have hn2 : n = (p.reads m).length := by omega
      subst hn2
      rw [gafter_over] at S1 OV
      have i60 : ((p.reads m).length : Int) < 1800 := by omega
      clear hn LK a0 a1 a2 a3 a4
      have S2 := Lib.hid (S1.out.still KP.out (below_drew (Below.refl wr.heap.size wr)))
      have OD := Lib.hid (overs S2.out.st.st)
      rw [S2.out.over] at OD
      have SD := Lib.hid (steps S2.out.st.st)
      rw [S2.out.told, List.length_map] at SD
      have LQ0 := Lib.hid LQ.out
      have LQ := Lib.hid (LQ.out.drew)
      obtain ⟨e1, e2, hr, hme, hmw⟩ := S1.out.cell
      generalize hra : p.ans m = r at *
      have HRA := Lib.hid hra
      clear hra
      obtain ⟨B1, c1, rfl⟩ := own_slice hme
      obtain ⟨B2, c2, rfl⟩ := own_slice hmw
      have RW : Hid (Whole wr rb 33 #[.int .i64 r.H, .bool r.O, .slice B1 r.E.length c1, .slice B2 r.N.length c2]) := Lib.hid hr
      have hne1 : ∀ k, CTwo b g k ∨ ArTwo ab ag k → k ≠ q1 := by
        have h2 := HLT.out
        have h4 := QR.out
        rintro k ((h1 | h1) | (h1 | h1)) <;> omega
      have hp0 := gput4 LQ0.out (.int .i64 r.H) (.bool r.O) (.slice B1 r.E.length c1) (.slice B2 r.N.length c2)
      have ho := gonly4 wr q1 (.int .i64 r.H) (.bool r.O) (.slice B1 r.E.length c1) (.slice B2 r.N.length c2)
      obtain ⟨wE, hE⟩ : ∃ wE, gset4 wr q1 (.int .i64 r.H) (.bool r.O) (.slice B1 r.E.length c1) (.slice B2 r.N.length c2) = wE := ⟨_, rfl⟩
      rw [hE] at ho hp0
      have HE := Lib.hid hE
      unfold gset4 at HE
      clear hE
      have HD := below_drew (Below.refl wE.heap.size wE)
      have P0 := Lib.hid hp0.drew
      have F1 : Hid (Mes w.heap.size wE.drew (.slice B1 r.E.length c1) r.E) := Lib.hid (((hme.base' (show w.heap.size ≤ tb + 1 by have := HTB.out; omega)).only ho (fun k hk hq => by
        subst hq
        exact own_apart hme LQ0.out (by decide) hk)).still HD)
      have F1b : Hid (Mw w.heap.size wE.drew (.slice B2 r.N.length c2) r.N) := Lib.hid (((hmw.base' (show w.heap.size ≤ tb + 1 by have := HTB.out; omega)).only ho (fun k hk hq => by
        subst hq
        exact own_apart hmw LQ0.out (by decide) hk)).still HD)
      have F2 : Hid (MemAt wE.drew b g m.cs (m.cnt + inbs m (p.reads m))) := Lib.hid ((S1.out.st.st.mem.only ho (hne1 _ (.inl (.inl rfl))) (hne1 _ (.inl (.inr rfl)))).only (Only.of_below HD (fun _ => False)) id id)
      have F3 := Lib.hid ((S1.out.st.ar.only ho (hne1 _ (.inr (.inl rfl))) (hne1 _ (.inr (.inr rfl)))).still HD)
      have F4 : Hid (Only (fun k => CTwo b g k ∨ ArTwo ab ag k) w wE.drew) := Lib.hid (by
        have h4 := QR.out
        have h5 := BL.out.size
        refine ⟨HD.os.trans (ho.os.trans (S1.out.only.os.trans BL.out.os)), HD.tape.trans (ho.tape.trans (S1.out.only.tape.trans BL.out.tape)), HD.output.trans (ho.output.trans (S1.out.only.output.trans BL.out.output)), ?_, ?_⟩
        · exact Nat.le_trans h5 (Nat.le_trans S1.out.only.size (Nat.le_trans ho.size HD.size))
        · intro k hk hn
          have e1 : wE.drew.heap[k]? = wE.heap[k]? := rfl
          rw [e1, ho.block k (Nat.lt_of_lt_of_le hk (Nat.le_trans h5 S1.out.only.size)) (by omega), S1.out.only.block k (Nat.lt_of_lt_of_le hk h5) (by rintro (h6 | h6 | h6); exact hn (.inl h6); exact hn (.inr h6); omega)]
          exact BL.out.block k hk)
      have WS := Lib.hid (grow4 (RW.out.only ho (Ne.symm QR.out.2.1)).drew)
      have WR := Lib.hid (grow4 RW.out.drew)
      rw [← HE.out] at WS
      clear hr hme hmw ho HD hne1 hp0
      obtain ⟨zz0, zz1, zz2, zz3⟩ := grow4 LQ0.out
      obtain ⟨ff0, ff1, ff2, ff3⟩ := grow4f LQ0.out
      have OV2 := Lib.hid OV.out
      go_wp2_with fail
      refine OV2.out.mono ?_
      rintro e w5 ⟨rfl, rfl⟩
      clear OV OV2
      go_upto_region 8 with (fail)
      generalize hN : (p.reads m).length = N at *
      have HN := Lib.hid hN
      clear hN
      go_region_held3 (fun W => W.cell? ⟨rb, 0, none⟩ = some (.int .i64 r.H) ∧ W.cell? ⟨rb, 1, none⟩ = some (.bool r.O) ∧ W.cell? ⟨rb, 2, none⟩ = some (.slice B1 r.E.length c1) ∧ W.cell? ⟨rb, 3, none⟩ = some (.slice B2 r.N.length c2))
        (first | with_reducible exact WR.out | with_reducible exact WS.out)
        (first
        | (go_at_call 27; refine SD.out.mono ?_; rintro e w9 ⟨rfl, rfl⟩; clear SD)
        | (go_at_call 24; refine OD.out.mono ?_; rintro e w9 ⟨rfl, rfl⟩; clear OD)
        | fail)
      all_goals
        rw [HE.out]
        clear WS WR RW zz0 zz1 zz2 zz3 ff0 ff1 ff2 ff3
        have FIN : Hid (AlonePost w b g ab ag m x p (.returned (.tuple #[.agg #[.int .i64 r.H, .bool r.O, .slice B1 r.E.length c1, .slice B2 r.N.length c2], .int .i64 (N : Int), .bool true])) wE.drew) := Lib.hid (by
          have t1 := touches_same x (p.reads m)
          have f3 := F3.out
          rw [t1.1, t1.2.1, t1.2.2] at f3
          refine ⟨B1, c1, B2, c2, ?_, ?_, ?_, F2.out, f3, F4.out⟩
          · rw [HRA.out, HN.out]; rfl
          · rw [HRA.out]; exact F1.out
          · rw [HRA.out]; exact F1b.out)
        clear F1 F1b F2 F3 F4
        go_wp2_with fail
        refine bodyPost_ret (results_row_tmp2 rfl _ _ q1 33 _ (0, 0) _ rfl P0.out Try.underlying33 rfl (by kernel_rfl)) rfl ?_
        exact FIN.out
end
end Go.Proofs.Ytlhjimkfcchdaaa
