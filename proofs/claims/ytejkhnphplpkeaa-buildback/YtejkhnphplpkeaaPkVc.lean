/-
  Texts of our own, one behind the other (BdTask): what the laws' proofs rest on; each says at its head what it holds. No conditions.
-/
import Derived.Test.YtejkhnphplpkeaaPkVb
import Derived.Test.YtejkhnphplpkeaaPkZd
/-
  Layer 18: the law's finder: it finds an address, and goes through the tree.
-/
namespace Go.Proofs.Ytejkhnphplpkeaa
open Go.ChangeShapes Go.WideShapes Go.ChangeAt Go.RowKit
set_option linter.unusedVariables false
variable {α β : Type}

/-- What came of it. -/
structure Bk where
  h : Int
  es : List En
def bkOf (r : (Int × Bool) × Option Thru) : Option Bk := if r.1.2 then r.2.map fun s => ⟨r.1.1, s.es⟩ else none
noncomputable def bkP (c : Int → Int → Int) (root addr : Int) : Sk ((Int × Bool) × Option Thru) := (findFrom c addr 8 root).bind fun r => (thru c 8 root ⟨[], []⟩).bind fun s => .ret (r, s)
noncomputable def bkRs (c : Int → Int → Int) (root addr : Int) : Sk (Option Bk) := (bkP c root addr).bind fun r => .ret (bkOf r)
/-- It lies in two variables. -/
def BLay (base hb lb : Nat) (r : Option (Option Bk)) (w : World) : Prop :=
  match r with
  | some (some r) => ∃ e, Whole w hb 2 #[.int .i64 r.h] ∧ Whole w lb 25 #[e] ∧ Mes base w e r.es
  | _ => Whole w hb 2 #[.int .i64 (-1)] ∧ Whole w lb 25 #[.slice none 0 0]
def HbLb (hb lb k : Nat) : Prop := k = hb ∨ k = lb
theorem blay_keeps {base hb lb tb : Nat} (h1 : hb ≠ tb) (h2 : lb ≠ tb) (h3 : tb < base) : Keeps tb (BLay base hb lb) := by
  have n1 : ∀ (W W' : World), Whole W hb 2 #[.int .i64 (-1)] ∧ Whole W lb 25 #[.slice none 0 0] → Below W.heap.size W W' → Whole W' hb 2 #[.int .i64 (-1)] ∧ Whole W' lb 25 #[.slice none 0 0] := fun W W' h hb => ⟨h.1.below hb h.1.lt, h.2.below hb h.2.lt⟩
  have n2 : ∀ (W : World) (i : Nat) (u : Value), Whole W hb 2 #[.int .i64 (-1)] ∧ Whole W lb 25 #[.slice none 0 0] → Whole (W.setCell ⟨tb, i, none⟩ u) hb 2 #[.int .i64 (-1)] ∧ Whole (W.setCell ⟨tb, i, none⟩ u) lb 25 #[.slice none 0 0] := fun W i u h => ⟨h.1.far (p := ⟨tb, i, none⟩) h1 u, h.2.far (p := ⟨tb, i, none⟩) h2 u⟩
  constructor
  · intro r W W' h hb
    match r with
    | none => exact n1 W W' h hb
    | some none => exact n1 W W' h hb
    | some (some r) =>
      obtain ⟨e, a, b, c⟩ := h
      exact ⟨e, a.below hb a.lt, b.below hb b.lt, c.still hb⟩
  · intro r W i u h
    match r with
    | none => exact n2 W i u h
    | some none => exact n2 W i u h
    | some (some r) =>
      obtain ⟨e, a, b, c⟩ := h
      exact ⟨e, a.far (p := ⟨tb, i, none⟩) h1 u, b.far (p := ⟨tb, i, none⟩) h2 u, own_far (p := ⟨tb, i, none⟩) c (fun hk => by have := (World.ownsRow.lt c tb hk).1; omega) u⟩
section
variable {w w2 w' : World} {b g tb ab ag hb lb base : Nat} {tv mv tv' mv' : Value} {T T' T2 : Tr} {m m' m2 : Mm} {x x' x2 : Wi} {G : Int} {n : Nat} {S : Nat → Prop} {lay : Option β → World → Prop} {q : Sk α} {f : α → β} {a : α}
/-- What a run leaves, of what a call has left. -/
theorem brun_ends (hb : wend q T m x = ⟨a, T', m', x'⟩) (hs : WSt w' b g tb ab ag tv' mv' T' m' x')
    (ho : Only (fun k => WAll b g tb ab ag tv mv k ∨ S k) w w') (ht : ∀ k, tv'.ownBlock = some k → tv.ownBlock = some k ∨ w.heap.size ≤ k) (hm : ∀ k, mv'.ownBlock = some k → mv.ownBlock = some k ∨ w.heap.size ≤ k)
    (hl : lay (if dry T' then none else some (f a)) w') :
    WRan w b g tb ab ag tv mv S (fun W' => lay (wplay (Sk.laid (q.bind fun r => .ret (f r))).toW T m).a W') (wplay (Sk.laid (q.bind fun r => .ret (f r))).toW T m) x (.returned (.tuple #[])) w' := by
  have e := wend_laid q f T m x
  rw [hb] at e
  have ea : (wplay (Sk.laid (q.bind fun r => .ret (f r))).toW T m).a = (if dry T' then none else some (f a)) := congrArg WEnd.a e
  have eT : (wplay (Sk.laid (q.bind fun r => .ret (f r))).toW T m).T = T' := congrArg WEnd.T e
  have em : (wplay (Sk.laid (q.bind fun r => .ret (f r))).toW T m).m = m' := congrArg WEnd.m e
  have ex : evsW x (wplay (Sk.laid (q.bind fun r => .ret (f r))).toW T m).evs = x' := congrArg WEnd.x e
  refine ⟨rfl, tv', mv', ?_, ho, ht, hm, ?_⟩
  · rw [eT, em, ex]; exact hs
  · show lay (wplay (Sk.laid (q.bind fun r => .ret (f r))).toW T m).a w'
    rw [ea]; exact hl
theorem bk_wend {c : Int → Int → Int} {root addr : Int} {r : Int × Bool} {s : Option Thru} (h1 : wend (findFrom c addr 8 root) T m x = ⟨r, T2, m2, x2⟩) (h2 : wend (thru c 8 root ⟨[], []⟩) T2 m2 x2 = ⟨s, T', m', x'⟩) : wend (bkP c root addr) T m x = ⟨(r, s), T', m', x'⟩ := by
  unfold bkP
  rw [wend_bind, h1]
  simp only
  rw [wend_bind, h2]
  rfl
end
section
variable {b g tb ab ag hb lb base N : Nat} {x : Wi}
/-- The law's finder. -/
def finderV (ab : Nat) (root addr : Int) (hb lb : Nat) : Value := .agg #[.pointer (some ⟨ab, 0, none⟩), .int .i64 root, .int .i64 addr, .pointer (some ⟨hb, 0, none⟩), .pointer (some ⟨lb, 0, none⟩)]
set_option maxRecDepth 4000 in
set_option maxHeartbeats 8000000 in
theorem brun_c (root addr : Int) (hh : root ≤ 9223372036854775807) (hbase : base = tb + 1) : RunsS (N + 1664 + 80) b g tb ab ag (HbLb hb lb) (BLay base hb lb) 33 #[finderV ab root addr hb lb] (bkRs (fun h => cellOf x.fst x.l.length h) root addr) x := by
  intro w tv mv T m x' G H hf hl lay0 hap hlt
  have hnot : ∀ (x : Bool) (w : World), (Op.unary .not (.bool x)).run Try.prog w = .ok (.bool (!x)) w := fun _ _ => rfl
  show Calls Try.prog 33 #[finderV ab root addr hb lb, .pointer (some ⟨tb, 0, none⟩)] w _
  have HB : Hid (base ≤ w.heap.size) := Lib.hid (by have := H.st.st.tr.top.lt; omega)
  have hbn := below_new w (.cells #[.pointer (some ⟨ab, 0, none⟩), .int .i64 root, .int .i64 addr, .pointer (some ⟨hb, 0, none⟩), .pointer (some ⟨lb, 0, none⟩)] 70)
  have s1 := H.still hbn
  have mo1 := WMoved.still hbn b g tb ab ag tv mv
  have LH : Hid (Beside w b g tb ab ag tv mv hb 2 #[.int .i64 (-1)]) := Lib.hid ⟨lay0.1, hap hb (.inl rfl)⟩
  have LL : Hid (Beside w b g tb ab ag tv mv lb 25 #[.slice none 0 0]) := Lib.hid ⟨lay0.2, hap lb (.inr rfl)⟩
  have HNE : Hid (hb ≠ lb) := Lib.hid (fun e => by subst e; exact Whole.apart lay0.1 lay0.2 (by decide) rfl)
  obtain ⟨R, hR⟩ : ∃ R, WRan w b g tb ab ag tv mv (HbLb hb lb) (fun W' => BLay base hb lb (wplay (Sk.laid (bkRs (fun h => cellOf x.fst x.l.length h) root addr)).toW T m).a W') (wplay (Sk.laid (bkRs (fun h => cellOf x.fst x.l.length h) root addr)).toW T m) x' = R := ⟨_, rfl⟩
  rw [hR]
  have HR := Lib.hid hR
  have LH1 := Lib.hid (LH.out.moved mo1)
  have LL1 := Lib.hid (LL.out.moved mo1)
  have M1 := Lib.hid mo1
  have K0 := Lib.hid (Beside.of_new H.st (Whole.new w 70 #[.pointer (some ⟨ab, 0, none⟩), .int .i64 root, .int .i64 addr, .pointer (some ⟨hb, 0, none⟩), .pointer (some ⟨lb, 0, none⟩)]) (Nat.le_refl _))
  have C := Lib.hid (find_c (n := N + 1664) root addr s1 hh)
  rw [hf, hl] at C
  have HFL : Hid (x'.fst = x.fst ∧ x'.l = x.l) := Lib.hid ⟨hf, hl⟩
  have HA := Lib.hid (Nat.le_trans HB.out hbn.size)
  clear s1 mo1 hR H lay0 hap hlt hf hl LH LL hbn
  unfold finderV
  go_enter Try.func33, Try.ntmps33
  go_upto_region 1 with (fail)
  generalize w.alloc (.cells #[.pointer (some ⟨ab, 0, none⟩), .int .i64 root, .int .i64 addr, .pointer (some ⟨hb, 0, none⟩), .pointer (some ⟨lb, 0, none⟩)] 70) = wA at *
  obtain ⟨q0, hq0⟩ : ∃ q0, w.heap.size = q0 := ⟨_, rfl⟩
  have HQ0 := Lib.hid hq0
  rw [hq0] at K0 ⊢
  clear hq0
  obtain ⟨a0, a1, a2, a3, a4⟩ := lk5 K0.out.here
  go_wp2_with fail
  obtain ⟨O, hO⟩ : ∃ O, wend (findFrom (fun h => cellOf x.fst x.l.length h) addr 8 root) T m x' = O := ⟨_, rfl⟩
  rw [hO] at C
  have E2 := Lib.hid hO
  have W2 := Lib.hid (wend_same (findFrom (fun h => cellOf x.fst x.l.length h) addr 8 root) T m x')
  rw [hO] at W2
  clear hO
  obtain ⟨⟨v, ok⟩, T2, m2, x2⟩ := O
  refine C.out.mono ?_
  rintro e w2 ⟨val, tv2, mv2, rfl, rfl, s2, mo2⟩
  have M2 := Lib.hid (M1.out.trans mo2)
  have K02 := Lib.hid (K0.out.moved mo2)
  have LH2 := Lib.hid (LH1.out.moved mo2)
  have LL2 := Lib.hid (LL1.out.moved mo2)
  have HA2 := Lib.hid (Nat.le_trans HA.out mo2.only.size)
  have C3 := Lib.hid (every_c (n := N) root s2 hh)
  have w2f := W2.out
  simp only at w2f
  rw [w2f.1, w2f.2, HFL.out.1, HFL.out.2] at C3
  clear s2 mo2 C M1 K0 LH1 LL1 a0 a1 a2 a3 a4 w2f W2 HFL HA
  unfold findV
  obtain ⟨a0, a1, a2, a3, a4⟩ := lk5 K02.out.here
  go_wp2_with fail
  obtain ⟨O, hO⟩ : ∃ O, wend (thru (fun h => cellOf x.fst x.l.length h) 8 root ⟨[], []⟩) T2 m2 x2 = O := ⟨_, rfl⟩
  rw [hO] at C3
  have E3 := Lib.hid hO
  clear hO
  obtain ⟨r, T3, m3, x3⟩ := O
  refine C3.out.mono ?_
  rintro e w3 ⟨val, tv3, mv3, rfl, hA, s3, mo3⟩
  have S3 := Lib.hid s3
  have M3 := Lib.hid (M2.out.trans mo3)
  have K03 := Lib.hid (K02.out.moved mo3)
  have LH3 := Lib.hid (LH2.out.moved mo3)
  have LL3 := Lib.hid (LL2.out.moved mo3)
  obtain ⟨A1, c1, A2, c2, hval, he⟩ : ∃ A1 c1 A2 c2, val = .tuple #[.slice A1 (allR r).E.length c1, .slice A2 (allR r).N.length c2, .bool (allR r).O] ∧ Mes base w3 (.slice A1 (allR r).E.length c1) (allR r).E := by
    cases r with
    | none => exact ⟨none, 0, none, 0, hA, Mes.nil _ _⟩
    | some s =>
      obtain ⟨A1, c1, A2, c2, h1, h2, h3⟩ := hA
      exact ⟨A1, c1, A2, c2, h1, h2.base' HA2.out⟩
  subst hval
  have HE := Lib.hid he
  have EE := Lib.hid (bk_wend E2.out E3.out)
  have DR := Lib.hid (dry_c S3.out)
  have UN : Hid (∀ u : Option (Option Bk), (u = none ∨ u = some none) → BLay base hb lb u w3) := Lib.hid (fun u hu => by
    rcases hu with rfl | rfl
    · exact ⟨LH3.out.here, LL3.out.here⟩
    · exact ⟨LH3.out.here, LL3.out.here⟩)
  have FU : Hid ((if dry T3 then none else some (bkOf ((v, ok), r))) = none ∨ (if dry T3 then none else some (bkOf ((v, ok), r))) = some none → R (.returned (.tuple #[])) w3) := Lib.hid (fun h => by
    rw [← HR.out]
    exact brun_ends EE.out S3.out.st (M3.out.only.mono (fun k _ hk => .inl hk)) M3.out.t M3.out.m (UN.out _ h))
  clear s3 mo3 C3 M2 K02 LH2 LL2 a0 a1 a2 a3 a4 hA he HA2 E2 E3 UN
  obtain ⟨a0, a1, a2, a3, a4⟩ := lk5 K03.out.here
  cases hd : dry T3 with
  | true =>
    rw [hd] at DR
    have FX := Lib.hid (FU.out (.inl (by rw [hd]; rfl)))
    clear HR S3 M3 K03 LH3 LL3 EE FU HE
    generalize (allR r).E.length = l1 at *
    generalize (allR r).N.length = l2 at *
    generalize (allR r).O = is at *
    go_wp2_with fail
    refine DR.out.mono ?_
    rintro e w9 ⟨rfl, rfl⟩
    go_wp2_with fail
    go_end0
    exact FX.out
  | false =>
    rw [hd] at DR
    cases ok with
    | false =>
      have FX := Lib.hid (FU.out (.inr (by rw [hd]; rfl)))
      clear HR S3 M3 K03 LH3 LL3 EE FU HE
      generalize (allR r).E.length = l1 at *
      generalize (allR r).N.length = l2 at *
      generalize (allR r).O = is at *
      go_wp2_with fail
      refine DR.out.mono ?_
      rintro e w9 ⟨rfl, rfl⟩
      go_wp2_with fail
      go_end0
      exact FX.out
    | true =>
      cases r with
      | none =>
        have FX := Lib.hid (FU.out (.inr (by rw [hd]; rfl)))
        clear HR S3 M3 K03 LH3 LL3 EE FU HE
        unfold allR Gr.nil
        go_wp2_with fail
        refine DR.out.mono ?_
        rintro e w9 ⟨rfl, rfl⟩
        go_wp2_with fail
        go_end0
        exact FX.out
      | some s =>
        unfold allR at HE ⊢
        simp only at HE ⊢
        have FX : Hid (R (.returned (.tuple #[])) ((w3.setCell ⟨hb, 0, none⟩ (.int .i64 v)).setCell ⟨lb, 0, none⟩ (.slice A1 s.es.length c1))) := Lib.hid (by
          have o1 := only_one w3 hb 0 (.int .i64 v)
          have o2 := only_one (w3.setCell ⟨hb, 0, none⟩ (.int .i64 v)) lb 0 (.slice A1 s.es.length c1)
          have s4 := S3.out.beside LH3.out.far o1
          have ll4 := LL3.out.far_put (k2 := hb) (Ne.symm HNE.out) 0 (.int .i64 v)
          have s5 := s4.beside ll4.far o2
          rw [← HR.out]
          refine brun_ends EE.out s5.st ?_ M3.out.t M3.out.m ?_
          · exact (M3.out.only.mono (fun k _ hk => .inl hk)).trans ((o1.mono (fun k _ hk => .inr (.inl hk))).trans (o2.mono (fun k _ hk => .inr (.inr hk))))
          · rw [hd]
            refine ⟨.slice A1 s.es.length c1, ?_, ?_, ?_⟩
            · exact (LH3.out.here.put 0 (.int .i64 v)).far (p := ⟨lb, 0, none⟩) HNE.out _
            · exact ll4.here.put 0 _
            · refine (HE.out.only o1 (fun k hk hq => ?_)).only o2 (fun k hk hq => ?_)
              · subst hq; exact own_apart HE.out LH3.out.here (by decide) hk
              · subst hq; exact own_apart HE.out LL3.out.here (by decide) hk)
        have h0 := LH3.out.here.cell 0
        have h1 := LH3.out.here.frozen 0
        have h2 := (LL3.out.far_put (k2 := hb) (Ne.symm HNE.out) 0 (.int .i64 v)).here.cell 0
        have h3 := (LL3.out.far_put (k2 := hb) (Ne.symm HNE.out) 0 (.int .i64 v)).here.frozen 0
        have h4 := (K03.out.far_put (k2 := hb) (fun e => Whole.apart K03.out.here LH3.out.here (by decide) e) 0 (.int .i64 v)).here.cell 4
        clear HR S3 M3 K03 LH3 LL3 EE FU HE
        go_wp2_with fail
        refine DR.out.mono ?_
        rintro e w9 ⟨rfl, rfl⟩
        go_wp2_with fail
        go_end0
        exact FX.out
end
end Go.Proofs.Ytejkhnphplpkeaa
