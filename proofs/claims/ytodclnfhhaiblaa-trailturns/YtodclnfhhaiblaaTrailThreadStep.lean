/-
  Layer 3: the reference: a step of a thread.
-/
import Derived.Test.YtodclnfhhaiblaaTrailThreadOver
import Derived.Test.YtodclnfhhaiblaaTrailAloneWalk
namespace Go.Proofs.Ytodclnfhhaiblaa
open Go.ChangeShapes Go.WideShapes Go.ChangeAt Go.RowKit
set_option linter.unusedVariables false

/-- What a step comes to: what is left, how many were told, the sum, the marks, the memory. -/
structure Nx where
  r : List Pop
  t : Nat
  s : Int
  mks : List (Int × Int)
  m : Mm
/-- A step, where r is left. -/
def nxt (r : List Pop) (time : Int) (h : Th) (m : Mm) : Nx := match r with
  | [] => ⟨[], h.t, h.s, h.mks, m⟩
  | o :: q => if okOf (o.kd % 6) o.i o.old m then ⟨skip q, h.t + 1, wrap64 (h.s + gotOf o (toldOf (o.kd % 6) o.i o.old m)), h.mks ++ lead time q, memOf (o.kd % 6) o.i (popV o h.s) o.old m⟩
    else ⟨o :: q, h.t, h.s, h.mks, memOf (o.kd % 6) o.i (popV o h.s) o.old m⟩

section
variable {w w' w'' : World} {hb o : Nat} {cs : Array Value} {mv mv' mv'' : Value} {h h' : Th} {rb base : Nat} {A : Option Addr} {c : Nat} {m m' : Mm}

theorem ThSys.drew (H : ThSys w hb o cs mv h rb base A c m) : ThSys w.drew hb o cs mv h rb base A c m := H.still (below_drew (Below.refl _ _))
theorem within_inb (i : Int) (m : Mm) : Within i m.cs ↔ inb i m = true := by simp [inb, Within]

/-- An access by the reference, in the trail's words. -/
theorem th_do (k i v old : Int) (hk0 : 0 ≤ k) (hk1 : k ≤ 3) (H : RefAt w rb base A c m.cs m.cnt) (hu : m.cnt + 1 ≤ 4611686018427387904) :
    Calls Try.prog 33 #[.pointer (some ⟨rb, 0, none⟩), .agg #[.int .u8 k, .int .i64 i, .int .i64 v, .int .i64 old]] w fun e w' =>
      e = .returned (.tuple #[.int .i64 (toldOf k i old m), .int .i64 (errOf i m)]) ∧ RefAt w' rb base A c (memOf k i v old m).cs (memOf k i v old m).cnt ∧ Only (Ref rb A) w w' := by
  refine (ref_any k i v old hk0 (by omega) H hu).mono ?_
  have hk4 : k % 4 = k := by omega
  rw [hk4]
  rintro e w' ⟨rfl, h1, h2⟩
  by_cases hi : Within i m.cs
  · have hi' := (within_inb i m).1 hi
    have e1 : told k i v old m.cs = (toldOf k i old m, errOf i m) := by
      simp only [told, if_pos hi, toldOf, errOf, hi', if_true]
      rcases (show k = 0 ∨ k = 1 ∨ k = 2 ∨ k = 3 by omega) with rfl | rfl | rfl | rfl
      · simp
      · simp
      · simp
      · by_cases he : nth m.cs i.toNat = old <;> simp [he]
    have e2 : turned k i v old m.cs = (memOf k i v old m).cs := by
      simp only [turned, if_pos hi, memOf, hi', if_true]
      rcases (show k = 0 ∨ k = 1 ∨ k = 2 ∨ k = 3 by omega) with rfl | rfl | rfl | rfl
      · simp
      · simp
      · simp
      · by_cases he : nth m.cs i.toNat = old <;> simp [he]
    have e3 : m.cnt + tick i m.cs = (memOf k i v old m).cnt := by simp [tick, if_pos hi, memOf, hi']
    rw [e1]
    rw [e2, e3] at h1
    exact ⟨rfl, h1, h2⟩
  · have hi' : ¬ inb i m = true := fun hh => hi ((within_inb i m).2 hh)
    have e1 : told k i v old m.cs = (toldOf k i old m, errOf i m) := by simp [told_out hi, toldOf, errOf, hi']
    have e2 : turned k i v old m.cs = (memOf k i v old m).cs := by simp [turned_out hi, memOf, hi']
    have e3 : m.cnt + tick i m.cs = (memOf k i v old m).cnt := by simp [tick_out hi, memOf, hi']
    rw [e1]
    rw [e2, e3] at h1
    exact ⟨rfl, h1, h2⟩

theorem got_told (p : Pop) (m : Mm) (h0 : 0 ≤ p.kd) (h4 : p.kd % 6 ≠ 4) (h5 : p.kd % 6 ≠ 5) : gotOf p (toldOf (p.kd % 6) p.i p.old m) = toldOf (p.kd % 6) p.i p.old m := by
  rcases (show p.kd % 6 = 0 ∨ p.kd % 6 = 1 ∨ p.kd % 6 = 2 ∨ p.kd % 6 = 3 by omega) with hk | hk | hk | hk
  · simp [gotOf, hk]
  · simp [gotOf, hk, toldOf]
  · simp [gotOf, hk]
  · simp only [gotOf, hk, toldOf]
    by_cases hi : inb p.i m = true
    · by_cases he : nth m.cs p.i.toNat = p.old <;> simp [hi, he]
    · simp [hi]

theorem not_tset {k : Nat} {t : TypeId} {ds : Array Value} (H : ThSys w hb o cs mv h rb base A c m) (hw : Whole w k t ds) (h1 : t ≠ 43) (h2 : t ≠ 84) (h3 : t ≠ 48) (h4 : t ≠ 2) : ¬ Tset hb mv rb A k := by
  rintro (rfl | hk | hk | ⟨x, hA, hk⟩)
  · exact hw.apart H.th.whole h1 rfl
  · exact own_apart H.th.own hw (Ne.symm h2) hk
  · exact hw.apart H.ref.top h3 hk
  · refine own_apart H.ref.own hw (Ne.symm h4) ?_
    rw [hA]; simp [Value.ownBlock, hk]

theorem rmark_info : (Try.prog.info? 84).map (fun i => (i.zero, i.size, i.bytes)) = some (some (.agg #[.int .i64 0, .int .i64 0]), 2, 16) := by kernel_rfl
theorem rmark_info' : ∃ i0, Try.prog.info? 84 = some i0 ∧ i0.zero = some (.agg #[.int .i64 0, .int .i64 0]) ∧ i0.size = 2 ∧ i0.bytes = 16 := by
  obtain ⟨i0, h1, h2⟩ := Option.map_eq_some_iff.1 rmark_info
  simp only [Prod.mk.injEq] at h2
  exact ⟨i0, h1, h2.1, h2.2.1, h2.2.2⟩

/-- Behind an append to the marks, ahead of the store. -/
theorem ThAt.appended {ob : Obj} (H : ThAt w hb o cs mv h) (hg : (w.alloc ob).grownBy w' mv.ownBlock) : Whole w' hb 43 (put4 cs o h.a h.t h.s mv) :=
  (H.whole.alloc ob).grown hg (fun he => H.nm he.symm)
/-- Behind the store. -/
theorem ThSys.append {ob : Obj} {x : Int × Int} (H : ThSys w hb o cs mv h rb base A c m) (hg : (w.alloc ob).grownBy w' mv.ownBlock)
    (hown : w'.ownsRow 0 84 2 mv' (h.mks.length + 1) (markCells h.mks ++ [.int .i64 x.1, .int .i64 x.2])) (hat : mv.ownBlock = mv'.ownBlock ∨ mv'.ownBlock = some (w.alloc ob).heap.size) :
    ThSys (w'.setCell ⟨hb, o + 3, none⟩ mv') hb o cs mv' ⟨h.a, h.t, h.s, h.mks ++ [x]⟩ rb base A c m ∧ ThMoved w hb mv rb A (w'.setCell ⟨hb, o + 3, none⟩ mv') mv' := by
  have ho : Only (fun k => mv.ownBlock = some k) w w' := ((Only.refl _ w).alloc ob).grown hg (fun k hk => .inl hk)
  have htop := H.th.appended hg
  have hne : mv'.ownBlock ≠ some hb := own_apart hown htop (by decide)
  have ho2 : Only (fun k => mv.ownBlock = some k ∨ k = hb) w (w'.setCell ⟨hb, o + 3, none⟩ mv') := (ho.mono (fun k _ hk => .inl hk)).setCell (p := ⟨hb, o + 3, none⟩) (.inl (.inr rfl)) _
  have hsz : (w.alloc ob).heap.size = w.heap.size + 1 := by simp
  refine ⟨⟨⟨?_, H.th.fit, ?_⟩, H.ref.only ho2 ?_⟩, ⟨ho2.mono (fun k _ hk => hk.elim (fun h => .inr (.inl h)) (fun h => .inl h)), fun k hk => ?_⟩⟩
  · have := htop.put (o + 3) mv'
    rw [put4_set (a' := h.a) (t' := h.t) (s' := h.s) (mv' := mv') H.th.fit (o + 3) mv' (.inr (.inr (.inr ⟨rfl, rfl, rfl, rfl, rfl⟩)))] at this
    exact this
  · have := own_far (p := ⟨hb, o + 3, none⟩) hown hne mv'
    simpa [markCells_append] using this
  · rintro k hk (h1 | rfl)
    · rcases hk with rfl | ⟨x, hA, hk⟩
      · exact own_apart H.th.own H.ref.top (by decide) h1
      · refine own_rows H.th.own H.ref.own (by decide) k h1 ?_
        rw [hA]; simp [Value.ownBlock, hk]
    · rcases hk with hk | ⟨x, hA, hk⟩
      · exact H.th.whole.apart H.ref.top (by decide) hk
      · refine own_apart H.ref.own H.th.whole (by decide) ?_
        rw [hA]; simp [Value.ownBlock, hk]
  · rcases hat with ha | ha
    · exact .inl (ha.trans hk)
    · rw [ha, hsz] at hk
      injection hk with hk
      exact .inr (by omega)
theorem lead_mark {l : List Pop} {i : Nat} {p : Pop} (hp : l[i]? = some p) (hm : isM p = true) (time : Int) : lead time (l.drop i) = (p.i, time) :: lead time (l.drop (i + 1)) := by
  rw [drop_at hp]; simp [lead, hm]
theorem lead_acc {l : List Pop} {i : Nat} {p : Pop} (hp : l[i]? = some p) (hm : isM p = false) (time : Int) : lead time (l.drop i) = [] := by
  rw [drop_at hp]; simp [lead, hm]
theorem lead_end {l : List Pop} {i : Nat} (hp : l.length ≤ i) (time : Int) : lead time (l.drop i) = [] := by
  rw [List.drop_eq_nil_of_le hp]; rfl

/-- What a step leaves. -/
def ThEnd (w : World) (hb o : Nat) (cs : Array Value) (mv : Value) (rb base : Nat) (A : Option Addr) (c : Nat) (l : List Pop) (N : Nx) (e : Ending) (w' : World) : Prop :=
  e = .returned (.tuple #[]) ∧ ∃ a' mv', a' ≤ l.length ∧ skip (l.drop a') = N.r ∧ ThSys w' hb o cs mv' ⟨a', N.t, N.s, N.mks⟩ rb base A c N.m ∧ ThMoved w hb mv rb A w' mv'
/-- The first loop: marks are gone over. -/
def Th1 (w : World) (hb o : Nat) (cs : Array Value) (mv : Value) (h : Th) (rb base : Nat) (A : Option Addr) (c : Nat) (m : Mm) (l : List Pop) (k : Nat) (wr : World) : Prop :=
  ∃ a, a ≤ l.length ∧ k = l.length - a ∧ skip (l.drop a) = skip (l.drop h.a) ∧ ThSys wr hb o cs mv { h with a := a } rb base A c m ∧ ThMoved w hb mv rb A wr mv
/-- Behind the access. -/
def Th2 (w : World) (hb o : Nat) (cs : Array Value) (mv : Value) (h : Th) (rb base : Nat) (A : Option Addr) (c : Nat) (m : Mm) (wx : World) : Prop :=
  ThSys wx hb o cs mv h rb base A c m ∧ ThMoved w hb mv rb A wx mv
/-- The second loop: marks are remembered. -/
def Th3 (w : World) (hb o : Nat) (cs : Array Value) (mv : Value) (t : Nat) (s : Int) (rb base : Nat) (A : Option Addr) (c : Nat) (m : Mm) (l : List Pop) (time : Int) (MK : List (Int × Int)) (SK : List Pop) (k : Nat) (wr : World) : Prop :=
  ∃ a mv' mks, a ≤ l.length ∧ k = l.length - a ∧ skip (l.drop a) = SK ∧ mks ++ lead time (l.drop a) = MK ∧ ThSys wr hb o cs mv' ⟨a, t, s, mks⟩ rb base A c m ∧ ThMoved w hb mv rb A wr mv'

theorem opsIn_moved {L : Option Addr} {lb lo : Nat} {l : List Pop} (hl : OpsIn w L lb lo l) (hm : ThMoved w hb mv rb A w' mv') (hn : 0 < l.length → ¬ Tset hb mv rb A lb) : OpsIn w' L lb lo l :=
  ⟨hl.at_, fun h => Nat.lt_of_lt_of_le (hl.lt h) hm.only.size, fun k o hk => (hl.ops k o hk).only hm.only (hn (by have := (List.getElem?_eq_some_iff.1 hk).1; omega))⟩

set_option maxHeartbeats 8000000 in
set_option maxRecDepth 100000 in
theorem th_step (time : Int) (L : Option Addr) (lc lb lo : Nat) (l : List Pop) (H : ThSys w hb o cs mv h rb base A c m) (hl : OpsIn w L lb lo l) (hlb : 0 < l.length → ¬ Tset hb mv rb A lb) (ha : h.a ≤ l.length) (hn : l.length ≤ 900)
    (hmk : h.mks.length + l.length ≤ 90000) (ht : h.t ≤ 900) (hu : m.cnt + 1 ≤ 4611686018427387904) :
    Calls Try.prog 15 #[.pointer (some ⟨hb, o, none⟩), .pointer (some ⟨rb, 0, none⟩), .slice L l.length lc, .int .i64 time] w (ThEnd w hb o cs mv rb base A c l (nxt (skip (l.drop h.a)) time h m)) := by
  have HL := Lib.hid hl
  have HLB := Lib.hid hlb
  have HH := Lib.hid H
  have HMK := Lib.hid hmk
  have HU := Lib.hid hu
  clear hl hlb H hmk hu
  generalize hnn : l.length = n at *
  have HN := Lib.hid hnn
  clear hnn
  go_enter Try.func15, Try.ntmps15
  go_wp2_with fail
  go_loopg [] (n - h.a) (fun k wr => Th1 w hb o cs mv h rb base A c m l k wr)
  case atStart => exact ⟨h.a, by rw [HN.out]; exact ha, by rw [HN.out], rfl, HH.out, ThMoved.refl ..⟩
  case round =>
    obtain ⟨a, hal, hgk, hsk, hs, hm⟩ := hrel
    rw [HN.out] at hal hgk
    have c0 := hs.th.c0
    have f0 := hs.th.f o
    have OI := Lib.hid (opsIn_moved HL.out hm (by rw [HN.out]; exact HLB.out))
    have HS := Lib.hid hs
    have HM := Lib.hid hm
    have HSK := Lib.hid hsk
    clear hs hm hsk
    simp only at c0
    by_cases hlt : a < n
    · obtain ⟨op, hop⟩ : ∃ op, l[a]? = some op := ⟨l[a]'(by rw [HN.out]; exact hlt), List.getElem?_eq_getElem _⟩
      obtain ⟨q0, q1, q2, q3, q4, k0, k1⟩ := OI.out.ops a op hop
      obtain rfl := HL.out.at_ (by rw [HN.out]; omega)
      have HO := Lib.hid hop
      clear hop
      by_cases h5 : op.kd % 6 = 5
      · have h5' : (op.kd % 6 == 5) = true := beq_iff_eq.2 h5
        have HX := Lib.hid (skip_mark HO.out (by simp [isM, h5]))
        clear h5 q1 q2 q3 q4
        go_wp2_with fail
        go_roundg (gk - 1)
        case measure => omega
        case rel =>
          refine ⟨a + 1, by rw [HN.out]; omega, by rw [HN.out]; omega, by rw [← HX.out]; exact HSK.out, ?_, HM.out.trans (ThMoved.put ..)⟩
          exact HS.out.put o _ { h with a := a + 1 } rfl (.inl ⟨rfl, by simp, rfl, rfl⟩)
      · have h5' : (op.kd % 6 == 5) = false := beq_eq_false_iff_ne.2 h5
        have HX := Lib.hid (skip_acc HO.out (by simp [isM, h5]))
        have han : ((a : Int) == (n : Int)) = false := beq_eq_false_iff_ne.2 (by omega)
        have hb1 : Below wr.heap.size wr (wr.alloc (.cells #[.int .u8 op.kd, .int .i64 op.i, .int .i64 op.v, .int .i64 op.old, .bool op.use] 53)) := (Below.refl _ _).alloc (Nat.le_refl _) _
        have S1 := Lib.hid (HS.out.still hb1)
        have M1 := Lib.hid (HM.out.trans (ThMoved.still hb1 ..))
        have BX := Lib.hid (Whole.new wr 53 #[.int .u8 op.kd, .int .i64 op.i, .int .i64 op.v, .int .i64 op.old, .bool op.use])
        have H5 := Lib.hid h5
        clear hb1 h5
        go_upto_region 4 with (fail)
        clear q0 q1 q2 q3 q4 c0 f0
        generalize wr.alloc (.cells #[.int .u8 op.kd, .int .i64 op.i, .int .i64 op.v, .int .i64 op.old, .bool op.use] 53) = W1 at *
        generalize hob : wr.heap.size = ob at *
        have HOB := Lib.hid hob
        clear hob
        have o0 : W1.cell? ⟨ob, 0, none⟩ = some (.int .u8 op.kd) := BX.out.cell 0
        have o1 : W1.cell? ⟨ob, 1, none⟩ = some (.int .i64 op.i) := BX.out.cell 1
        have o2 : W1.cell? ⟨ob, 2, none⟩ = some (.int .i64 op.v) := BX.out.cell 2
        have o3 : W1.cell? ⟨ob, 3, none⟩ = some (.int .i64 op.old) := BX.out.cell 3
        have o4 : W1.cell? ⟨ob, 4, none⟩ = some (.bool op.use) := BX.out.cell 4
        have NX : Hid (nxt (skip (l.drop h.a)) time h m = if okOf (op.kd % 6) op.i op.old m then ⟨skip (l.drop (a + 1)), h.t + 1, wrap64 (h.s + gotOf op (toldOf (op.kd % 6) op.i op.old m)), h.mks ++ lead time (l.drop (a + 1)), memOf (op.kd % 6) op.i (popV op h.s) op.old m⟩
            else ⟨op :: l.drop (a + 1), h.t, h.s, h.mks, memOf (op.kd % 6) op.i (popV op h.s) op.old m⟩) := by
          rw [Hid, ← HSK.out, HX.out]; rfl
        go_upto_if 57 with (fail)
        go_cut [12] (fun s wx => Hid (okOf (op.kd % 6) op.i op.old m = true) ∧ Th2 w hb o cs mv ⟨a, h.t, wrap64 (h.s + gotOf op (toldOf (op.kd % 6) op.i op.old m)), h.mks⟩ rb base A c (memOf (op.kd % 6) op.i (popV op h.s) op.old m) wx)
        case first =>
          by_cases h4 : op.kd % 6 = 4
          · have h4' : (op.kd % 6 == 4) = true := beq_iff_eq.2 h4
            have H4 := Lib.hid h4
            clear h4
            go_wp2_with fail
            refine (th_do 0 op.i 0 0 (by decide) (by decide) S1.out.ref HU.out).mono ?_
            have e1 : toldOf 0 op.i 0 m = toldOf 4 op.i op.old m := by simp [toldOf]
            have e2 : memOf 0 op.i 0 0 m = memOf (op.kd % 6) op.i (popV op h.s) op.old m := by rw [H4.out]; simp [memOf]
            rw [e1, e2]
            rintro e w2 ⟨rfl, hr2, ho2⟩
            obtain ⟨s2, m2⟩ := S1.out.did hr2 ho2
            have X : (errOf op.i m = 1 ∧ okOf 4 op.i op.old m = false) ∨ (errOf op.i m = 0 ∧ toldOf 4 op.i op.old m = op.old ∧ okOf 4 op.i op.old m = true) ∨ (errOf op.i m = 0 ∧ toldOf 4 op.i op.old m ≠ op.old ∧ okOf 4 op.i op.old m = false) := by
              unfold errOf toldOf okOf
              by_cases hi : inb op.i m = true
              · by_cases he : nth m.cs op.i.toNat = op.old <;> simp [hi, he]
              · simp [hi]
            have p3 : w2.cell? ⟨ob, 3, none⟩ = some (.int .i64 op.old) := (BX.out.only m2.only (not_tset S1.out BX.out (by decide) (by decide) (by decide) (by decide))).cell 3
            have c2 : w2.cell? ⟨hb, o + 2, none⟩ = some (.int .i64 h.s) := s2.th.c2
            have f2 := s2.th.f (o + 2)
            have S2 := Lib.hid s2
            have M2 := Lib.hid (M1.out.trans m2)
            have BAD : Hid (okOf 4 op.i op.old m = false → ThEnd w hb o cs mv rb base A c l (nxt (skip (l.drop h.a)) time h m) (.returned (.tuple #[])) w2) := by
              intro hb0
              have hb1 : okOf (op.kd % 6) op.i op.old m = false := by rw [H4.out]; exact hb0
              rw [NX.out, hb1]
              exact ⟨rfl, a, mv, by rw [HN.out]; omega, HX.out, S2.out, M2.out⟩
            clear s2 m2 hr2 ho2 e1 e2 o0 o1 o2 o3 o4
            have GT : Hid (okOf 4 op.i op.old m = true → toldOf 4 op.i op.old m = op.old → gotOf op (toldOf (op.kd % 6) op.i op.old m) = toldOf 4 op.i op.old m) := by
              intro _ he
              rw [H4.out, he]; simp [gotOf, H4.out]
            have OKE : Hid (okOf (op.kd % 6) op.i op.old m = okOf 4 op.i op.old m) := by rw [Hid, H4.out]
            generalize toldOf 4 op.i op.old m = x at *
            rcases X with ⟨x1, x2⟩ | ⟨x1, x2, x3⟩ | ⟨x1, x2, x3⟩
            · have XX := Lib.hid x2
              rw [x1]
              clear x1 x2
              go_wp2_with fail
              refine bodyPost_ret (results_none rfl _ _ _) rfl ?_
              exact BAD.out XX.out
            · have XX := Lib.hid x3
              have YY := Lib.hid x2
              have hne : (x != op.old) = false := by simp [x2]
              rw [x1]
              clear x1 x2 x3
              go_wp2_with fail
              go_meet
              rw [wrap_both]
              refine ⟨OKE.out.trans XX.out, ?_, M2.out.trans (ThMoved.put ..)⟩
              rw [GT.out XX.out YY.out]
              exact S2.out.put (o + 2) _ _ rfl (.inr (.inr ⟨rfl, rfl, rfl, rfl⟩))
            · have XX := Lib.hid x3
              have hne : (x != op.old) = true := bne_iff_ne.2 x2
              rw [x1]
              clear x1 x2 x3
              go_wp2_with fail
              refine bodyPost_ret (results_none rfl _ _ _) rfl ?_
              exact BAD.out XX.out
          · have h4' : (op.kd % 6 == 4) = false := beq_eq_false_iff_ne.2 h4
            have H4 := Lib.hid h4
            clear h4
            have hk6 : 0 ≤ op.kd % 6 ∧ op.kd % 6 ≤ 3 := by have := H4.out; have := H5.out; omega
            have c2 : W1.cell? ⟨hb, o + 2, none⟩ = some (.int .i64 h.s) := S1.out.th.c2
            have AC := Lib.hid (th_access (h := h) op c2)
            clear c2
            go_wp2_with fail
            refine AC.out.mono ?_
            rintro e w2 ⟨rfl, hb2⟩
            have p0 : w2.cell? ⟨ob, 0, none⟩ = some (.int .u8 op.kd) := (BX.out.below hb2 BX.out.lt).cell 0
            have hbb : ob < w2.heap.size := (BX.out.below hb2 BX.out.lt).lt
            have HB2 := Lib.hid hb2
            clear hb2 o0 o1 o2 o3 o4 AC
            go_wp2_with fail
            have hb3 : Below w2.heap.size w2 (w2.alloc (.cells #[.int .u8 (op.kd % 6), .int .i64 op.i, .int .i64 (popV op h.s), .int .i64 op.old] 81)) := (Below.refl _ _).alloc (Nat.le_refl _) _
            have s3 := (S1.out.still HB2.out).still hb3
            have M3 := Lib.hid (M1.out.trans ((ThMoved.still HB2.out hb mv rb A).trans (ThMoved.still hb3 hb mv rb A)))
            generalize w2.alloc (.cells #[.int .u8 (op.kd % 6), .int .i64 op.i, .int .i64 (popV op h.s), .int .i64 op.old] 81) = w3 at *
            refine (th_do (op.kd % 6) op.i (popV op h.s) op.old hk6.1 hk6.2 s3.ref HU.out).mono ?_
            rintro e w4 ⟨rfl, hr4, ho4⟩
            obtain ⟨s4, m4⟩ := s3.did hr4 ho4
            have S4 := Lib.hid s4
            have M4 := Lib.hid (M3.out.trans m4)
            have c2 : w4.cell? ⟨hb, o + 2, none⟩ = some (.int .i64 h.s) := s4.th.c2
            have f2 := s4.th.f (o + 2)
            have GT := Lib.hid (got_told op m k0 H4.out H5.out)
            have OK : Hid (okOf (op.kd % 6) op.i op.old m = true) := by simp [Hid, okOf, H4.out]
            clear s3 s4 m4 hr4 ho4 hb3 p0 hbb
            generalize toldOf (op.kd % 6) op.i op.old m = x at *
            go_wp2_with fail
            go_meet
            rw [wrap_both]
            refine ⟨OK.out, ?_, M4.out.trans (ThMoved.put ..)⟩
            rw [GT.out]
            exact S4.out.put (o + 2) _ _ rfl (.inr (.inr ⟨rfl, rfl, rfl, rfl⟩))
        case rest =>
          obtain ⟨OK, s5, m5⟩ := hcut
          rw [OK.out] at NX
          simp only [if_true] at NX
          clear o0 o1 o2 o3 o4
          have c0 : wc.cell? ⟨hb, o, none⟩ = some (.int .i64 a) := s5.th.c0
          have c1 : wc.cell? ⟨hb, o + 1, none⟩ = some (.int .i64 h.t) := s5.th.c1
          have f0 := s5.th.f o
          have f1 := s5.th.f (o + 1)
          have S6 := Lib.hid ((s5.put o (.int .i64 ((a + 1 : Nat) : Int)) ⟨a + 1, h.t, wrap64 (h.s + gotOf op (toldOf (op.kd % 6) op.i op.old m)), h.mks⟩ rfl (.inl ⟨rfl, rfl, rfl, rfl⟩)).put (o + 1) (.int .i64 ((h.t + 1 : Nat) : Int)) ⟨a + 1, h.t + 1, wrap64 (h.s + gotOf op (toldOf (op.kd % 6) op.i op.old m)), h.mks⟩ rfl (.inr (.inl ⟨rfl, rfl, rfl, rfl⟩)))
          have M6 := Lib.hid (m5.trans ((ThMoved.put wc hb mv rb A o (.int .i64 ((a + 1 : Nat) : Int))).trans (ThMoved.put _ hb mv rb A (o + 1) (.int .i64 ((h.t + 1 : Nat) : Int)))))
          clear s5 m5
          have EE : Hid (nxt (skip (l.drop h.a)) time h m = ⟨skip (l.drop (a + 1)), h.t + 1, wrap64 (h.s + gotOf op (toldOf (op.kd % 6) op.i op.old m)), h.mks ++ lead time (l.drop (a + 1)), memOf (op.kd % 6) op.i (popV op h.s) op.old m⟩) := NX.out
          clear NX
          generalize wrap64 (h.s + gotOf op (toldOf (op.kd % 6) op.i op.old m)) = s' at *
          generalize memOf (op.kd % 6) op.i (popV op h.s) op.old m = m' at *
          obtain ⟨i0, hi0, hz0, hz1, hz2⟩ := rmark_info'
          go_wp2_with fail
          go_loopg [] (n - (a + 1)) (fun k wx => Th3 w hb o cs mv (h.t + 1) s' rb base A c m' l time (h.mks ++ lead time (l.drop (a + 1))) (skip (l.drop (a + 1))) k wx)
          case atStart => exact ⟨a + 1, mv, h.mks, by rw [HN.out]; omega, by rw [HN.out], rfl, rfl, S6.out, M6.out⟩
          case round =>
            obtain ⟨a2, mv2, mk2, ha2, hgk2, hsk2, hmk2, hs2, hm2⟩ := hrel
            rw [HN.out] at ha2 hgk2
            have c0 : wr.cell? ⟨hb, o, none⟩ = some (.int .i64 a2) := hs2.th.c0
            have f0 := hs2.th.f o
            have OI2 := Lib.hid (opsIn_moved HL.out hm2 (by rw [HN.out]; exact HLB.out))
            have T2 := Lib.hid hs2
            have U2 := Lib.hid hm2
            have SK2 := Lib.hid hsk2
            have MK2 := Lib.hid hmk2
            clear hs2 hm2 hsk2 hmk2
            have LAST : Hid (lead time (l.drop a2) = [] → ThEnd w hb o cs mv rb base A c l (nxt (skip (l.drop h.a)) time h m) (.returned (.tuple #[])) wr) := by
              intro hle
              rw [EE.out]
              have hmm := MK2.out
              rw [hle, List.append_nil] at hmm
              refine ⟨rfl, a2, mv2, by rw [HN.out]; exact ha2, SK2.out, ?_, U2.out⟩
              rw [← hmm]
              exact T2.out
            by_cases hlt2 : a2 < n
            · obtain ⟨op2, hop2⟩ : ∃ op, l[a2]? = some op := ⟨l[a2]'(by rw [HN.out]; exact hlt2), List.getElem?_eq_getElem _⟩
              obtain ⟨r0, r1, _, _, _, j0, j1⟩ := OI2.out.ops a2 op2 hop2
              have HO2 := Lib.hid hop2
              clear hop2
              by_cases h52 : op2.kd % 6 = 5
              · have h52' : (op2.kd % 6 == 5) = true := beq_iff_eq.2 h52
                have HX2 := Lib.hid (skip_mark HO2.out (by simp [isM, h52]))
                have HY2 := Lib.hid (lead_mark HO2.out (by simp [isM, h52]) time)
                obtain ⟨B, bc, rfl⟩ := own_slice T2.out.th.own
                have hkl : mk2.length ≤ 90000 := by
                  have h1 := congrArg List.length MK2.out
                  simp only [List.length_append] at h1
                  have h2 := lead_len time (l.drop (a + 1))
                  have h3 : (l.drop (a + 1)).length ≤ n := by rw [List.length_drop, HN.out]; omega
                  have h4 := HMK.out
                  omega
                have c3 : wr.cell? ⟨hb, o + 3, none⟩ = some (.slice B mk2.length bc) := T2.out.th.c3
                have O2 := Lib.hid T2.out.drew.th.own
                clear h52 OK EE
                generalize hk2 : mk2.length = k at *
                have HK2 := Lib.hid hk2
                clear hk2
                have a0 : (wr.alloc (.cells #[.int .i64 op2.i, .int .i64 time] 84)).cell? ⟨hb, o, none⟩ = some (.int .i64 a2) := box_cell _ _ _ _ c0
                have a3 : (wr.alloc (.cells #[.int .i64 op2.i, .int .i64 time] 84)).cell? ⟨hb, o + 3, none⟩ = some (.slice B k bc) := box_cell _ _ _ _ c3
                have BC : Hid (∀ w1, (wr.drew.alloc (.cells #[.int .i64 op2.i, .int .i64 time] 84)).grownBy w1 (Value.slice B k bc).ownBlock → w1.cell? ⟨hb, o + 3, none⟩ = some (.slice B k bc) ∧ w1.frozen? ⟨hb, o + 3, none⟩ = false) := by
                  intro w1 hg
                  have hw := T2.out.drew.th.appended hg
                  refine ⟨?_, hw.frozen _⟩
                  rw [hw.cell, put4_get _ T2.out.th.fit]
                  simp
                go_upto_region 15 with (fail)
                go_region_law
                  ((refine step_append_lies _ (by rfl) _ _ _ (by rfl) 0 84 i0 _ 2 16 Try.underlying41 hi0 hz0 hz1 hz2 rfl (by omega) _ k _ (by rfl) (O2.out.alloc _)
                        ⟨wr.heap.size, 0, none⟩ 1 1 [.int .i64 op2.i, .int .i64 time] (by rfl) (by rfl) (World.news_of_block (cs := #[.int .i64 op2.i, .int .i64 time]) (t := 84) (fr := (0, 0)) (heap_alloc_new wr _)) (by simp [Value.oneCell'])
                        (by omega) (by simp only [maxLen]; omega) (by omega) (by simp) (wr.heap.size + 1) (by simp) ?_; intro gg cap w1 hown1 hgrow hat hlt'; have b2 := (BC.out _ hgrow).1; have bf := (BC.out _ hgrow).2))
                all_goals
                  obtain ⟨s3, m3⟩ := T2.out.drew.append (x := (op2.i, time)) (mv' := .slice (some ⟨gg, 0, none⟩) (k + 1) cap) hgrow (by rw [HK2.out]; exact hown1) (hat.imp id (fun h => by rw [h]; simp [Value.ownBlock]))
                  have d0 : (w1.setCell ⟨hb, o + 3, none⟩ (.slice (some ⟨gg, 0, none⟩) (k + 1) cap)).cell? ⟨hb, o, none⟩ = some (.int .i64 a2) := s3.th.c0
                  have df := s3.th.f o
                  have S3 := Lib.hid s3
                  have M3 := Lib.hid ((ThMoved.still (below_drew (Below.refl wr.heap.size wr)) hb (.slice B k bc) rb A).trans m3)
                  clear s3 m3 hgrow hown1 hat hlt' b2 bf a0 a3 c0 c3 f0 r0 r1 BC
                  generalize w1.setCell ⟨hb, o + 3, none⟩ (.slice (some ⟨gg, 0, none⟩) (k + 1) cap) = w3 at *
                  go_wp2_with fail
                  go_roundg (gk - 1)
                  case measure => omega
                  case rel =>
                    refine ⟨a2 + 1, _, mk2 ++ [(op2.i, time)], by rw [HN.out]; omega, by rw [HN.out]; omega, by rw [← HX2.out]; exact SK2.out, ?_, S3.out.put o _ ⟨a2 + 1, h.t + 1, s', mk2 ++ [(op2.i, time)]⟩ rfl (.inl ⟨rfl, by simp, rfl, rfl⟩), U2.out.trans (M3.out.trans (ThMoved.put ..))⟩
                    have hmm := MK2.out
                    rw [HY2.out] at hmm
                    rw [← hmm]
                    simp
              · have h52' : (op2.kd % 6 == 5) = false := beq_eq_false_iff_ne.2 h52
                have HY2 := Lib.hid (lead_acc HO2.out (by simp [isM, h52]) time)
                clear h52
                go_wp2_with fail
                go_end0
                exact LAST.out HY2.out
            · have HY2 := Lib.hid (lead_end (l := l) (i := a2) (by rw [HN.out]; omega) time)
              go_wp2_with fail
              go_end0
              exact LAST.out HY2.out
    · have hae : a = n := by omega
      subst hae
      have haa : ((a : Int) == (a : Int)) = true := by simp
      have E : Hid (nxt (skip (l.drop h.a)) time h m = ⟨[], h.t, h.s, h.mks, m⟩) := by
        rw [Hid, ← HSK.out, skip_end (by rw [HN.out]; exact Nat.le_refl _)]; rfl
      go_wp2_with fail
      refine bodyPost_ret (results_none rfl _ _ _) rfl ?_
      rw [E.out]
      exact ⟨rfl, a, mv, by rw [HN.out]; exact Nat.le_refl _, skip_end (by rw [HN.out]; exact Nat.le_refl _), HS.out, HM.out⟩
end
end Go.Proofs.Ytodclnfhhaiblaa
