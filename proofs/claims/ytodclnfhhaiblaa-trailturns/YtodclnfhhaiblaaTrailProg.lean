/-
  Layer 3: the run of a program of accesses, as a task.
-/
import Derived.Test.YtodclnfhhaiblaaTrailStep
import Derived.Deep.CutBlock
namespace Go.Proofs.Ytodclnfhhaiblaa
open Go.ChangeShapes Go.WideShapes Go.ChangeAt Go.RowKit
set_option linter.unusedVariables false

/-- The op at place k of a list in memory. -/
def OpIn (w : World) (lb lo k : Nat) (o : Pop) : Prop :=
  w.cell? ⟨lb, lo + k * 5, none⟩ = some (.int .u8 o.kd) ∧ w.cell? ⟨lb, lo + k * 5 + 1, none⟩ = some (.int .i64 o.i) ∧ w.cell? ⟨lb, lo + k * 5 + 2, none⟩ = some (.int .i64 o.v) ∧
    w.cell? ⟨lb, lo + k * 5 + 3, none⟩ = some (.int .i64 o.old) ∧ w.cell? ⟨lb, lo + k * 5 + 4, none⟩ = some (.bool o.use) ∧ 0 ≤ o.kd ∧ o.kd ≤ 255
/-- A list of ops in memory. -/
structure OpsIn (w : World) (A : Option Addr) (lb lo : Nat) (l : List Pop) : Prop where
  at_ : 0 < l.length → A = some ⟨lb, lo, none⟩
  lt : 0 < l.length → lb < w.heap.size
  ops : ∀ k o, l[k]? = some o → OpIn w lb lo k o

/-- The sum is laid. -/
def laid (sp : Option Addr) (s : Int) (w : World) : World := match sp with
  | none => w
  | some p => w.setCell p (.int .i64 s)

section
variable {w w' w'' : World} {b g tb : Nat} {tv mv tv' mv' : Value} {T : Tr} {m m' : Mm}

theorem OpIn.only {S : Nat → Prop} {lb lo k : Nat} {o : Pop} (h : OpIn w lb lo k o) (ho : Only S w w') (hn : ¬ S lb) : OpIn w' lb lo k o := by
  have key : ∀ j u, w.cell? ⟨lb, j, none⟩ = some u → w'.cell? ⟨lb, j, none⟩ = some u := fun j u hc => (ho.cell (p := ⟨lb, j, none⟩) (World.block_lt_of_cell? w _ hc) hn).trans hc
  exact ⟨key _ _ h.1, key _ _ h.2.1, key _ _ h.2.2.1, key _ _ h.2.2.2.1, key _ _ h.2.2.2.2.1, h.2.2.2.2.2⟩

theorem accT_len (k i old : Int) (T : Tr) (m : Mm) : (accT k i old T m).told.length ≤ T.told.length + 1 ∧ (accT k i old T m).marks = T.marks := by
  unfold accT
  repeat' split
  all_goals simp
theorem popT_len (o : Pop) (T : Tr) (m : Mm) : (popT o T m).told.length ≤ T.told.length + 1 ∧ (popT o T m).marks.length ≤ T.marks.length + 1 := by
  unfold popT
  split
  · unfold marked
    split
    · simp
    · exact ⟨by omega, by omega⟩
  · have := accT_len (o.kd % 6) o.i o.old T m
    rw [this.2]
    exact ⟨this.1, by omega⟩
theorem memOf_cnt (k i v old : Int) (m : Mm) : (memOf k i v old m).cnt ≤ m.cnt + 1 := by
  unfold memOf
  split
  · simp
  · omega
theorem popM_cnt (o : Pop) (s : Int) (T : Tr) (m : Mm) : (popM o s T m).cnt ≤ m.cnt + 1 := by
  unfold popM accM
  have := memOf_cnt (o.kd % 6) o.i (popV o s) o.old m
  repeat' split
  all_goals omega
theorem accT_fine {k i old : Int} (hf : Fine T) : Fine (accT k i old T m) := by
  have h1 := hf.ph
  have h2 := hf.place
  have h3 := hf.one
  unfold accT
  split
  · rename_i hp
    have hov := h3 (by omega)
    split
    · split
      · exact ⟨by simp, fun h => by simp at h, fun _ => hov⟩
      · exact ⟨by simp, fun h => by simp at h, fun _ => hov⟩
    · refine ⟨by simp [hp], fun _ => ?_, fun _ => hov⟩
      have := h2 hp
      simp only
      omega
  · split
    · rename_i hq
      exact ⟨by simp, fun h => by simp at h, fun _ => h3 (by omega)⟩
    · exact hf
theorem popT_fine {o : Pop} (hf : Fine T) : Fine (popT o T m) := by
  unfold popT
  split
  · unfold marked
    split
    · exact ⟨hf.ph, hf.place, hf.one⟩
    · exact hf
  · exact accT_fine hf

theorem toldOf_old {k i old m} (old' : Int) (h3 : k ≠ 3) : toldOf k i old m = toldOf k i old' m := by simp [toldOf, h3]
theorem okOf_old {k i old m} (old' : Int) (h4 : k ≠ 4) : okOf k i old m = okOf k i old' m := by simp [okOf, h4]
theorem memOf_old {k i v old m} (old' : Int) (h3 : k ≠ 3) : memOf k i v old m = memOf k i v old' m := by simp [memOf, h3]
theorem memOf_v {k i v old m} (v' : Int) (h1 : k ≠ 1) (h2 : k ≠ 2) (h3 : k ≠ 3) : memOf k i v old m = memOf k i v' old m := by simp [memOf, h1, h2, h3]
theorem accT_old {k i old : Int} (old' : Int) (h3 : k ≠ 3) (h4 : k ≠ 4) : accT k i old T m = accT k i old' T m := by unfold accT; rw [okOf_old old' h4, toldOf_old old' h3]
theorem accV_old {k i old : Int} (old' : Int) (h3 : k ≠ 3) (h4 : k ≠ 4) : accV k i old T m = accV k i old' T m := by unfold accV; rw [okOf_old old' h4, toldOf_old old' h3]
theorem accM_old {k i v old : Int} (old' : Int) (h3 : k ≠ 3) : accM k i v old T m = accM k i v old' T m := by unfold accM; rw [memOf_old old' h3]
theorem accM_v {k i v old : Int} (v' : Int) (h1 : k ≠ 1) (h2 : k ≠ 2) (h3 : k ≠ 3) : accM k i v old T m = accM k i v' old T m := by unfold accM; rw [memOf_v v' h1 h2 h3]

/-- A block of another type is as it was. -/
theorem not_all {k : Nat} {t : TypeId} {cs : Array Value} (h : St w b g tb tv mv T m) (hw : Whole w k t cs) (h1 : t ≠ 65) (h2 : t ≠ 2) (h3 : t ≠ 69) (h4 : t ≠ 86) : ¬ All b g tb tv mv k := by
  rintro (rfl | rfl | rfl | hk | hk)
  · exact hw.apart h.mem.top h1 rfl
  · exact hw.apart h.mem.row h2 rfl
  · exact hw.apart h.tr.top h3 rfl
  · exact own_apart h.tr.told hw (Ne.symm h2) hk
  · exact own_apart h.tr.marks hw (Ne.symm h4) hk
theorem keeps {k : Nat} {t : TypeId} {cs : Array Value} {v : Value} {T' : Tr} {e : Ending} (h : St w b g tb tv mv T m) (hw : Whole w k t cs) (h1 : t ≠ 65) (h2 : t ≠ 2) (h3 : t ≠ 69) (h4 : t ≠ 86) (hg : Goes w b g tb tv mv v T' m' e w') : Whole w' k t cs := by
  obtain ⟨_, tv', mv', _, hm⟩ := hg
  exact hw.only hm.only (not_all h hw h1 h2 h3 h4)

/-- The sum of a run, if it came to its end. -/
def RunEnd (w : World) (b g tb : Nat) (tv mv : Value) (sp : Option Addr) (l : List Pop) (x : Pst) (e : Ending) (w' : World) : Prop :=
  e = .returned (.tuple #[]) ∧ ∃ tv' mv' wl, St wl b g tb tv' mv' (runP l x).1.T (runP l x).1.m ∧ Fine (runP l x).1.T ∧ Moved w b g tb tv mv wl tv' mv' ∧ (if (runP l x).2 then laid sp (runP l x).1.s wl else wl) = w'

/-- The loop's relation: i ops were run. -/
structure RunSt (w : World) (b g tb pb : Nat) (tv mv : Value) (pv : Value) (sp : Option Addr) (l : List Pop) (x : Pst) (i : Nat) (y : Pst) (tv' mv' : Value) (wr : World) : Prop where
  st : St wr b g tb tv' mv' y.T y.m
  fine : Fine y.T
  run : runP l x = runP (l.drop i) y
  t : y.T.told.length ≤ x.T.told.length + i
  m : y.T.marks.length ≤ x.T.marks.length + i
  c : y.m.cnt ≤ x.m.cnt + i
  mv : Moved w b g tb tv mv wr tv' mv'
  box : Whole wr pb 40 #[pv, .pointer sp]
def RunRel (w : World) (b g tb pb : Nat) (tv mv : Value) (pv : Value) (sp : Option Addr) (l : List Pop) (x : Pst) (sv iv : Value) (wr : World) : Prop :=
  ∃ (i : Nat) (y : Pst), i ≤ l.length ∧ iv = .int .i64 i ∧ sv = .int .i64 y.s ∧ ∃ tv' mv', RunSt w b g tb pb tv mv pv sp l x i y tv' mv' wr
/-- Behind an op's access. -/
def PopRel (w : World) (b g tb : Nat) (tv mv : Value) (o : Pop) (y : Pst) (s : Value) (wx : World) : Prop :=
  s = .int .i64 (popG o y.T y.m) ∧ ∃ tv' mv', St wx b g tb tv' mv' (popT o y.T y.m) (popM o y.s y.T y.m) ∧ Moved w b g tb tv mv wx tv' mv'

section
variable {o : Pop} {y : Pst} {v : Value} {wx : World} {e : Ending}
theorem rel_load (hk : o.kd % 6 = 0) (h : Goes w b g tb tv mv v (accT 0 o.i 0 y.T y.m) (accM 0 o.i 0 0 y.T y.m) e w') : PopRel w b g tb tv mv o y (.int .i64 (accV 0 o.i 0 y.T y.m)) w' := by
  obtain ⟨_, tv', mv', h1, h2⟩ := h
  refine ⟨by simp [popG, hk, accV_old (old := o.old) 0], tv', mv', ?_, h2⟩
  have e1 : popT o y.T y.m = accT 0 o.i 0 y.T y.m := by simp [popT, hk, accT_old (old := o.old) 0]
  have e2 : popM o y.s y.T y.m = accM 0 o.i 0 0 y.T y.m := by simp [popM, hk, accM_old (old := o.old) 0, accM_v (v := popV o y.s) 0]
  rw [e1, e2]; exact h1
theorem rel_store (hk : o.kd % 6 = 1) (h : Goes w b g tb tv mv v (accT 1 o.i 0 y.T y.m) (accM 1 o.i (popV o y.s) 0 y.T y.m) e w') : PopRel w b g tb tv mv o y (.int .i64 0) w' := by
  obtain ⟨_, tv', mv', h1, h2⟩ := h
  refine ⟨by simp [popG, hk], tv', mv', ?_, h2⟩
  have e1 : popT o y.T y.m = accT 1 o.i 0 y.T y.m := by simp [popT, hk, accT_old (old := o.old) 0]
  have e2 : popM o y.s y.T y.m = accM 1 o.i (popV o y.s) 0 y.T y.m := by simp [popM, hk, accM_old (old := o.old) 0]
  rw [e1, e2]; exact h1
theorem rel_add (hk : o.kd % 6 = 2) (h : Goes w b g tb tv mv v (accT 2 o.i 0 y.T y.m) (accM 2 o.i (popV o y.s) 0 y.T y.m) e w') : PopRel w b g tb tv mv o y (.int .i64 (accV 2 o.i 0 y.T y.m)) w' := by
  obtain ⟨_, tv', mv', h1, h2⟩ := h
  refine ⟨by simp [popG, hk, accV_old (old := o.old) 0], tv', mv', ?_, h2⟩
  have e1 : popT o y.T y.m = accT 2 o.i 0 y.T y.m := by simp [popT, hk, accT_old (old := o.old) 0]
  have e2 : popM o y.s y.T y.m = accM 2 o.i (popV o y.s) 0 y.T y.m := by simp [popM, hk, accM_old (old := o.old) 0]
  rw [e1, e2]; exact h1
theorem rel_swap (hk : o.kd % 6 = 3) (h : Goes w b g tb tv mv v (accT 3 o.i o.old y.T y.m) (accM 3 o.i (popV o y.s) o.old y.T y.m) e w') : PopRel w b g tb tv mv o y (.int .i64 (if (accV 3 o.i o.old y.T y.m != 0) = true then 1 else 0)) w' := by
  obtain ⟨_, tv', mv', h1, h2⟩ := h
  refine ⟨by simp [popG, hk], tv', mv', ?_, h2⟩
  have e1 : popT o y.T y.m = accT 3 o.i o.old y.T y.m := by simp [popT, hk]
  have e2 : popM o y.s y.T y.m = accM 3 o.i (popV o y.s) o.old y.T y.m := by simp [popM, hk]
  rw [e1, e2]; exact h1
theorem rel_wait (hk : o.kd % 6 = 4) (h : Goes w b g tb tv mv v (accT 4 o.i o.old y.T y.m) (accM 4 o.i 0 o.old y.T y.m) e w') : PopRel w b g tb tv mv o y (.int .i64 o.old) w' := by
  obtain ⟨_, tv', mv', h1, h2⟩ := h
  refine ⟨by simp [popG, hk], tv', mv', ?_, h2⟩
  have e1 : popT o y.T y.m = accT 4 o.i o.old y.T y.m := by simp [popT, hk]
  have e2 : popM o y.s y.T y.m = accM 4 o.i 0 o.old y.T y.m := by simp [popM, hk, accM_v (v := popV o y.s) 0]
  rw [e1, e2]; exact h1
theorem rel_mark (hk : o.kd % 6 = 5) (h : Goes w b g tb tv mv v (marked o.i y.T) y.m e w') : PopRel w b g tb tv mv o y (.int .i64 0) w' := by
  obtain ⟨_, tv', mv', h1, h2⟩ := h
  refine ⟨by simp [popG, hk], tv', mv', ?_, h2⟩
  have e1 : popT o y.T y.m = marked o.i y.T := by simp [popT, hk]
  have e2 : popM o y.s y.T y.m = y.m := by simp [popM, hk]
  rw [e1, e2]; exact h1
end

set_option maxHeartbeats 4000000 in
set_option maxRecDepth 100000 in
theorem prog_runs (A : Option Addr) (n c lb lo : Nat) (sp : Option Addr) (l : List Pop) (x : Pst) (h : St w b g tb tv mv x.T x.m) (hf : Fine x.T) (hs0 : x.s = 0) (hn : n = l.length) (hl : OpsIn w A lb lo l)
    (hlb : 0 < l.length → ¬ All b g tb tv mv lb) (hsp : ∀ p, sp = some p → (∃ u, w.cell? p = some (.int .i64 u)) ∧ w.frozen? p = false ∧ ¬ All b g tb tv mv p.block)
    (ht : x.T.told.length + l.length ≤ 900) (hmk : x.T.marks.length + l.length ≤ 900) (hc : x.m.cnt + l.length ≤ 1000000) :
    Calls Try.prog 14 #[.agg #[.slice A n c, .pointer sp], .pointer (some ⟨tb, 0, none⟩)] w (RunEnd w b g tb tv mv sp l x) := by
  have HL := Lib.hid hl
  have HLB := Lib.hid hlb
  have HSP := Lib.hid hsp
  have hlen : l.length ≤ 900 := by omega
  have R0 : Hid (RunSt w b g tb w.heap.size tv mv (.slice A n c) sp l x 0 x tv mv (w.alloc (.cells #[.slice A n c, .pointer sp] 40))) := by
    have hb : Below w.heap.size w (w.alloc (.cells #[.slice A n c, .pointer sp] 40)) := (Below.refl _ _).alloc (Nat.le_refl _) _
    exact ⟨h.still hb, hf, rfl, by omega, by omega, by omega, Moved.still hb .., Whole.new w _ _⟩
  have HB := Lib.hid (And.intro ht (And.intro hmk hc))
  have HS0 := Lib.hid hs0
  have HN := Lib.hid hn
  clear h hf hl hlb hsp ht hmk hc hs0 hn
  go_enter Try.func14, Try.ntmps14
  go_wp2_with fail
  go_loopw [4, 5] (fun sv iv wr => RunRel w b g tb w.heap.size tv mv (.slice A n c) sp l x sv iv wr) (fun _ iv _ => l.length - (intOf iv).toNat)
  case atStart => exact ⟨0, x, by omega, by go_num, by rw [HS0.out], _, _, R0.out⟩
  case round =>
    obtain ⟨i, y, hi, rfl, rfl, tv1, mv1, hr⟩ := hrel
    have bx := hr.box.cell 0
    have bx1 := hr.box.cell 1
    have HR := Lib.hid hr
    clear hr
    by_cases hlt : i < l.length
    · obtain ⟨o, ho⟩ : ∃ o, l[i]? = some o := ⟨l[i], List.getElem?_eq_getElem hlt⟩
      obtain ⟨q0, q1, q2, q3, q4, k0, k1⟩ := (HL.out.ops i o ho).only HR.out.mv.only (HLB.out (by omega))
      obtain rfl := HL.out.at_ (by omega)
      have hin : i < n := by rw [HN.out]; exact hlt
      have HO := Lib.hid ho
      clear ho
      have hb1 : Below wr.heap.size wr (wr.alloc (.cells #[.int .u8 o.kd, .int .i64 o.i, .int .i64 o.v, .int .i64 o.old, .bool o.use] 53)) := (Below.refl _ _).alloc (Nat.le_refl _) _
      have S1 := Lib.hid (HR.out.st.still hb1)
      have M1 := Lib.hid (HR.out.mv.trans (Moved.still hb1 ..))
      have BX := Lib.hid (Whole.new wr 53 #[.int .u8 o.kd, .int .i64 o.i, .int .i64 o.v, .int .i64 o.old, .bool o.use])
      have PX := Lib.hid (HR.out.box.alloc (.cells #[.int .u8 o.kd, .int .i64 o.i, .int .i64 o.v, .int .i64 o.old, .bool o.use] 53))
      have bx' : wr.cell? ⟨w.heap.size, 0, none⟩ = some (.slice (some ⟨lb, lo, none⟩) n c) := bx
      clear bx bx1 hb1
      go_upto_region 6 with (fail)
      clear q0 q1 q2 q3 q4
      generalize wr.alloc (.cells #[.int .u8 o.kd, .int .i64 o.i, .int .i64 o.v, .int .i64 o.old, .bool o.use] 53) = W1 at *
      generalize hob : wr.heap.size = ob at *
      have HOB := Lib.hid hob
      clear hob
      have o0 : W1.cell? ⟨ob, 0, none⟩ = some (.int .u8 o.kd) := BX.out.cell 0
      have o1 : W1.cell? ⟨ob, 1, none⟩ = some (.int .i64 o.i) := BX.out.cell 1
      have o2 : W1.cell? ⟨ob, 2, none⟩ = some (.int .i64 o.v) := BX.out.cell 2
      have o3 : W1.cell? ⟨ob, 3, none⟩ = some (.int .i64 o.old) := BX.out.cell 3
      have o4 : W1.cell? ⟨ob, 4, none⟩ = some (.bool o.use) := BX.out.cell 4
      go_upto_if 24 with (fail)
      go_cut [7] (fun s wx => s = .int .i64 (popV o y.s) ∧ W1 = wx)
      case first =>
        cases hu : o.use with
        | false =>
          have E : Hid (popV o y.s = o.v) := by simp [Hid, popV, hu]
          go_wp2_with fail
          go_meet
          exact ⟨by rw [E.out], rfl⟩
        | true =>
          have E : Hid (popV o y.s = wrap64 (o.v + y.s)) := by simp [Hid, popV, hu]
          go_wp2_with fail
          go_meet
          exact ⟨by rw [E.out, wrap_both], rfl⟩
      case rest =>
      obtain ⟨rfl, rfl⟩ := hcut
      clear o2 o4
      generalize hpv : popV o y.s = pv at *
      have HPV := Lib.hid hpv
      clear hpv
      go_upto_block 2 with (fail)
      have hfin : Hid (y.T.told.length + 1 ≤ 1000 ∧ y.T.marks.length + 1 ≤ 1000 ∧ y.m.cnt + 1 ≤ 4611686018427387904) := by
        have h1 := HR.out.t; have h2 := HR.out.m; have h3 := HR.out.c; have h4 := HB.out
        exact ⟨by omega, by omega, by omega⟩
      have FI := Lib.hid HR.out.fine
      go_cut [8] (fun s wx => PopRel W1 b g tb tv1 mv1 o y s wx)
      case first =>
        have hq : o.kd % 6 = 0 ∨ o.kd % 6 = 1 ∨ o.kd % 6 = 2 ∨ o.kd % 6 = 3 ∨ o.kd % 6 = 4 ∨ o.kd % 6 = 5 := by omega
        rcases hq with hq | hq | hq | hq | hq | hq
        · have h0 : (o.kd % 6 == 0) = true := beq_iff_eq.2 hq
          have HK := Lib.hid hq
          clear hq
          go_wp2_with (go_at_call 27; refine (trLoad o.i S1.out FI.out hfin.out.1 hfin.out.2.2).mono ?_; rintro e wx hg; obtain ⟨rfl, _⟩ := id hg)
          go_meet
          exact rel_load HK.out hg
        · have h0 : (o.kd % 6 == 0) = false := beq_eq_false_iff_ne.2 (by omega)
          have h1 : (o.kd % 6 == 1) = true := beq_iff_eq.2 hq
          have HK := Lib.hid hq
          clear hq
          go_wp2_with (go_at_call 28; refine (trStore o.i pv S1.out FI.out hfin.out.1 hfin.out.2.2).mono ?_; rintro e wx hg; obtain ⟨rfl, _⟩ := id hg)
          go_meet
          rw [← HPV.out] at hg
          exact rel_store HK.out hg
        · have h0 : (o.kd % 6 == 0) = false := beq_eq_false_iff_ne.2 (by omega)
          have h1 : (o.kd % 6 == 1) = false := beq_eq_false_iff_ne.2 (by omega)
          have h2 : (o.kd % 6 == 2) = true := beq_iff_eq.2 hq
          have HK := Lib.hid hq
          clear hq
          go_wp2_with (go_at_call 29; refine (trAdd o.i pv S1.out FI.out hfin.out.1 hfin.out.2.2).mono ?_; rintro e wx hg; obtain ⟨rfl, _⟩ := id hg)
          go_meet
          rw [← HPV.out] at hg
          exact rel_add HK.out hg
        · have h0 : (o.kd % 6 == 0) = false := beq_eq_false_iff_ne.2 (by omega)
          have h1 : (o.kd % 6 == 1) = false := beq_eq_false_iff_ne.2 (by omega)
          have h2 : (o.kd % 6 == 2) = false := beq_eq_false_iff_ne.2 (by omega)
          have h3 : (o.kd % 6 == 3) = true := beq_iff_eq.2 hq
          have HK := Lib.hid hq
          clear hq
          go_wp2_with fail
          refine (trSwap o.i o.old pv S1.out FI.out hfin.out.1 hfin.out.2.2).mono ?_
          rintro e wx hg
          obtain ⟨rfl, _⟩ := id hg
          rw [← HPV.out] at hg
          have RS := Lib.hid (rel_swap HK.out hg)
          clear hg
          generalize (accV 3 o.i o.old y.T y.m != 0) = bo at *
          cases bo
          all_goals
            go_wp2_with fail
            go_meet
            exact RS.out
        · have h0 : (o.kd % 6 == 0) = false := beq_eq_false_iff_ne.2 (by omega)
          have h1 : (o.kd % 6 == 1) = false := beq_eq_false_iff_ne.2 (by omega)
          have h2 : (o.kd % 6 == 2) = false := beq_eq_false_iff_ne.2 (by omega)
          have h3 : (o.kd % 6 == 3) = false := beq_eq_false_iff_ne.2 (by omega)
          have h4 : (o.kd % 6 == 4) = true := beq_iff_eq.2 hq
          have HK := Lib.hid hq
          clear hq
          go_wp2_with (go_at_call 31; refine (trWait o.i o.old S1.out FI.out hfin.out.1 hfin.out.2.2).mono ?_; rintro e wx hg; have o3' : wx.cell? ⟨ob, 3, none⟩ = some (.int .i64 o.old) := (keeps S1.out BX.out (by decide) (by decide) (by decide) (by decide) hg).cell 3; obtain ⟨rfl, _⟩ := id hg)
          go_meet
          exact rel_wait HK.out hg
        · have h0 : (o.kd % 6 == 0) = false := beq_eq_false_iff_ne.2 (by omega)
          have h1 : (o.kd % 6 == 1) = false := beq_eq_false_iff_ne.2 (by omega)
          have h2 : (o.kd % 6 == 2) = false := beq_eq_false_iff_ne.2 (by omega)
          have h3 : (o.kd % 6 == 3) = false := beq_eq_false_iff_ne.2 (by omega)
          have h4 : (o.kd % 6 == 4) = false := beq_eq_false_iff_ne.2 (by omega)
          have HK := Lib.hid hq
          clear hq
          go_wp2_with (go_at_call 32; refine (trMark o.i S1.out FI.out hfin.out.2.1).mono ?_; rintro e wx hg; obtain ⟨rfl, _⟩ := id hg)
          go_meet
          exact rel_mark HK.out hg
      case rest =>
        obtain ⟨rfl, tv2, mv2, s2, m2⟩ := hcut
        have f2 : Fine (popT o y.T y.m) := popT_fine FI.out
        have D := Lib.hid (drys s2 f2)
        have PB := Lib.hid (PX.out.only m2.only (not_all S1.out PX.out (by decide) (by decide) (by decide) (by decide)))
        have hdrop : l.drop i = o :: l.drop (i + 1) := by
          rw [List.drop_eq_getElem_cons hlt]
          congr 1
          have := HO.out
          rw [List.getElem?_eq_getElem hlt] at this
          exact Option.some.inj this
        have RU : Hid (runP l x = if dry (popT o y.T y.m) then (pop o y, false) else runP (l.drop (i + 1)) (pop o y)) := by
          rw [Hid, HR.out.run, hdrop]; rfl
        have S2 := Lib.hid s2
        have M2 := Lib.hid (M1.out.trans m2)
        have F2 := Lib.hid f2
        clear s2 m2 f2 hdrop o0 o1 o3
        cases hd : dry (popT o y.T y.m) with
        | true =>
          rw [hd] at D RU
          go_wp2_with (go_at_call 19; refine D.out.mono ?_; rintro e w3 ⟨rfl, rfl⟩)
          refine bodyPost_ret (results_none rfl _ _ _) rfl ?_
          have ru := RU.out
          simp only [if_true] at ru
          refine ⟨rfl, tv2, mv2, _, ?_, ?_, M2.out, ?_⟩
          · rw [ru]; exact S2.out
          · rw [ru]; exact F2.out
          · rw [ru]; rfl
        | false =>
          rw [hd] at D RU
          go_wp2_with (go_at_call 19; refine D.out.mono ?_; rintro e w3 ⟨rfl, rfl⟩)
          go_roundw
          case rel =>
            have ru := RU.out
            simp only [Bool.false_eq_true, if_false] at ru
            have l1 := popT_len o y.T y.m
            have l2 := popM_cnt o y.s y.T y.m
            have h1 := HR.out.t
            have h2 := HR.out.m
            have h3 := HR.out.c
            refine ⟨i + 1, pop o y, by omega, by go_num, by rw [wrap_both]; rfl, tv2, mv2, ⟨S2.out, F2.out, ru, ?_, ?_, ?_, M2.out, PB.out⟩⟩
            · have := l1.1; simp only [pop]; omega
            · have := l1.2; simp only [pop]; omega
            · simp only [pop]; omega
          case measure => simp [intOf]; omega
    · have hil : i = l.length := by omega
      have hni : ¬ i < n := by rw [HN.out]; omega
      have RU : Hid (runP l x = (y, true)) := by
        rw [Hid, HR.out.run, hil, List.drop_eq_nil_of_le (Nat.le_refl _)]; rfl
      have bx' : wr.cell? ⟨w.heap.size, 0, none⟩ = some (.slice A n c) := bx
      have bx1' : wr.cell? ⟨w.heap.size, 1, none⟩ = some (.pointer sp) := bx1
      clear bx bx1
      have FIN : Hid (∀ w', laid sp y.s wr = w' → RunEnd w b g tb tv mv sp l x (.returned (.tuple #[])) w') := by
        intro w' hw
        refine ⟨rfl, tv1, mv1, wr, ?_, ?_, HR.out.mv, ?_⟩
        · rw [RU.out]; exact HR.out.st
        · rw [RU.out]; exact HR.out.fine
        · rw [RU.out]; exact hw
      cases sp with
      | none =>
        go_wp2_with fail
        go_end0
        exact FIN.out _ rfl
      | some p =>
        obtain ⟨⟨u, hu⟩, hz, hn⟩ := HSP.out p rfl
        obtain ⟨sb, si, sq⟩ := p
        obtain rfl : sq = none := by simpa using World.cell?_spot hu
        have cu := (HR.out.mv.only.cell (p := ⟨sb, si, none⟩) (World.block_lt_of_cell? w _ hu) hn).trans hu
        have fu := (HR.out.mv.only.frozen (p := ⟨sb, si, none⟩) (World.block_lt_of_cell? w _ hu) hn).trans hz
        clear hu hz hn
        go_wp2_with fail
        go_end0
        exact FIN.out _ rfl
end
end Go.Proofs.Ytodclnfhhaiblaa
