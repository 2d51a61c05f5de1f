/-
  Layer 3: the walk of the statement on a program alone.
-/
import Derived.Test.YtodclnfhhaiblaaTrailFew
namespace Go.Proofs.Ytodclnfhhaiblaa
open Go.ChangeShapes Go.WideShapes Go.ChangeAt Go.RowKit
set_option linter.unusedVariables false

/-- No op waits. -/
def NoWait (l : List Pop) : Prop := ∀ o ∈ l, o.kd % 6 ≠ 4

theorem replay_mem : ∀ (l : List Pop) (ts : List Int) (s : Int), ∀ o ∈ (replay l ts s).1, o ∈ l := by
  intro l
  induction l with
  | nil => intro ts s o h; cases ts <;> simp [replay] at h
  | cons a l ih =>
    intro ts s o h
    cases ts with
    | nil => rw [replay_nil] at h; exact h
    | cons t ts =>
      cases hm : isM a with
      | true => rw [replay_mark hm] at h; exact List.mem_cons_of_mem _ (ih _ _ o h)
      | false => rw [replay_acc hm] at h; exact List.mem_cons_of_mem _ (ih _ _ o h)
theorem replay_len : ∀ (l : List Pop) (ts : List Int) (s : Int), (replay l ts s).1.length ≤ l.length := by
  intro l
  induction l with
  | nil => intro ts s; cases ts <;> simp [replay]
  | cons a l ih =>
    intro ts s
    cases ts with
    | nil => rw [replay_nil]; exact Nat.le_refl _
    | cons t ts =>
      cases hm : isM a with
      | true => rw [replay_mark hm]; have := ih (t :: ts) s; simp; omega
      | false => rw [replay_acc hm]; have := ih ts (wrap64 (s + gotOf a t)); simp; omega
theorem skip_mem : ∀ (l : List Pop), ∀ o ∈ skip l, o ∈ l
  | [], o, h => by simp [skip] at h
  | a :: l, o, h => by
    cases hm : isM a with
    | true => simp only [skip, hm, if_true] at h; exact List.mem_cons_of_mem _ (skip_mem l o h)
    | false => simpa [skip, hm] using h
theorem skip_len : ∀ (l : List Pop), (skip l).length ≤ l.length
  | [] => by simp [skip]
  | a :: l => by
    cases hm : isM a with
    | true => simp only [skip, hm, if_true]; have := skip_len l; simp; omega
    | false => simp [skip, hm]
theorem lead_len (time : Int) : ∀ (l : List Pop), (lead time l).length ≤ l.length
  | [] => by simp [lead]
  | a :: l => by
    cases hm : isM a with
    | true => simp only [lead, hm, if_true]; have := lead_len time l; simp; omega
    | false => simp [lead, hm]
theorem many3_len : ∀ (l : List Pop), many3 l ≤ l.length
  | [] => by simp [many3]
  | a :: l => by have := many3_len l; simp only [many3, List.length_cons]; split <;> omega

/-- Behind k steps. -/
structure Alone (l : List Pop) (T : Tr) (m : Mm) (k : Nat) : Prop where
  told : T.told.length = k
  marks : T.marks.length ≤ k * l.length
  over : T.over = false
  cnt : m.cnt ≤ k

/-- The next access is done. -/
theorem alone_next {l : List Pop} {T : Tr} {m : Mm} {k : Nat} (hn : NoWait l) (h : Alone l T m k) (hk : k < many3 l) (time : Int) :
    (ended (stepR l time T m).1.T).told.length = k + 1 ∧ (ended (stepR l time T m).1.T).marks.length ≤ (k + 1) * l.length ∧ (ended (stepR l time T m).1.T).over = decide (k + 1 = many3 l) ∧ dry (stepR l time T m).1.T = !decide (k + 1 = many3 l) ∧ (stepR l time T m).1.m.cnt ≤ m.cnt + 1 := by
  have hl : T.told.length ≤ many3 l := by have := h.told; omega
  have hmn := replay_many l T.told 0 hl
  cases hs : skip (replay l T.told 0).1 with
  | nil =>
    have := (skip_nil _).1 hs
    have := h.told
    omega
  | cons o q =>
    have hok : okOf (o.kd % 6) o.i o.old m = true := by
      have hmem : o ∈ l := replay_mem _ _ _ _ (skip_mem _ _ (by rw [hs]; simp))
      have := hn o hmem
      simp [okOf, this]
    obtain ⟨d1, d2, d3, d4, d5, d6, d7⟩ := step_does (time := time) (m := m) hl hs hok
    have hc := (skip_cons hs).2
    have hq : decide (skip q = []) = decide (k + 1 = many3 l) := by
      rw [decide_eq_decide, skip_nil]
      have := h.told
      omega
    have hql : q.length ≤ l.length := by
      have h1 := replay_len l T.told 0
      have h2 := skip_len (replay l T.told 0).1
      rw [hs] at h2
      simp at h2
      omega
    refine ⟨?_, ?_, ?_, ?_, ?_⟩
    · rw [d1]; simp [h.told]
    · rw [d2]
      have h1 := lead_len time q
      have h2 := h.marks
      have h3 : (k + 1) * l.length = k * l.length + l.length := Nat.succ_mul _ _
      simp only [List.length_append]
      omega
    · rw [d3, hq]
    · rw [d4, hq]
    · rw [d5]; exact memOf_cnt ..
/-- No access is there at all. -/
theorem alone_none {l : List Pop} {T : Tr} {m : Mm} (h : Alone l T m 0) (hk : many3 l = 0) (time : Int) :
    (ended (stepR l time T m).1.T).told.length = 0 ∧ (ended (stepR l time T m).1.T).over = true ∧ dry (stepR l time T m).1.T = false ∧ (stepR l time T m).1.m.cnt ≤ m.cnt + 1 := by
  have hl : T.told.length ≤ many3 l := by have := h.told; omega
  have hmn := replay_many l T.told 0 hl
  have hs : skip (replay l T.told 0).1 = [] := (skip_nil _).2 (by omega)
  obtain ⟨d1, d2, d3, d4, d5, d6, d7⟩ := step_none (time := time) (m := m) hl hs
  exact ⟨by rw [d1]; exact h.told, d3, d4, by rw [d5]; omega⟩

theorem OpsIn.still {w w' : World} {A : Option Addr} {lb lo : Nat} {l : List Pop} (h : OpsIn w A lb lo l) (hb : Below w.heap.size w w') : OpsIn w' A lb lo l :=
  ⟨h.at_, fun h' => Nat.lt_of_lt_of_le (h.lt h') hb.size, fun k o hk => (h.ops k o hk).only (Only.of_below hb (fun _ => False)) id⟩

theorem alone_many (A : Option Addr) (c n : Nat) (w : World) (hn : 25 < n) :
    Calls Try.prog 4 #[.slice A n c] w fun e w' => e = .returned (.bool true) ∧ Below w.heap.size w w' := by
  have hnot : ∀ (x : Bool) (w : World), (Op.unary .not (.bool x)).run Try.prog w = .ok (.bool (!x)) w := fun _ _ => rfl
  go_enter Try.func4, Try.ntmps4
  go_wp2_with fail
  refine (tr_awake _).mono ?_
  rintro e w1 ⟨rfl, hb1⟩
  go_wp2_with fail
  have hx : few3 [n] 1 = false := by simp [few3]; omega
  refine (few_any (some ⟨w1.heap.size, 0, none⟩) w1.heap.size 0 1 [n] 1 _ (by decide) ⟨fun _ => rfl, fun k m hk => ?_⟩).mono ?_
  · match k, hk with
    | 0, hk =>
      simp at hk
      subst hk
      exact ⟨A, c, by simp⟩
  rw [hx]
  rintro e w2 ⟨rfl, rfl⟩
  go_wp2_with fail
  refine (tr_awake _).mono ?_
  rintro e w3 ⟨rfl, hb3⟩
  go_wp2_with fail
  go_ret
  have h2 : Below w.heap.size w (w1.alloc (.cells #[.slice A n c] 37)) := hb1.alloc hb1.size _
  exact ⟨rfl, h2.trans (hb3.mono h2.size)⟩

/-- The first loop's relation. -/
def CountRel (l : List Pop) (w : World) (nv iv : Value) (wr : World) : Prop :=
  ∃ i : Nat, i ≤ l.length ∧ iv = .int .i64 i ∧ nv = .int .i64 (many3 (l.take i)) ∧ NoWait (l.take i) ∧ w = wr
/-- The second one's. -/
def AloneRel (w0 : World) (b g tb pb : Nat) (A : Option Addr) (n c lb lo : Nat) (l : List Pop) (iv : Value) (wr : World) : Prop :=
  ∃ (k : Nat) (tv mv : Value) (T : Tr) (m : Mm), (k + 1 ≤ many3 l ∨ k = 0) ∧ iv = .int .i64 ((k : Int) + 1) ∧ One w0 b g tb pb A n c lb lo l tv mv T m wr ∧ Alone l T m k

theorem many3_take {l : List Pop} {i : Nat} {o : Pop} (h : l[i]? = some o) : many3 (l.take (i + 1)) = many3 (l.take i) + (if isM o then 0 else 1) := by
  have hlt := (List.getElem?_eq_some_iff.1 h).1
  have he := (List.getElem?_eq_some_iff.1 h).2
  rw [List.take_succ_eq_append_getElem hlt, he]
  generalize l.take i = q
  induction q with
  | nil => simp [many3]
  | cons a q ih => simp only [List.cons_append, many3, ih]; omega
theorem noWait_take {l : List Pop} {i : Nat} {o : Pop} (h : l[i]? = some o) (hn : NoWait (l.take i)) (ho : o.kd % 6 ≠ 4) : NoWait (l.take (i + 1)) := by
  have hlt := (List.getElem?_eq_some_iff.1 h).1
  have he := (List.getElem?_eq_some_iff.1 h).2
  intro x hx
  rw [List.take_succ_eq_append_getElem hlt, he] at hx
  rcases List.mem_append.1 hx with hx | hx
  · exact hn x hx
  · rw [List.mem_singleton.1 hx]; exact ho

set_option maxHeartbeats 8000000 in
set_option maxRecDepth 100000 in
theorem alone_few (A : Option Addr) (c lb lo : Nat) (l : List Pop) (w : World) (hl : OpsIn w A lb lo l) (hn : l.length ≤ 25) :
    Calls Try.prog 4 #[.slice A l.length c] w fun e w' => e = .returned (.bool true) ∧ Below w.heap.size w w' := by
  have hnot : ∀ (x : Bool) (w : World), (Op.unary .not (.bool x)).run Try.prog w = .ok (.bool (!x)) w := fun _ _ => rfl
  have HL := Lib.hid hl
  clear hl
  have hx : Hid (few3 [l.length] 1 = true) := by simp [Hid, few3]; omega
  have HLN : Hid (l.length = l.length) := rfl
  generalize hnn : l.length = n at *
  have HN := Lib.hid hnn
  clear hnn HLN
  go_enter Try.func4, Try.ntmps4
  go_wp2_with fail
  refine (tr_awake _).mono ?_
  rintro e w1 ⟨rfl, hb1⟩
  have HB1 := Lib.hid hb1
  clear hb1
  go_wp2_with fail
  refine (few_any (some ⟨w1.heap.size, 0, none⟩) w1.heap.size 0 1 [n] 1 _ (by decide) ⟨fun _ => rfl, fun k m hk => ?_⟩).mono ?_
  · match k, hk with
    | 0, hk =>
      simp at hk
      subst hk
      exact ⟨A, c, by simp⟩
  rw [hx.out]
  rintro e w2 ⟨rfl, rfl⟩
  have HB2 : Hid (Below w.heap.size w (w1.alloc (.cells #[.slice A n c] 37))) := HB1.out.alloc HB1.out.size _
  generalize w1.alloc (.cells #[.slice A n c] 37) = w2 at *
  have HL2 : Hid (OpsIn w2 A lb lo l) := ⟨HL.out.at_, fun h => Nat.lt_of_lt_of_le (HL.out.lt h) HB2.out.size, fun k o hk => by
    have hlt : lb < w.heap.size := HL.out.lt (by have := (List.getElem?_eq_some_iff.1 hk).1; omega)
    have key : ∀ j u, w.cell? ⟨lb, j, none⟩ = some u → w2.cell? ⟨lb, j, none⟩ = some u := fun j u hc => (HB2.out.cell (p := ⟨lb, j, none⟩) hlt).trans hc
    have h := HL.out.ops k o hk
    exact ⟨key _ _ h.1, key _ _ h.2.1, key _ _ h.2.2.1, key _ _ h.2.2.2.1, key _ _ h.2.2.2.2.1, h.2.2.2.2.2⟩⟩
  clear HB1
  go_wp2_with fail
  go_loopw [3, 4] (fun nv iv wr => CountRel l w2 nv iv wr) (fun _ iv _ => n - (intOf iv).toNat)
  case atStart => exact ⟨0, by omega, by go_num, by rfl, (fun o ho => by simp at ho), rfl⟩
  case round =>
    obtain ⟨i, hi, rfl, rfl, hnw, rfl⟩ := hrel
    have HW := Lib.hid hnw
    clear hnw
    rw [HN.out] at hi
    by_cases hlt : i < n
    · obtain ⟨o, ho⟩ : ∃ o, l[i]? = some o := ⟨l[i]'(by rw [HN.out]; exact hlt), List.getElem?_eq_getElem _⟩
      have hop := HL2.out.ops i o ho
      have q0 := hop.1
      have k0 := hop.2.2.2.2.2.1
      have k1 := hop.2.2.2.2.2.2
      obtain rfl := HL.out.at_ (by rw [HN.out]; omega)
      have HT := Lib.hid (many3_take ho)
      have HO := Lib.hid ho
      have hmi : many3 (l.take i) ≤ 25 := by
        have h1 := many3_len (l.take i)
        have h2 : (l.take i).length ≤ i := by simp; omega
        omega
      clear hop ho
      generalize many3 (l.take i) = ki at *
      by_cases h4 : o.kd % 6 = 4
      · have h4' : (o.kd % 6 == 4) = true := beq_iff_eq.2 h4
        go_wp2_with fail
        go_ret
        exact ⟨rfl, HB2.out⟩
      · have h4' : (o.kd % 6 == 4) = false := beq_eq_false_iff_ne.2 h4
        have HNW := Lib.hid (noWait_take HO.out HW.out h4)
        by_cases h5 : o.kd % 6 = 5
        · have h5' : (o.kd % 6 != 5) = false := by simp [h5]
          have HM : Hid (many3 (l.take (i + 1)) = ki) := by rw [Hid, HT.out]; simp [isM, h5]
          clear h4 h5
          go_wp2_with fail
          go_roundw
          case rel => exact ⟨i + 1, by rw [HN.out]; omega, by go_num, by rw [HM.out], HNW.out, rfl⟩
          case measure => simp [intOf]; omega
        · have h5' : (o.kd % 6 != 5) = true := bne_iff_ne.2 h5
          have HM : Hid (many3 (l.take (i + 1)) = ki + 1) := by rw [Hid, HT.out]; simp [isM, h5]
          clear h4 h5
          go_wp2_with fail
          go_roundw
          case rel => exact ⟨i + 1, by rw [HN.out]; omega, by go_num, by rw [HM.out]; go_num, HNW.out, rfl⟩
          case measure => simp [intOf]; omega
    · have hin : i = n := by omega
      subst hin
      have htake : l.take i = l := List.take_of_length_le (by rw [HN.out]; exact Nat.le_refl _)
      rw [htake] at HW
      rw [htake]
      have hmc : many3 l ≤ 25 := by
        have h1 := many3_len l
        rw [HN.out] at h1
        omega
      generalize hcn : many3 l = cn at *
      have HCN := Lib.hid hcn
      clear hcn htake
      go_wp2_with fail
      refine (new_mem_ex 9 _).mono ?_
      rintro e w3 ⟨b, g, rfl, hm, hb, hg, hbel⟩
      have HM : Hid (MemAt w3 b g (Mm.mk (List.replicate 9 0) 0).cs (Mm.mk (List.replicate 9 0) 0).cnt) := hm
      have HB3 := Lib.hid (HB2.out.trans (hbel.mono HB2.out.size))
      have hsz2 := HB2.out.size
      have hsz3 := hbel.size
      have HL3 := Lib.hid (HL2.out.still hbel)
      clear hm hbel
      go_wp2_with fail
      refine (new_trail_ex (m := ⟨List.replicate 9 0, 0⟩) HM.out).mono ?_
      rintro e w4 ⟨tb, rfl, hs, htb, hbel⟩
      have HB4 := Lib.hid (HB3.out.trans (hbel.mono HB3.out.size))
      have hsz4 := hbel.size
      have HL4 := Lib.hid (HL3.out.still hbel)
      have HS := Lib.hid hs
      clear hs hbel HB3 HM HL3
      go_upto_region 14 with (fail)
      have hb5 : Below w4.heap.size w4 (w4.alloc (.cells #[.slice A i c, .pointer none] 40)) := (Below.refl _ _).alloc (Nat.le_refl _) _
      have hnew : ∀ k, All b g tb (.slice none 0 0) (.slice none 0 0) k → w.heap.size ≤ k := by
        intro k hk
        rcases hk with hk | hk | hk | hk | hk
        · omega
        · omega
        · omega
        · simp [Value.ownBlock] at hk
        · simp [Value.ownBlock] at hk
      have O : One w b g tb w4.heap.size A i c lb lo l (.slice none 0 0) (.slice none 0 0) newTr ⟨List.replicate 9 0, 0⟩ (w4.alloc (.cells #[.slice A i c, .pointer none] 40)) := by
        refine ⟨HS.out.still hb5, rfl, HN.out.symm, Whole.new w4 _ _, HL4.out.still hb5, fun h0 ha => ?_, HB4.out.trans (hb5.mono HB4.out.size), hnew⟩
        have h1 := hnew lb ha
        have h2 := HL.out.lt h0
        omega
      have HO := Lib.hid O
      clear O hb5 HS HB4 hnew HL4
      generalize w4.alloc (.cells #[.slice A i c, .pointer none] 40) = w5 at *
      generalize w4.heap.size = pb at *
      clear hb hg htb hsz2 hsz3 hsz4
      go_wp2_with fail
      go_loopw [8] (fun iv wr => AloneRel w b g tb pb A i c lb lo l iv wr) (fun iv _ => cn - (intOf iv).toNat)
      case atStart => exact ⟨0, _, _, _, _, .inr rfl, by go_num, HO.out, ⟨rfl, by simp [newTr], rfl, by simp⟩⟩
      case round =>
        obtain ⟨k, tv, mv, T, m, hk, rfl, hO, hW⟩ := hrel
        rw [HCN.out] at hk
        have O1 := Lib.hid hO
        have W1 := Lib.hid hW
        have bx : wr.cell? ⟨pb, 0, none⟩ = some (.slice A i c) := hO.box.cell 0
        have bx1 : wr.cell? ⟨pb, 1, none⟩ = some (.pointer none) := hO.box.cell 1
        have hk25 : k ≤ 25 := by omega
        have R : Hid (T.told.length + l.length ≤ 900 ∧ T.marks.length + l.length ≤ 900 ∧ m.cnt + l.length ≤ 1000000) := by
          have h1 := hW.told; have h2 := hW.marks; have h3 := hW.cnt; have h4 := HN.out
          have h5 : k * l.length ≤ 25 * 25 := Nat.mul_le_mul hk25 (by omega)
          exact ⟨by omega, by omega, by omega⟩
        clear hO hW
        by_cases hlt : k + 1 < cn
        · obtain ⟨d1, d2, d3, d4, d5⟩ := alone_next HW.out W1.out (by rw [HCN.out]; omega) ((k : Int) + 1)
          have hne : decide (k + 1 = many3 l) = false := by rw [HCN.out]; simp; omega
          rw [hne] at d3 d4
          go_wp2_with fail
          refine (one_step ((k : Int) + 1) O1.out W1.out.over R.out.1 R.out.2.1 R.out.2.2).mono ?_
          rw [d4]
          rintro e w6 ⟨rfl, tv6, mv6, o6⟩
          have W6 : Hid (Alone l (ended (stepR l ((k : Int) + 1) T m).1.T) (stepR l ((k : Int) + 1) T m).1.m (k + 1)) := ⟨d1, d2, d3, by have := W1.out.cnt; omega⟩
          have O6 := Lib.hid o6
          have X1 := Lib.hid (steps o6.st)
          rw [d1] at X1
          have X2 := Lib.hid (overs o6.st)
          rw [d3] at X2
          have X3 : Hid (Calls Try.prog 19 #[.pointer (some ⟨tb, 0, none⟩)] w6 fun e w' => e = .returned (.bool true) ∧ w6 = w') := by
            have h1 := drys o6.st o6.fine
            have h2 : dry (ended (stepR l ((k : Int) + 1) T m).1.T) = true := by
              simp only [dry, o6.ph, d3]
              decide
            rwa [h2] at h1
          clear d1 d2 d3 d4 d5 o6 bx bx1 hne
          generalize ended (stepR l ((k : Int) + 1) T m).1.T = T6 at *
          generalize (stepR l ((k : Int) + 1) T m).1.m = m6 at *
          have hci : (((k + 1 : Nat) : Int) != (k : Int) + 1) = false := by simp
          have hci' : ((k : Int) + 1 != (k : Int) + 1) = false := by simp
          go_wp2_with fail
          refine X1.out.mono ?_
          rintro e w7 ⟨rfl, rfl⟩
          go_wp2_with fail
          refine X2.out.mono ?_
          rintro e w7 ⟨rfl, rfl⟩
          go_wp2_with fail
          refine X3.out.mono ?_
          rintro e w7 ⟨rfl, rfl⟩
          go_wp2_with fail
          go_roundw
          case rel => exact ⟨k + 1, tv6, mv6, T6, m6, .inl (by rw [HCN.out]; omega), by go_num, O6.out, W6.out⟩
          case measure => simp [intOf]; omega
        · have key : (ended (stepR l (cn : Int) T m).1.T).told.length = cn ∧ (ended (stepR l (cn : Int) T m).1.T).over = true ∧ dry (stepR l (cn : Int) T m).1.T = false ∧ (stepR l (cn : Int) T m).1.m.cnt ≤ m.cnt + 1 := by
            by_cases hc0 : cn = 0
            · have hk0 : k = 0 := by omega
              subst hk0
              have := alone_none W1.out (by rw [HCN.out]; exact hc0) (cn : Int)
              exact ⟨by rw [this.1, hc0], this.2.1, this.2.2.1, this.2.2.2⟩
            · have hkc : k + 1 = cn := by omega
              obtain ⟨d1, d2, d3, d4, d5⟩ := alone_next HW.out W1.out (by rw [HCN.out]; omega) (cn : Int)
              have hne : decide (k + 1 = many3 l) = true := by rw [HCN.out]; simp; omega
              rw [hne] at d3 d4
              exact ⟨by omega, d3, d4, d5⟩
          obtain ⟨d1, d2, d3, d4⟩ := key
          have CT := Lib.hid (count_any _ _ _ O1.out.st.mem.c1)
          have hkm : m.cnt ≤ 25 := by have := W1.out.cnt; omega
          have ONE := Lib.hid (one_step (cn : Int) O1.out W1.out.over R.out.1 R.out.2.1 R.out.2.2)
          rw [d3] at ONE
          have D1 := Lib.hid d1
          have D2 := Lib.hid d2
          have D4 := Lib.hid d4
          clear d1 d2 d3 d4
          generalize ended (stepR l (cn : Int) T m).1.T = T6 at *
          generalize (stepR l (cn : Int) T m).1.m = m6 at *
          go_wp2_with fail
          refine CT.out.mono ?_
          rintro e w6 ⟨rfl, rfl⟩
          go_wp2_with fail
          refine ONE.out.mono ?_
          rintro e w6 ⟨rfl, tv6, mv6, o6⟩
          have O6 := Lib.hid o6
          have X1 := Lib.hid (steps o6.st)
          rw [D1.out] at X1
          have X2 := Lib.hid (overs o6.st)
          rw [D2.out] at X2
          have X3 := fun t v => Lib.hid (step_over t v o6.st D2.out)
          have X4 := Lib.hid (count_any _ _ _ o6.st.mem.c1)
          have by0 : w6.cell? ⟨pb, 0, none⟩ = some (.slice A i c) := o6.box.cell 0
          have by1 : w6.cell? ⟨pb, 1, none⟩ = some (.pointer none) := o6.box.cell 1
          clear o6 bx bx1 CT ONE
          have hcc : ((cn : Int) == (cn : Int)) = true := by simp
          have hle : decide (m6.cnt ≤ m.cnt + 1) = true := by simpa using D4.out
          have hlm := O1.out.st.mem.lo
          go_wp2_with fail
          refine X1.out.mono ?_
          rintro e w7 ⟨rfl, rfl⟩
          go_wp2_with fail
          refine X2.out.mono ?_
          rintro e w7 ⟨rfl, rfl⟩
          go_wp2_with fail
          refine (X3 _ _).out.mono ?_
          rintro e w7 ⟨rfl, rfl⟩
          go_wp2_with fail
          refine X1.out.mono ?_
          rintro e w7 ⟨rfl, rfl⟩
          go_wp2_with fail
          refine X4.out.mono ?_
          rintro e w7 ⟨rfl, rfl⟩
          go_wp2_with fail
          go_ret
          exact ⟨rfl, O6.out.bel⟩
end Go.Proofs.Ytodclnfhhaiblaa
