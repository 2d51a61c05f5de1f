/-
  Layer 3: the walk of the statement on fresh accesses.
-/
import Derived.Test.YtodclnfhhaiblaaTrailFreshDo
namespace Go.Proofs.Ytodclnfhhaiblaa
open Go.ChangeShapes Go.WideShapes Go.ChangeAt Go.RowKit
set_option linter.unusedVariables false

/-- 0, 1, .. -/
def upTo : Nat → List Int
  | 0 => []
  | k + 1 => upTo k ++ [(k : Int)]
theorem upTo_len (k : Nat) : (upTo k).length = k := by
  induction k with
  | zero => rfl
  | succ k ih => simp [upTo, ih]
theorem upTo_nth (k i : Nat) (h : i < k) : nth (upTo k) i = i := by
  induction k with
  | zero => omega
  | succ k ih =>
    unfold nth at *
    rw [List.getD_eq_getElem?_getD] at *
    by_cases hi : i < k
    · rw [upTo, List.getElem?_append_left (by rw [upTo_len]; exact hi), ← List.getD_eq_getElem?_getD]
      exact ih hi
    · have : i = k := by omega
      subst this
      rw [upTo, List.getElem?_append_right (by rw [upTo_len]; exact Nat.le_refl _), upTo_len]
      simp

/-- The trail behind k steps. -/
structure FreshSt (w0 : World) (b g tb sb : Nat) (tv mv sv : Value) (T : Tr) (m : Mm) (k : Nat) (w : World) : Prop where
  st : St w b g tb tv mv T m
  seen : SeenAt w sb sv (upTo (min k 3))
  ph : T.ph = 0
  told : T.told.length = min k 3
  over : T.over = decide (3 ≤ k)
  cnt : m.cnt ≤ 3 * k
  bel : Below w0.heap.size w0 w
  new : ∀ j, Sees b g tb tv mv sb sv j → w0.heap.size ≤ j

theorem fr_steps (time : Int) (T : Tr) (m : Mm) (l : List Int) (k : Nat) (hk : k < 3) (ht : T.told.length = k) (ho : T.over = false) :
    (frun 3 ⟨began time T, m, l⟩).T.told.length = k + 1 ∧ (frun 3 ⟨began time T, m, l⟩).l = l ++ [(k : Int)] ∧ dry (frun 3 ⟨began time T, m, l⟩).T = !decide (3 ≤ k + 1) := by
  obtain ⟨told, marks, over, ph, place, tm⟩ := T
  simp only at ht ho
  subst ho
  match told, ht with
  | [], ht => simp at ht; subst ht; simp [frun, fr, began, accT, accM, okOf, fresh, dry]
  | [a], ht => simp at ht; subst ht; simp [frun, fr, began, accT, accM, okOf, fresh, dry]
  | [a, b], ht => simp at ht; subst ht; simp [frun, fr, began, accT, accM, okOf, fresh, dry]
  | a :: b :: c :: d, ht => simp at ht; omega

section
variable {w0 w w' : World} {b g tb sb : Nat} {tv mv sv : Value} {T : Tr} {m : Mm} {k : Nat}
theorem FreshSt.fine (h : FreshSt w0 b g tb sb tv mv sv T m k w) : Fine T := ⟨.inl h.ph, fun h' => absurd (h.ph.symm.trans h') (by decide), fun h' => absurd h.ph h'⟩
theorem FreshSt.still (h : FreshSt w0 b g tb sb tv mv sv T m k w) (hb : Below w.heap.size w w') : FreshSt w0 b g tb sb tv mv sv T m k w' :=
  ⟨h.st.still hb, h.seen.still hb, h.ph, h.told, h.over, h.cnt, h.bel.trans (hb.mono h.bel.size), h.new⟩

theorem fresh_step (time : Int) (h : FreshSt w0 b g tb sb tv mv sv T m k w) (hk10 : k ≤ 10) :
    Calls Try.prog 13 #[.pointer (some ⟨tb, 0, none⟩), .int .i64 time, .func (.func 24) #[.agg #[.pointer (some ⟨sb, 0, none⟩)]] #[]] w fun e w' =>
      ∃ v tv' mv' sv' T' m', e = .returned v ∧ FreshSt w0 b g tb sb tv' mv' sv' T' m' (k + 1) w' := by
  by_cases hk : k < 3
  · have hov : T.over = false := by rw [h.over]; simp; omega
    have hmin : min k 3 = k := by omega
    have htl := h.told
    rw [hmin] at htl
    obtain ⟨d1, d2, d3⟩ := fr_steps time T m (upTo (min k 3)) k hk htl hov
    have hm0 := moved_began w b g tb tv mv time
    have hrun := fresher_runs (sb := sb) (sv := sv) (w := beganAt w tb time) ⟨began time T, m, upTo (min k 3)⟩ (h.st.began time) ⟨.inr (.inl rfl), fun _ => Nat.zero_le _, fun _ => hov⟩ (h.seen.moved h.st hm0)
      (by show T.told.length ≤ 900; omega) (by show (upTo (min k 3)).length ≤ 900; rw [upTo_len]; omega) (by have := h.cnt; show m.cnt ≤ 1000000; omega)
    refine (step_runs time 24 #[.agg #[.pointer (some ⟨sb, 0, none⟩)]]
      (fun w1 T' m' tv' mv' => T' = (frun 3 ⟨began time T, m, upTo (min k 3)⟩).T ∧ m' = (frun 3 ⟨began time T, m, upTo (min k 3)⟩).m ∧ ∃ sv', SeenAt w1 sb sv' (frun 3 ⟨began time T, m, upTo (min k 3)⟩).l ∧ SeenMoved (beganAt w tb time) b g tb tv mv sb sv w1 tv' mv' sv')
      (fun _ => rfl) h.st hov h.ph (hrun.mono ?_)).mono ?_
    · rintro e w1 ⟨rfl, tv', mv', sv', s1, n1, m1⟩
      exact ⟨rfl, _, _, tv', mv', s1, frun_fine 3 _ ⟨.inr (.inl rfl), fun _ => Nat.zero_le _, fun _ => hov⟩, rfl, rfl, sv', n1, m1⟩
    · rintro e w2 ⟨w1, T', m', tv', mv', rfl, s1, f1, ⟨rfl, rfl, sv', n1, m1⟩, rfl⟩
      have me := moved_ended w1 b g tb tv' mv' (!dry (frun 3 ⟨began time T, m, upTo (min k 3)⟩).T)
      have m2 : SeenMoved w b g tb tv mv sb sv (endedAt w1 tb (!dry (frun 3 ⟨began time T, m, upTo (min k 3)⟩).T)) tv' mv' sv' := ((hm0.seen sb sv).trans m1).trans (me.seen sb sv')
      refine ⟨_, tv', mv', sv', ended (frun 3 ⟨began time T, m, upTo (min k 3)⟩).T, _, rfl, ⟨s1.ended, ?_, rfl, ?_, ?_, ?_, h.bel.trans (m2.only.below h.new h.bel.size), fun j hj => ?_⟩⟩
      · have := n1.moved s1 me
        rw [d2, hmin] at this
        rw [show min (k + 1) 3 = k + 1 from by omega]
        exact this
      · show (frun 3 ⟨began time T, m, upTo (min k 3)⟩).T.told.length = min (k + 1) 3
        omega
      · show (!dry (frun 3 ⟨began time T, m, upTo (min k 3)⟩).T) = decide (3 ≤ k + 1)
        rw [d3]; simp
      · have h1 := (frun_len 3 ⟨began time T, m, upTo (min k 3)⟩).2.1
        have h2 := h.cnt
        simp only at h1
        push_cast
        omega
      · by_cases hlt : j < w.heap.size
        · exact h.new j (m2.all hlt hj)
        · have := h.bel.size; omega
  · have hov : T.over = true := by rw [h.over]; simp; omega
    refine (step_over time _ h.st hov).mono ?_
    rintro e w' ⟨rfl, rfl⟩
    have e1 : min (k + 1) 3 = min k 3 := by omega
    exact ⟨_, tv, mv, sv, T, m, rfl, ⟨h.st, by rw [e1]; exact h.seen, h.ph, by rw [e1]; exact h.told, by rw [h.over, decide_eq_decide]; omega, by have := h.cnt; push_cast; omega, h.bel, h.new⟩⟩
end

def FreshRel (w0 : World) (b g tb sb N : Nat) (iv : Value) (wr : World) : Prop :=
  ∃ (k : Nat) (tv mv sv : Value) (T : Tr) (m : Mm), k ≤ N ∧ iv = .int .i64 k ∧ FreshSt w0 b g tb sb tv mv sv T m k wr
def SameRel (w : World) (n : Nat) (iv : Value) (wr : World) : Prop := ∃ i : Nat, i ≤ n ∧ iv = .int .i64 i ∧ w = wr

set_option maxHeartbeats 4000000 in
set_option maxRecDepth 100000 in
theorem trFresh_walk (st : Int) (w : World) (hs0 : 0 ≤ st) (hs1 : st ≤ 255) :
    Calls Try.prog 6 #[.int .u8 st] w fun e w' => e = .returned (.bool true) ∧ Below w.heap.size w w' := by
  have hnot : ∀ (x : Bool) (w : World), (Op.unary .not (.bool x)).run Try.prog w = .ok (.bool (!x)) w := fun _ _ => rfl
  obtain ⟨N, hN⟩ : ∃ N : Nat, st % 10 = N := ⟨(st % 10).toNat, by omega⟩
  have hN1 : N < 10 := by omega
  have HN := Lib.hid hN
  clear hN
  go_enter Try.func6, Try.ntmps6
  go_wp2_with fail
  refine (new_mem_ex 3 _).mono ?_
  rintro e w1 ⟨b, g, rfl, hm, hb, hg, hbel⟩
  have HM : Hid (MemAt w1 b g (Mm.mk [0, 0, 0] 0).cs (Mm.mk [0, 0, 0] 0).cnt) := hm
  have HB := Lib.hid hbel
  have hsz1 := hbel.size
  clear hm hbel
  go_wp2_with fail
  refine (new_trail_ex (m := ⟨[0, 0, 0], 0⟩) HM.out).mono ?_
  rintro e w2 ⟨tb, rfl, hs, htb, hbel⟩
  have HB2 := Lib.hid (HB.out.trans (hbel.mono HB.out.size))
  have hsz2 := hbel.size
  have HS := Lib.hid hs
  clear hs hbel HB HM
  go_upto_region 3 with (fail)
  have hb3 : Below w2.heap.size w2 (w2.alloc (.cells #[.slice none 0 0] 59)) := (Below.refl _ _).alloc (Nat.le_refl _) _
  have F0 : FreshSt w b g tb w2.heap.size (.slice none 0 0) (.slice none 0 0) (.slice none 0 0) newTr ⟨[0, 0, 0], 0⟩ 0 (w2.alloc (.cells #[.slice none 0 0] 59)) := by
    refine ⟨HS.out.still hb3, ⟨Whole.new w2 _ _, World.ownsRow_nil _ _ _ _⟩, rfl, rfl, rfl, by simp, HB2.out.trans (hb3.mono HB2.out.size), fun k hk => ?_⟩
    rcases hk with (hk | hk | hk | hk | hk) | hk | hk
    · omega
    · omega
    · omega
    · simp [Value.ownBlock] at hk
    · simp [Value.ownBlock] at hk
    · omega
    · simp [Value.ownBlock] at hk
  have HF := Lib.hid F0
  clear F0 hb3 HS HB2
  generalize w2.alloc (.cells #[.slice none 0 0] 59) = w3 at *
  generalize w2.heap.size = sb at *
  clear hb hg htb hsz1 hsz2
  go_wp2_with fail
  try rw [HN.out]
  go_loopw [6] (fun iv wr => FreshRel w b g tb sb N iv wr) (fun iv _ => N - (intOf iv).toNat)
  case atStart => exact ⟨0, _, _, _, _, _, by omega, by go_num, HF.out⟩
  case round =>
    obtain ⟨k, tv, mv, sv, T, m, hk, rfl, hF⟩ := hrel
    have F1 := Lib.hid hF
    clear hF
    by_cases hlt : k < N
    · go_wp2_with fail
      refine (fresh_step k F1.out (by omega)).mono ?_
      rintro e w4 ⟨v, tv1, mv1, sv1, T1, m1, rfl, f1⟩
      have F2 := Lib.hid f1
      clear f1
      go_wp2_with fail
      go_roundw
      case rel => exact ⟨k + 1, tv1, mv1, sv1, T1, m1, by omega, by go_num, F2.out⟩
      case measure => simp [intOf]; omega
    · have hkN : k = N := by omega
      subst hkN
      have hown := F1.out.seen.own
      obtain ⟨A, c, rfl⟩ := own_slice hown
      rw [upTo_len] at hown
      have HOW := Lib.hid hown
      have c0 : wr.cell? ⟨sb, 0, none⟩ = some (.slice A (min k 3) c) := by
        have := F1.out.seen.top.cell 0
        rw [upTo_len] at this
        exact this
      clear hown
      obtain ⟨q, hq⟩ : ∃ q, min k 3 = q := ⟨_, rfl⟩
      have HQ := Lib.hid hq
      have hq3 : q ≤ 3 := by omega
      rw [hq] at c0 HOW
      clear hq
      go_wp2_with fail
      go_loopw [7] (fun iv wx => SameRel wr q iv wx) (fun iv _ => q - (intOf iv).toNat)
      case atStart => exact ⟨0, by omega, by go_num, rfl⟩
      case round =>
        obtain ⟨i, hi, rfl, rfl⟩ := hrel
        by_cases hiq : i < q
        · obtain ⟨gg, rfl, _, _⟩ := own_form HOW.out (by omega)
          have cx : wr.cell? ⟨gg, i, none⟩ = some (.int .i64 i) := by
            have h1 : wr.ownsRow 0 3 1 (.slice (some ⟨gg, 0, none⟩) (upTo q).length c) (upTo q).length ((upTo q).map (Value.int .i64)) := by
              rw [upTo_len]; exact HOW.out
            have := own_int h1 i (by rw [upTo_len]; exact hiq)
            rw [this, upTo_nth _ _ hiq]
          have hne : ((i : Int) != (i : Int)) = false := by simp
          go_wp2_with fail
          go_roundw
          case rel => exact ⟨i + 1, by omega, by go_num, rfl⟩
          case measure => simp [intOf]; omega
        · have X2 := Lib.hid (tr_awake wr)
          go_wp2_with fail
          refine X2.out.mono ?_
          rintro e w5 ⟨rfl, hb5⟩
          have F5 := Lib.hid (F1.out.still hb5)
          have c5 : w5.cell? ⟨sb, 0, none⟩ = some (.slice A q c) := (hb5.cell (p := ⟨sb, 0, none⟩) F1.out.seen.top.lt).trans c0
          have X3 := Lib.hid (overs F5.out.st)
          rw [F5.out.over] at X3
          have X4 : Hid (Calls Try.prog 25 #[.pointer (some ⟨tb, 0, none⟩)] w5 fun e w' => e = .returned (.bool false) ∧ w5 = w') := by
            have h1 := freshs F5.out.st F5.out.fine
            have h2 : fresh T = false := by simp [fresh, F5.out.ph]
            rwa [h2] at h1
          clear hb5 c0
          have hcase : (3 < k ∧ q = 3 ∧ decide (3 ≤ k) = true ∧ decide ((3 : Int) ≤ (k : Int)) = true) ∨ (k = 3 ∧ q = 3 ∧ decide (3 ≤ k) = true ∧ decide ((3 : Int) ≤ (k : Int)) = true) ∨ (k < 3 ∧ q = k ∧ decide (3 ≤ k) = false ∧ decide ((3 : Int) ≤ (k : Int)) = false) := by
            have := HQ.out
            rcases Nat.lt_trichotomy k 3 with h | h | h
            · exact .inr (.inr ⟨h, by omega, by simp; omega, by simp; omega⟩)
            · exact .inr (.inl ⟨h, by omega, by simp; omega, by simp; omega⟩)
            · exact .inl ⟨h, by omega, by simp; omega, by simp; omega⟩
          have hee : ((k : Int) == (k : Int)) = true := by simp
          clear HQ hiq
          rcases hcase with ⟨h3, rfl, hd, hge⟩ | ⟨rfl, rfl, hd, hge⟩ | ⟨h3, rfl, hd, hge⟩
          all_goals
            rw [hd] at X3
            go_wp2_with fail
            refine X3.out.mono ?_
            rintro e w6 ⟨rfl, rfl⟩
            go_wp2_with fail
            refine X4.out.mono ?_
            rintro e w6 ⟨rfl, rfl⟩
            go_wp2_with fail
            go_ret
            exact ⟨rfl, F5.out.bel⟩
end Go.Proofs.Ytodclnfhhaiblaa
