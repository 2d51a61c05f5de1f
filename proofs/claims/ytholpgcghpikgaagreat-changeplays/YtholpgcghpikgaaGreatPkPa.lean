/-
  Texts of our own, one behind the other (ProtFind, ProtCover): what the laws' proofs rest on; each says at its head what it holds. No conditions.
-/
import Derived.Test.YtholpgcghpikgaaGreatPkM
import Derived.Deep.LoopGhost
import Derived.BigQuiet
/-
  Layer 11: the area that has an address, of a right list; whether a range is covered: a contract for each call.
-/
namespace Go.Proofs.YtholpgcghpikgaaGreat
open Go.ChangeShapes Go.WideShapes Go.ChangeAt Go.RowKit Go.Shelf
set_option linter.unusedVariables false

/-- The first area that has an address. -/
def findL (x : Int) (l : List Ar) : Option Ar := l.find? (fun a => decide (HasA a x))
theorem find_at {x : Int} {l : List Ar} {k : Nat} (hk : k < l.length) (h : ∀ a ∈ l.take k, ¬ HasA a x) (hx : HasA l[k] x) : findL x l = some l[k] := by
  have h1 : (l.take k).find? (fun a => decide (HasA a x)) = none := List.find?_eq_none.2 (fun a ha => by simpa using h a ha)
  have h2 : (l.drop k).find? (fun a => decide (HasA a x)) = some l[k] := by
    rw [List.drop_eq_getElem_cons hk, List.find?_cons_of_pos (by simpa using hx)]
  have h3 : findL x (l.take k ++ l.drop k) = some l[k] := by
    unfold findL
    rw [List.find?_append, h1, h2]; rfl
  rwa [List.take_append_drop] at h3
theorem find_none {x : Int} {l : List Ar} (h : ∀ a ∈ l, ¬ HasA a x) : findL x l = none := List.find?_eq_none.2 (fun a ha => by simpa using h a ha)
theorem find_is {x : Int} {l : List Ar} {a : Ar} (h : findL x l = some a) : a ∈ l ∧ HasA a x := ⟨List.mem_of_find?_eq_some h, by simpa using List.find?_some h⟩
theorem find_no' {x : Int} {l : List Ar} (h : findL x l = none) : ∀ a ∈ l, ¬ HasA a x := fun a ha => by simpa using List.find?_eq_none.1 h a ha

set_option maxHeartbeats 1000000 in
theorem hasFn_any (a : Ar) (q : Nat) (x : Int) (w : World) (hq : Whole w q 2 #[.int .i64 x]) : Calls Tryz.prog 91 #[a.v, .pointer (some ⟨q, 0, none⟩)] w fun e w' =>
    e = .returned (.bool (decide (HasA a x))) ∧ Below w.heap.size w w' := by
  have X := Lib.hid (has_any a x)
  have B0 := Lib.hid (below_new w (.cells a.cells 52))
  have A0 := Lib.hid (ArIn.new w a)
  have c0 : (w.alloc (.cells a.cells 52)).cell? ⟨q, 0, none⟩ = some (.int .i64 x) := (hq.alloc _).cell 0
  generalize decide (HasA a x) = r at *
  obtain ⟨s, t, p, sh, bk, off⟩ := a
  unfold Ar.v Ar.cells at *
  simp only at X B0 c0 ⊢
  clear hq
  go_enter Tryz.func91, Tryz.ntmps91
  go_wp2_with fail
  refine (X.out _).mono ?_
  rintro e w1 ⟨rfl, hb⟩
  have B1 := Lib.hid (below_then B0.out hb (Nat.le_refl _))
  clear hb
  go_wp2_with fail
  go_ret
  exact ⟨rfl, B1.out⟩

set_option maxRecDepth 100000 in
set_option maxHeartbeats 2000000 in
theorem indexHas_any (q : Nat) (x : Int) (A : Option Addr) (l : List Ar) (cap : Nat) (hl : l.length ≤ 100000) (w : World) (hq : Whole w q 2 #[.int .i64 x]) (hA : Areas w.heap.size w A l) :
    Calls Tryz.prog 57 #[.slice A l.length cap, .func (.func 91) #[] #[.pointer (some ⟨q, 0, none⟩)]] w fun e w' =>
    ((e = .returned (.int .i64 (-1)) ∧ findL x l = none) ∨ (∃ (k : Nat) (a : Ar), e = .returned (.int .i64 k) ∧ l[k]? = some a ∧ findL x l = some a)) ∧ Below w.heap.size w w' := by
  have eg : ∀ args w, (callFunc 91 args).run Tryz.prog w = .ok (.enter 91 args) w := enters_of Tryz.func91 (by kernel_rfl) rfl
  have X := Lib.hid (fun a W h => hasFn_any a q x W h)
  generalize hL : l.length = len at *
  have HL := Lib.hid hL
  have HA := Lib.hid hA
  have HQ := Lib.hid hq
  clear hL hA hq
  go_enter Tryz.func57, Tryz.ntmps57
  go_wp2_with fail
  go_loopg [5, 8] len (fun g _ s8 wr => ∃ k : Nat, k ≤ len ∧ len - k ≤ g ∧ s8 = .int .i64 k ∧ Hid (∀ a ∈ l.take k, ¬ HasA a x) ∧ Hid (Below w.heap.size w wr))
  case atStart => exact ⟨0, Nat.zero_le _, by omega, rfl, Lib.hid (by simp), Lib.hid (Below.refl _ _)⟩
  case round =>
    obtain ⟨k, hk, hg, rfl, HF, HI⟩ := hrel
    by_cases hlt : k < len
    · have hltz : (k : Int) < (len : Int) := by omega
      rcases HA.out with hn | ⟨b, off, rfl, hb, hcs⟩
      · have := HL.out; rw [hn] at this; simp at this; omega
      have hlk : k < l.length := by rw [HL.out]; exact hlt
      have HC : Hid (AreaAt wr b (off + k * 6) l[k]) := Lib.hid ((hcs k hlk).below HI.out hb)
      have HT : Hid (l.take (k + 1) = l.take k ++ [l[k]]) := Lib.hid (by rw [List.take_succ_eq_append_getElem hlk])
      have HN := Lib.hid (fun h1 h2 => find_at (x := x) (l := l) hlk h1 h2)
      have HS : Hid (l[k]? = some l[k]) := Lib.hid (List.getElem?_eq_getElem hlk)
      have Y := Lib.hid (X.out l[k] wr (HQ.out.below HI.out HQ.out.lt))
      generalize l[k] = y at *
      obtain ⟨c0, c1, c2, c3, c4, c5⟩ := HC.out
      clear hcs HC
      obtain ⟨x0, x1, x2, x3, x4, x5⟩ := y
      simp only [Ar.v] at c0 c1 c2 c3 c4 c5 Y
      go_wp2_with fail
      refine Y.out.mono ?_
      rintro e w1 ⟨rfl, hb1⟩
      have B1 := Lib.hid (below_then HI.out hb1 (Nat.le_refl _))
      clear hb1 c0 c1 c2 c3 c4 c5 Y
      by_cases hok : HasA ⟨x0, x1, x2, x3, x4, x5⟩ x
      · rw [decide_eq_true hok]
        have HO := Lib.hid hok
        clear hok
        go_wp2_with fail
        go_ret
        exact ⟨.inr ⟨k, _, rfl, HS.out, HN.out HF.out HO.out⟩, B1.out⟩
      · rw [decide_eq_false hok]
        have HO := Lib.hid hok
        clear hok
        go_wp2_with fail
        go_roundg (len - (k + 1))
        case measure => omega
        case rel =>
          refine ⟨k + 1, by omega, by omega, by go_num, Lib.hid ?_, B1⟩
          intro a ha
          rw [HT.out] at ha
          rcases List.mem_append.1 ha with ha | ha
          · exact HF.out a ha
          · obtain rfl := List.mem_singleton.1 ha; exact HO.out
    · obtain rfl : k = len := by omega
      have HF2 : Hid (findL x l = none) := Lib.hid (find_none (by have := HF.out; rwa [← HL.out, List.take_length] at this))
      go_wp2_with fail
      go_ret
      exact ⟨.inl ⟨rfl, HF2.out⟩, HI.out⟩

/-- What is found. -/
def foundV (o : Option Ar) : Value := .tuple #[(o.getD Ar.nil).v, .bool o.isSome]
set_option maxRecDepth 4000 in
set_option maxHeartbeats 2000000 in
theorem find_any (A : Option Addr) (l : List Ar) (cap : Nat) (x : Int) (hr : RightL l) (w : World) (hA : Areas w.heap.size w A l) :
    Calls Tryz.prog 49 #[.slice A l.length cap, .int .i64 x] w fun e w' => e = .returned (foundV (findL x l)) ∧ Below w.heap.size w w' := by
  have hl := right_len hr
  have X := Lib.hid (fun w1 h => right_any A l cap (by omega) w1 h)
  rw [decide_eq_true hr] at X
  have Y := Lib.hid (fun w1 hq h => indexHas_any w.heap.size x A l cap (by omega) w1 hq h)
  have HA := Lib.hid hA
  have G0 := Lib.hid (((Bag.new w).add 2 #[.int .i64 x]).add 52 Ar.nil.cells)
  rw [World.size_alloc] at G0
  have HL : Hid (∀ k : Nat, ∀ a, l[k]? = some a → k < l.length) := Lib.hid (fun k a h => (List.getElem?_eq_some_iff.1 h).1)
  have HS := Lib.hid (fun (h : l = []) k => (show l[k]? = none from by rw [h]; exact List.getElem?_nil))
  clear hr hA
  generalize findL x l = o at *
  generalize l.length = n at *
  go_enter Tryz.func49, Tryz.ntmps49
  go_wp2_with fail
  refine (X.out _ ((HA.out.below G0.out.bel).mono G0.out.bel.size)).mono ?_
  rintro e w1 ⟨rfl, hb1⟩
  have G1 := Lib.hid (G0.out.still hb1)
  clear hb1 G0 X
  go_wp2_with fail
  refine (Y.out _ G1.out.v1 ((HA.out.below G1.out.bel).mono G1.out.bel.size)).mono ?_
  rintro e w2 ⟨⟨rfl, ho⟩ | ⟨k, a, rfl, hk, ho⟩, hb2⟩
  · have G2 := Lib.hid (G1.out.still hb2)
    subst ho
    clear hb2 G1 Y
    obtain ⟨d0, d1, d2, d3, d4, d5, f0, f1, f2, f3, f4, f5⟩ := cs6 G2.out.v0
    go_wp2_with fail
    refine bodyPost_ret (results_row_tmp rfl _ _ (w.heap.size + 1) 52 _ (0, 0) _ rfl (put6 G2.out.v0 _ _ _ _ _ _) Tryz.underlying52 rfl (by kernel_rfl)) rfl ?_
    exact ⟨rfl, below6 G2.out.bel (by omega) _ _ _ _ _ _⟩
  · have G2 := Lib.hid (G1.out.still hb2)
    subst ho
    have hkn := HL.out k a hk
    rcases HA.out with hn | ⟨b, off, rfl, hb, hcs⟩
    · have := HS.out hn k; rw [hk] at this; cases this
    have hC : AreaAt w2 b (off + k * 6) a := by
      obtain ⟨hk2, he⟩ := List.getElem?_eq_some_iff.1 hk
      have h := hcs k hk2
      rw [he] at h
      exact h.below G2.out.bel hb
    clear hb2 G1 Y hcs hk
    obtain ⟨c0, c1, c2, c3, c4, c5⟩ := hC
    obtain ⟨d0, d1, d2, d3, d4, d5, f0, f1, f2, f3, f4, f5⟩ := cs6 G2.out.v0
    obtain ⟨x0, x1, x2, x3, x4, x5⟩ := a
    simp only at c0 c1 c2 c3 c4 c5
    have hz0 : (0 : Int) ≤ (k : Int) := by omega
    have hz1 : (k : Int) < (n : Int) := by omega
    go_wp2_with fail
    refine bodyPost_ret (results_row_tmp rfl _ _ (w.heap.size + 1) 52 _ (0, 0) _ rfl (put6 G2.out.v0 _ _ _ _ _ _) Tryz.underlying52 rfl (by kernel_rfl)) rfl ?_
    exact ⟨rfl, below6 G2.out.bel (by omega) _ _ _ _ _ _⟩
end Go.Proofs.YtholpgcghpikgaaGreat

/-
  Layer 11: whether a range is covered, of a right list: a contract.
-/
namespace Go.Proofs.YtholpgcghpikgaaGreat
open Go.ChangeShapes Go.WideShapes Go.ChangeAt Go.RowKit Go.Shelf
set_option linter.unusedVariables false

/-- Whether parts have no hole between them, and reach from lo to hi. -/
def cvL (lo hi : Int) : List Ar → Bool
  | [] => false
  | a :: r => decide (a.s ≤ lo) && (decide (hi ≤ ((a :: r).getLastD a).e) && decide (sumL (a :: r) = ((a :: r).getLastD a).e - a.s))

theorem last_at {a : Ar} {r : List Ar} (h : r.length < (a :: r).length) : (a :: r)[r.length] = (a :: r).getLastD a := by
  have h1 : (a :: r).getLast? = some ((a :: r).getLastD a) := by
    rw [List.getLastD_eq_getLast?]
    cases hl : (a :: r).getLast? with
    | none => simp at hl
    | some x => rfl
  rw [List.getLast?_eq_getElem?] at h1
  have h2 : (a :: r)[r.length]? = some (a :: r)[r.length] := List.getElem?_eq_getElem h
  have h3 : (a :: r).length - 1 = r.length := by simp
  rw [h3, h2] at h1
  exact Option.some.inj h1
theorem last_mem (a : Ar) (r : List Ar) : (a :: r).getLastD a ∈ (a :: r) := by
  rw [← last_at (by simp)]; exact List.getElem_mem _

set_option maxRecDepth 4000 in
set_option maxHeartbeats 2000000 in
theorem covered_any {w : World} {v : Value} {X : List Ar} (h : Holds w v X) (hX : RightL X) (lo hi : Int) : Calls Tryz.prog 116 #[v, .int .i64 lo, .int .i64 hi] w fun e w' => e = .returned (.bool (cvL lo hi (insideL lo hi X))) ∧ Below w.heap.size w w' := by
  have CW := Lib.hid (within_c h hX lo hi)
  have hf := inside_formed (l := X) lo hi
  have hll : (insideL lo hi X).length ≤ 10000 := by
    have h1 := right_len hX
    have h2 : ∀ l : List Ar, (insideL lo hi l).length ≤ l.length := fun l => by
      induction l with
      | nil => simp [insideL]
      | cons a l ih =>
        have h3 : (partL a lo hi).length ≤ 1 := by unfold partL; split <;> simp
        simp only [insideL, List.flatMap_cons, List.length_append, List.length_cons] at ih ⊢
        omega
    have := h2 X; omega
  obtain ⟨A, c, rfl⟩ := h.is
  clear h hX
  generalize insideL lo hi X = In at *
  generalize hn : X.length = n at *
  clear hn
  cases In with
  | nil =>
    unfold cvL
    go_enter Tryz.func116, Tryz.ntmps116
    go_wp2_with fail
    refine CW.out.mono ?_
    rintro e w1 ⟨v1, rfl, hh, hb⟩
    obtain ⟨A1, c1, rfl⟩ := hh.is
    have B := Lib.hid hb
    clear hb hh CW
    simp only [List.length_nil]
    go_wp2_with fail
    go_ret
    exact ⟨rfl, B.out⟩
  | cons a r =>
    have hfa := formed_num (hf a (by simp))
    have hfl := formed_num (hf _ (last_mem a r))
    obtain ⟨l2, hl2⟩ : ∃ l2 : List FAr, a :: r = l2.map (·.1) := ⟨(a :: r).attach.map (fun x => ⟨x.1, hf x.1 x.2⟩), by simp⟩
    have hs := sum_bound l2
    rw [← hl2] at hs
    have hll2 : l2.length = r.length + 1 := by
      have := congrArg List.length hl2; simp at this; omega
    have CL : Hid (∀ w' A' c', Areas w'.heap.size w' A' (a :: r) → Calls Tryz.prog 132 #[.slice A' (r.length + 1) c'] w' fun e w'' => e = .returned (.int .i64 (sumL (a :: r))) ∧ Below w'.heap.size w' w'') := Lib.hid (fun w' A' c' h => by
      have := length_any A' l2 c' (by simp at hll; omega) w' (by rw [← hl2]; exact h)
      rwa [← hl2, hll2] at this)
    rw [show cvL lo hi (a :: r) = (decide (a.s ≤ lo) && (decide (hi ≤ ((a :: r).getLastD a).e) && decide (sumL (a :: r) = ((a :: r).getLastD a).e - a.s))) from rfl]
    have HC : Hid (∀ w1 A1, Areas w1.heap.size w1 A1 (a :: r) → ∃ b off, A1 = some ⟨b, off, none⟩ ∧ w1.cell? ⟨b, off, none⟩ = some (.int .i64 a.s) ∧ w1.cell? ⟨b, off + r.length * 6 + 1, none⟩ = some (.int .i64 ((a :: r).getLastD a).e)) := Lib.hid (fun w1 A1 h => by
      rcases h with hn | ⟨b, off, rfl, hbl, hcs⟩
      · cases hn
      · have k0 := (hcs 0 (by simp)).c0
        have k1 := (hcs r.length (by simp)).c1
        rw [last_at (by simp)] at k1
        exact ⟨b, off, rfl, by simpa using k0, k1⟩)
    have CW : Hid (Calls Tryz.prog 105 #[.slice A n c, .int .i64 lo, .int .i64 hi] w fun e w' => ∃ A1 c1, e = .returned (.slice A1 (r.length + 1) c1) ∧ Areas w'.heap.size w' A1 (a :: r) ∧ Below w.heap.size w w') := Lib.hid (CW.out.mono fun e w' ⟨v1, he, ⟨A1, c1, h1, h2, h3⟩, hb⟩ => ⟨A1, c1, by rw [he, h1]; rfl, h3, hb⟩)
    simp only [List.length_cons] at hll
    generalize (a :: r).getLastD a = z at *
    generalize sumL (a :: r) = sm at *
    clear hl2 hf
    generalize a :: r = In at *
    generalize r.length = m at *
    generalize l2.length = m2 at *
    obtain ⟨a0, a1, a2, a3, a4, a5⟩ := a
    obtain ⟨z0, z1, z2, z3, z4, z5⟩ := z
    simp only at HC hfa hfl ⊢
    have q1 : IntKind.i64.wrap (m : Int) = (m : Int) := by rw [IntKind.wrap_i64]; omega
    have q2 : (0 : Int) ≤ (m : Int) := by omega
    have q3 : (m : Int) < ((m + 1 : Nat) : Int) := by omega
    have q4 : (0 : Int) < ((m + 1 : Nat) : Int) := by omega
    obtain ⟨p1, p2, p3, _⟩ := hfa
    obtain ⟨p4, p5, p6, _⟩ := hfl
    by_cases g1 : a0 ≤ lo
    · by_cases g2 : hi ≤ z1
      · rw [decide_eq_true g1, decide_eq_true g2]
        go_enter Tryz.func116, Tryz.ntmps116
        go_wp2_with fail
        refine CW.out.mono ?_
        rintro e w1 ⟨A1, c1, rfl, hh, hb⟩
        have B := Lib.hid hb
        have HA := Lib.hid hh
        obtain ⟨b, off, rfl, k0, k1⟩ := HC.out _ _ hh
        clear hb hh CW HC
        go_upto_region 4 with (fail)
        go_quiet (fail)
        have HA := Lib.hid (show Areas (w1.drewN nq).heap.size (w1.drewN nq) _ _ from (HA.out.below (below_drewN (Below.refl _ _) nq)).mono (Nat.le_refl _))
        have B := Lib.hid (below_drewN B.out nq)
        clear k0 k1
        generalize w1.drewN nq = w2 at *
        go_wp2_with fail
        refine (CL.out _ _ _ HA.out).mono ?_
        rintro e w3 ⟨rfl, hb⟩
        have B := Lib.hid (below_then B.out hb (Nat.le_refl _))
        clear hb CL HA
        go_wp2_with fail
        go_ret
        exact ⟨by first | rfl | simp, B.out⟩
      · rw [decide_eq_true g1, decide_eq_false g2]
        go_enter Tryz.func116, Tryz.ntmps116
        go_wp2_with fail
        refine CW.out.mono ?_
        rintro e w1 ⟨A1, c1, rfl, hh, hb⟩
        have B := Lib.hid hb
        have HA := Lib.hid hh
        obtain ⟨b, off, rfl, k0, k1⟩ := HC.out _ _ hh
        clear hb hh CW HC
        go_upto_region 4 with (fail)
        go_quiet (fail)
        have HA := Lib.hid (show Areas (w1.drewN nq).heap.size (w1.drewN nq) _ _ from (HA.out.below (below_drewN (Below.refl _ _) nq)).mono (Nat.le_refl _))
        have B := Lib.hid (below_drewN B.out nq)
        clear k0 k1
        generalize w1.drewN nq = w2 at *
        go_wp2_with fail
        go_ret
        exact ⟨rfl, B.out⟩
    · rw [decide_eq_false g1]
      go_enter Tryz.func116, Tryz.ntmps116
      go_wp2_with fail
      refine CW.out.mono ?_
      rintro e w1 ⟨A1, c1, rfl, hh, hb⟩
      have B := Lib.hid hb
      have HA := Lib.hid hh
      obtain ⟨b, off, rfl, k0, k1⟩ := HC.out _ _ hh
      clear hb hh CW HC
      go_upto_region 4 with (fail)
      go_quiet (fail)
      have HA := Lib.hid (show Areas (w1.drewN nq).heap.size (w1.drewN nq) _ _ from (HA.out.below (below_drewN (Below.refl _ _) nq)).mono (Nat.le_refl _))
      have B := Lib.hid (below_drewN B.out nq)
      clear k0 k1
      generalize w1.drewN nq = w2 at *
      go_wp2_with fail
      go_ret
      exact ⟨rfl, B.out⟩
end Go.Proofs.YtholpgcghpikgaaGreat
