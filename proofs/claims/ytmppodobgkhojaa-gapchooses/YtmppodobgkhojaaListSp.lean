/-
  Layer 7: the pages of a space, as the reference has them: cells, and what is laid into them.
-/
import Derived.Test.YtmppodobgkhojaaListSame
import Derived.Deep.MidRow
namespace Go.Proofs.Ytmppodobgkhojaa
open Go.ChangeShapes Go.WideShapes Go.ChangeAt Go.RowKit Go.Shelf
set_option linter.unusedVariables false

/-- What each page has. -/
abbrev Sp := Nat → Option At
def pgc : Option At → List Value
  | none => [.bool false, .int .i64 0, .bool false, .int .i64 0, .int .i64 0]
  | some x => [.bool true, .int .i64 x.p, .bool x.sh, .int .i64 x.bk, .int .i64 x.off]
theorem pgc_len (o : Option At) : (pgc o).length = 5 := by cases o <;> rfl
def spl (s : Sp) (n : Nat) : List Value := (List.range n).flatMap (fun p => pgc (s p))
theorem spl_succ (s : Sp) (n : Nat) : spl s (n + 1) = spl s n ++ pgc (s n) := by simp [spl, List.range_succ]
theorem spl_len (s : Sp) (n : Nat) : (spl s n).length = n * 5 := by
  induction n with
  | zero => rfl
  | succ n ih => rw [spl_succ, List.length_append, ih, pgc_len]; omega
theorem spl_at (s : Sp) : ∀ (n p : Nat) (h : p < n) (j : Nat), j < 5 → (spl s n)[p * 5 + j]? = (pgc (s p))[j]?
  | n + 1, p, h, j, hj => by
    rw [spl_succ]
    by_cases hp : p < n
    · rw [List.getElem?_append_left (by rw [spl_len]; omega), spl_at s n p hp j hj]
    · obtain rfl : p = n := by omega
      rw [List.getElem?_append_right (by rw [spl_len]; omega), spl_len]
      congr 1; omega
theorem spl_same {s s' : Sp} {n : Nat} (h : ∀ p, p < n → s p = s' p) : spl s n = spl s' n := by
  induction n with
  | zero => rfl
  | succ n ih => rw [spl_succ, spl_succ, ih (fun p hp => h p (by omega)), h n (by omega)]
/-- A page of it is otherwise. -/
def Sp.put (s : Sp) (p : Nat) (o : Option At) : Sp := fun q => if q = p then o else s q
theorem spl_put (s : Sp) (n p : Nat) (o : Option At) (h : p < n) : spl (s.put p o) n = (spl s n).take (p * 5) ++ (pgc o ++ (spl s n).drop (p * 5 + 5)) := by
  apply List.ext_getElem?
  intro i
  by_cases hi : i < n * 5
  · have e1 := spl_at (s.put p o) n (i / 5) (by omega) (i % 5) (by omega)
    have e2 := spl_at s n (i / 5) (by omega) (i % 5) (by omega)
    rw [show i / 5 * 5 + i % 5 = i by omega] at e1 e2
    rw [e1]
    rcases Nat.lt_trichotomy (i / 5) p with h1 | h1 | h1
    · rw [List.getElem?_append_left (by rw [List.length_take, spl_len]; omega), List.getElem?_take_of_lt (by omega), e2, Sp.put, if_neg (by omega)]
    · rw [List.getElem?_append_right (by rw [List.length_take, spl_len]; omega), List.length_take, spl_len, List.getElem?_append_left (by rw [pgc_len]; omega), Sp.put, if_pos h1]
      congr 1; omega
    · rw [List.getElem?_append_right (by rw [List.length_take, spl_len]; omega), List.length_take, spl_len, List.getElem?_append_right (by rw [pgc_len]; omega), pgc_len, List.getElem?_drop, Sp.put, if_neg (by omega), ← e2]
      congr 1; omega
  · rw [List.getElem?_eq_none (by rw [spl_len]; omega), List.getElem?_eq_none]
    simp only [List.length_append, List.length_take, List.length_drop, spl_len, pgc_len]; omega
def spc (s : Sp) : Array Value := (spl s 512).toArray
theorem spc_size (s : Sp) : (spc s).size = 2560 := by simp [spc, spl_len]
theorem spc_at (s : Sp) (p j : Nat) (h : p < 512) (hj : j < 5) : (spc s)[p * 5 + j]? = (pgc (s p))[j]? := by
  rw [← spl_at s 512 p h j hj]; simp [spc]
theorem spc_same {s s' : Sp} (h : ∀ p, p < 512 → s p = s' p) : spc s = spc s' := by unfold spc; rw [spl_same h]
theorem zero_spc : Try.zeroCells43 = spc (fun _ => none) := by kernel_rfl
theorem list5 {α : Type} (l : List α) (i : Nat) (a b c d e : α) (h : i + 5 ≤ l.length) : ((((l.set i a).set (i + 1) b).set (i + 2) c).set (i + 3) d).set (i + 4) e = l.take i ++ ([a, b, c, d, e] ++ l.drop (i + 5)) := by
  apply List.ext_getElem?
  intro k
  simp only [List.getElem?_set, List.length_set]
  by_cases h1 : k < i
  · rw [List.getElem?_append_left (by rw [List.length_take]; omega), List.getElem?_take_of_lt h1]
    simp [show i + 4 ≠ k by omega, show i + 3 ≠ k by omega, show i + 2 ≠ k by omega, show i + 1 ≠ k by omega, show i ≠ k by omega]
  · rw [List.getElem?_append_right (by rw [List.length_take]; omega), List.length_take, Nat.min_eq_left (by omega)]
    by_cases h2 : k < i + 5
    · rcases (show k = i ∨ k = i + 1 ∨ k = i + 2 ∨ k = i + 3 ∨ k = i + 4 by omega) with rfl | rfl | rfl | rfl | rfl
      all_goals (simp; try omega)
    · rw [List.getElem?_append_right (by simp; omega), List.getElem?_drop]
      simp [show i + 4 ≠ k by omega, show i + 3 ≠ k by omega, show i + 2 ≠ k by omega, show i + 1 ≠ k by omega, show i ≠ k by omega]
      congr 1; omega
/-- A block that holds a space. -/
def SpIn (w : World) (q : Nat) (s : Sp) : Prop := Whole w q 43 (spc s)
theorem SpIn.cells {w : World} {q : Nat} {s : Sp} (h : SpIn w q s) {p : Nat} (hp : p < 512) : ∀ j, j < 5 → w.cell? ⟨q, p * 5 + j, none⟩ = (pgc (s p))[j]? := fun j hj => by
  rw [Whole.cell h, spc_at s p j hp hj]
theorem SpIn.put {w : World} {q : Nat} {s : Sp} (h : SpIn w q s) {p : Nat} (hp : p < 512) (x : At) :
    SpIn (((((w.setCell ⟨q, p * 5, none⟩ (.bool true)).setCell ⟨q, p * 5 + 1, none⟩ (.int .i64 x.p)).setCell ⟨q, p * 5 + 2, none⟩ (.bool x.sh)).setCell ⟨q, p * 5 + 3, none⟩ (.int .i64 x.bk)).setCell ⟨q, p * 5 + 4, none⟩ (.int .i64 x.off)) q (s.put p (some x)) := by
  have := ((((Whole.put h (p * 5) (.bool true)).put (p * 5 + 1) (.int .i64 x.p)).put (p * 5 + 2) (.bool x.sh)).put (p * 5 + 3) (.int .i64 x.bk)).put (p * 5 + 4) (.int .i64 x.off)
  unfold SpIn
  have e : spc (s.put p (some x)) = (((((spc s).setIfInBounds (p * 5) (.bool true)).setIfInBounds (p * 5 + 1) (.int .i64 x.p)).setIfInBounds (p * 5 + 2) (.bool x.sh)).setIfInBounds (p * 5 + 3) (.int .i64 x.bk)).setIfInBounds (p * 5 + 4) (.int .i64 x.off) := by
    unfold spc
    simp only [List.setIfInBounds_toArray]
    rw [list5 _ _ _ _ _ _ _ (by rw [spl_len]; omega), spl_put _ _ _ _ hp]
    rfl
  rw [e]; exact this

/-! A space as one value. -/
theorem whole_many {w : World} {q : Nat} {t : TypeId} : ∀ (vs : List Value) (o : Nat) (w : World) (cs : Array Value), Whole w q t cs → Whole (w.setCells q o vs) q t (Go.Sort.setMany cs o vs)
  | [], _, _, _, h => h
  | v :: r, o, w, cs, h => by
    rw [World.setCells, Go.Sort.setMany]
    exact whole_many (w := w) r (o + 1) _ _ (h.put o v)
theorem many_all {cs : Array Value} {vs : List Value} (h : vs.length = cs.size) : Go.Sort.setMany cs 0 vs = vs.toArray := by
  refine Go.Sort.ext_get! (by simp [h]) fun t ht => ?_
  rw [Go.Sort.size_setMany] at ht
  rw [Go.Sort.get_setMany _ _ _ _ ht, if_pos (by omega)]
  simp
theorem only_many {q : Nat} : ∀ (vs : List Value) (o : Nat) (w : World), Only (fun k => k = q) w (w.setCells q o vs)
  | [], _, w => Only.refl _ _
  | v :: r, o, w => by
    rw [World.setCells]
    exact ((Only.refl (fun k => k = q) w).setCell (p := ⟨q, o, none⟩) (.inl rfl) v).trans (only_many r (o + 1) _)
section
variable {w : World} {q : Nat} {s s' : Sp}
theorem SpIn.range (h : SpIn w q s) : w.rangeAt q 0 (spl s 512) := fun j v hv => by
  rw [Nat.zero_add, Whole.cell h]; simpa [spc] using hv
theorem SpIn.there (h : SpIn w q s) : w.there q 0 (spl s' 512).toArray.size := fun j hj => by
  rw [Nat.zero_add]
  refine ⟨?_, Whole.frozen h _⟩
  rw [Whole.cell h, Array.getElem?_eq_getElem (by rw [spc_size]; simp [spl_len] at hj; omega)]
  rfl
theorem SpIn.all (h : SpIn w q s) : SpIn (w.setCells q 0 (spl s' 512)) q s' := by
  have := whole_many (w := w) (spl s' 512) 0 w _ h
  rw [many_all (by rw [spl_len, spc_size])] at this
  exact this
end
theorem pgc_one (o : Option At) : ∀ u ∈ pgc o, u.oneCell' = true := by
  intro u hu
  cases o with
  | none => simp [pgc] at hu; rcases hu with rfl | rfl | rfl | rfl | rfl <;> rfl
  | some x => simp [pgc] at hu; rcases hu with rfl | rfl | rfl | rfl | rfl <;> rfl
theorem spl_one (s : Sp) (n : Nat) : (spl s n).toArray.all (·.oneCell') = true := all_oneCell_toArray (fun v hv => by
  obtain ⟨p, _, hv⟩ := List.mem_flatMap.1 hv
  exact pgc_one _ v hv)
theorem space_size (s : Sp) : (Try.prog.info? 43).map (·.size) = some (spl s 512).length := by rw [spl_len]; kernel_rfl
theorem space_size' (s : Sp) : (Try.prog.info? 43).map (·.size) = some (spl s 512).toArray.size := by rw [List.size_toArray]; exact space_size s

theorem SpIn.five {w : World} {q : Nat} {s : Sp} (h : SpIn w q s) {p : Nat} (hp : p < 512) (hz : s p = none) : (w.cell? ⟨q, p * 5, none⟩ = some (.bool false) ∧ w.cell? ⟨q, p * 5 + 1, none⟩ = some (.int .i64 0) ∧ w.cell? ⟨q, p * 5 + 2, none⟩ = some (.bool false) ∧ w.cell? ⟨q, p * 5 + 3, none⟩ = some (.int .i64 0) ∧ w.cell? ⟨q, p * 5 + 4, none⟩ = some (.int .i64 0)) ∧ ∀ i, w.frozen? ⟨q, i, none⟩ = false := by
  have c := fun j hj => h.cells hp j hj
  rw [hz] at c
  exact ⟨⟨c 0 (by omega), c 1 (by omega), c 2 (by omega), c 3 (by omega), c 4 (by omega)⟩, Whole.frozen h⟩

/-- The pages of an area, ahead of one. -/
def spTo (a : Ar) (n : Nat) : Sp := fun p => if Cov a p ∧ p < n then some (a.at p) else none
def spA (a : Ar) : Sp := fun p => if Cov a p then some (a.at p) else none
/-- What Of has: its answer's block, and its own. -/
structure OfAt (w wr : World) (s : Sp) : Prop where
  z : SpIn wr w.heap.size (fun _ => none)
  s : SpIn wr (w.heap.size + 1) s
  bel : Below w.heap.size w wr
theorem OfAt.new (w : World) : OfAt w ((w.alloc (.cells Try.zeroCells43 43)).alloc (.cells Try.zeroCells43 43)) (fun _ => none) := by
  rw [zero_spc]
  refine ⟨(Whole.new w _ _).alloc _, ?_, below_new2 _ _ _⟩
  have := Whole.new (w.alloc (.cells (spc (fun _ => none)) 43)) 43 (spc (fun _ => none))
  rwa [World.size_alloc] at this
theorem OfAt.still {w wr w' : World} {s : Sp} (h : OfAt w wr s) (hb : Below wr.heap.size wr w') : OfAt w w' s :=
  ⟨Whole.below h.z hb (Whole.lt h.z), Whole.below h.s hb (Whole.lt h.s), h.bel.trans (hb.mono h.bel.size)⟩
theorem OfAt.put {w wr : World} {s : Sp} (h : OfAt w wr s) {p : Nat} (hp : p < 512) (x : At) :
    OfAt w (((((wr.setCell ⟨w.heap.size + 1, p * 5, none⟩ (.bool true)).setCell ⟨w.heap.size + 1, p * 5 + 1, none⟩ (.int .i64 x.p)).setCell ⟨w.heap.size + 1, p * 5 + 2, none⟩ (.bool x.sh)).setCell ⟨w.heap.size + 1, p * 5 + 3, none⟩ (.int .i64 x.bk)).setCell ⟨w.heap.size + 1, p * 5 + 4, none⟩ (.int .i64 x.off)) (s.put p (some x)) := by
  refine ⟨?_, h.s.put hp x, ?_⟩
  · exact Whole.far (Whole.far (Whole.far (Whole.far (Whole.far h.z (by simp) _) (by simp) _) (by simp) _) (by simp) _) (by simp) _
  · exact ((((h.bel.setCell (by simp) _).setCell (by simp) _).setCell (by simp) _).setCell (by simp) _).setCell (by simp) _
theorem spTo_put (a : Ar) (n : Nat) (hc : Cov a n) : (spTo a n).put n (some (a.at n)) = spTo a (n + 1) := by
  funext p
  unfold Sp.put spTo
  by_cases hp : p = n
  · subst hp; rw [if_pos rfl, if_pos ⟨hc, by omega⟩]
  · rw [if_neg hp]
    by_cases h1 : Cov a p ∧ p < n
    · rw [if_pos h1, if_pos ⟨h1.1, by omega⟩]
    · rw [if_neg h1, if_neg (fun h => h1 ⟨h.1, by omega⟩)]

set_option maxHeartbeats 4000000 in
theorem of_any (a : Ar) (hf : Formed a) (b off c : Nat) (w : World) (hb : b < w.heap.size) (hA : AreaAt w b off a) :
    Calls Try.prog 19 #[.slice (some ⟨b, off, none⟩) 1 c] w fun e w' => e = .returned (.agg (spc (spA a))) ∧ Below w.heap.size w w' := by
  have hn := formed_num hf
  obtain ⟨m0, hm0⟩ : ∃ m0 : Nat, a.s = 4096 * (m0 : Int) := ⟨(a.s / 4096).toNat, by omega⟩
  obtain ⟨m1, hm1⟩ : ∃ m1 : Nat, a.e = 4096 * (m1 : Int) := ⟨(a.e / 4096).toNat, by omega⟩
  have O0 := Lib.hid (OfAt.new w)
  have HA := Lib.hid hA
  have X := Lib.hid (fun (n : Nat) (h1 : m0 ≤ n) (h2 : n < m1) => refAttr_in a n (by omega) (by omega) (by omega) (by omega) (by omega) (by omega))
  have q0 : a.s.tdiv 4096 = (m0 : Int) := by rw [tdiv_up (by omega)]; omega
  have q1 : a.e.tdiv 4096 = (m1 : Int) := by rw [tdiv_up (by omega)]; omega
  have hmm : 16 ≤ m0 ∧ m0 < m1 ∧ m1 ≤ 512 := by omega
  have HC : Hid (∀ n : Nat, m0 ≤ n → n < m1 → Cov a n) := Lib.hid (fun n h1 h2 => by unfold Cov; omega)
  have HS0 : Hid (spTo a m0 = fun _ => none) := Lib.hid (by funext p; unfold spTo Cov; rw [if_neg (by omega)])
  have HS1 : Hid (spTo a m1 = spA a) := Lib.hid (by
    funext p
    unfold spTo spA
    by_cases h : Cov a p
    · rw [if_pos ⟨h, by unfold Cov at h; omega⟩, if_pos h]
    · rw [if_neg (fun k => h k.1), if_neg h])
  clear hf hn hm0 hm1 hA
  go_enter Try.func19, Try.ntmps19
  go_wp2_with fail
  generalize (w.alloc _).alloc _ = W0 at *
  go_loopg [4, 5, 6, 7] 1 (fun g s4 _ _ _ wr => ∃ k : Nat, k ≤ 1 ∧ 1 - k ≤ g ∧ s4 = .int .i64 k ∧ Hid (OfAt w wr (if k = 0 then fun _ => none else spA a)))
  case atStart => exact ⟨0, by omega, by omega, rfl, O0⟩
  case round =>
    obtain ⟨k, hk, hg, rfl, HO⟩ := hrel
    by_cases hlt : k < 1
    · obtain rfl : k = 0 := by omega
      obtain ⟨c0, c1, c2, c3, c4, c5⟩ := HA.out.below HO.out.bel hb
      simp only [if_true] at HO
      go_wp2_with fail
      go_loopg [5, 6, 7] (m1 - m0) (fun g s5 _ _ wr => ∃ n : Nat, m0 ≤ n ∧ n ≤ m1 ∧ m1 - n ≤ g ∧ s5 = .int .i64 n ∧ Hid (OfAt w wr (spTo a n)))
      case atStart => exact ⟨m0, by omega, by omega, by omega, rfl, by rw [HS0.out]; exact HO⟩
      case round =>
        obtain ⟨n, hn0, hn1, hgn, rfl, HN⟩ := hrel
        clear c0 c1 c2 c3 c4 c5 HO
        obtain ⟨c0, c1, c2, c3, c4, c5⟩ := HA.out.below HN.out.bel hb
        by_cases hln : n < m1
        · have hlz : (n : Int) < (m1 : Int) := by omega
          have hz0 : (0 : Int) ≤ (n : Int) := by omega
          have hz1 : (n : Int) < 512 := by omega
          have X1 := Lib.hid (X.out n hn0 hln)
          have N1 := Lib.hid (fun W h => (OfAt.still (w' := W) HN.out h))
          have SP := Lib.hid (spTo_put a n (HC.out n hn0 hln))
          have Z0 : Hid (spTo a n n = none) := Lib.hid (by unfold spTo; rw [if_neg (by omega)])
          generalize a.at (n : Int) = x at *
          obtain ⟨x0, x1, x2, x3⟩ := x
          simp only [Ar.v, At.v] at X1
          go_wp2_with fail
          refine (X1.out _).mono ?_
          rintro e w1 ⟨rfl, hb1⟩
          have N2 := Lib.hid (N1.out _ (hb1.alloc hb1.size (.cells #[.int .i64 x0, .bool x1, .int .i64 x2, .int .i64 x3] 39)))
          clear hb1 c0 c1 c2 c3 c4 c5
          obtain ⟨⟨d0, d1, d2, d3, d4⟩, fz⟩ := N2.out.s.five (by omega) Z0.out
          go_wp2_with fail
          go_roundg (m1 - (n + 1))
          case measure => omega
          case rel =>
            refine ⟨n + 1, by omega, by omega, by omega, by go_num, Lib.hid ?_⟩
            rw [← SP.out]
            exact N2.out.put (by omega) ⟨x0, x1, x2, x3⟩
        · obtain rfl : n = m1 := by omega
          go_wp2_with fail
          go_roundg 0
          case measure => omega
          case rel =>
            refine ⟨1, by omega, by omega, by go_num, Lib.hid ?_⟩
            rw [if_neg (by omega), ← HS1.out]
            exact HN.out
    · obtain rfl : k = 1 := by omega
      simp only [if_neg (by omega : ¬ (1 : Nat) = 0)] at HO
      go_wp2_with (first | (refine wpList_load_mid rfl 43 (.tmp 3) (by rfl) (w.heap.size + 1) 0 (by rfl) (spl (spA a) 512) _ HO.out.s.range Try.underlying43 rfl (space_size _) ?_) | (refine wpList_store_mid rfl 43 (.tmp 2) (.tmp 43) (by rfl) w.heap.size 0 (spl (spA a) 512).toArray (by rfl) (by rfl) HO.out.z.there (space_size' _) (spl_one _ _) ?_))
      refine bodyPost_ret (results_cell_row rfl _ _ w.heap.size 43 (spc (spA a)) (0, 0) _ rfl HO.out.z.all Try.underlying43 rfl (space_size' _)) rfl ?_
      exact ⟨rfl, HO.out.bel.trans ((only_many _ _ _).below (B := w.heap.size) (fun k hk => by omega) HO.out.bel.size)⟩
end Go.Proofs.Ytmppodobgkhojaa
