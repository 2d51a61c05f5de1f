/-
  Texts of our own, one behind the other (SlPure, SlZeros, SlMem, SlCalls): what the laws' proofs rest on; each says at its head what it holds. No conditions.
-/
import Derived.Test.YtejkhnphplpkeaaPkA
import Derived.Laws.AppendOwn
import Derived.Laws.Append
import Derived.Laws.BitsLemmas
import Derived.BigQuiet
import Derived.Deep.LoopGhost
import Derived.Lib.SliceRun
import Derived.Lib.AppendZeros
/-
  Layer 15: words: lists of numbers, read by offset; a node and an area as words; what comes of words.
-/
namespace Go.Proofs.Ytejkhnphplpkeaa
set_option linter.unusedVariables false

/-! Lists of numbers, by offset. -/
theorem nth_out {l : List Int} {i : Nat} (h : l.length ≤ i) : nth l i = 0 := by
  simp [nth, List.getElem?_eq_none h]
theorem nth_app (l m : List Int) (i : Nat) : nth (l ++ m) i = if i < l.length then nth l i else nth m (i - l.length) := by
  unfold nth
  simp only [List.getD_eq_getElem?_getD]
  by_cases h : i < l.length
  · rw [if_pos h, List.getElem?_append_left h]
  · rw [if_neg h, List.getElem?_append_right (by omega)]
theorem nth_app_lt {l m : List Int} {i : Nat} (h : i < l.length) : nth (l ++ m) i = nth l i := by rw [nth_app, if_pos h]
theorem nth_app_ge {l m : List Int} {i : Nat} (h : l.length ≤ i) : nth (l ++ m) i = nth m (i - l.length) := by rw [nth_app, if_neg (by omega)]
theorem nth_zeros (k i : Nat) : nth (List.replicate k 0) i = 0 := by
  unfold nth
  simp only [List.getD_eq_getElem?_getD]
  by_cases h : i < k
  · simp [h]
  · simp [List.getElem?_eq_none (l := List.replicate k (0 : Int)) (i := i) (by simp; omega)]
theorem nth_take (l : List Int) (k i : Nat) : nth (l.take k) i = if i < k then nth l i else 0 := by
  unfold nth
  simp only [List.getD_eq_getElem?_getD, List.getElem?_take]
  by_cases h : i < k <;> simp [h]
theorem nth_drop (l : List Int) (k i : Nat) : nth (l.drop k) i = nth l (k + i) := by
  unfold nth
  simp only [List.getD_eq_getElem?_getD, List.getElem?_drop]
theorem nth_set (l : List Int) (k i : Nat) (v : Int) (h : i < l.length) : nth (l.set k v) i = if i = k then v else nth l i := by
  unfold nth
  simp only [List.getD_eq_getElem?_getD, List.getElem?_set]
  by_cases hk : k = i
  · subst hk; simp [h]
  · rw [if_neg hk, if_neg (by omega)]
theorem nth_cons0 (a : Int) (l : List Int) : nth (a :: l) 0 = a := rfl
theorem nth_cons (a : Int) (l : List Int) (i : Nat) : nth (a :: l) (i + 1) = nth l i := rfl
theorem ext_nth {l m : List Int} (h : l.length = m.length) (k : ∀ i, i < l.length → nth l i = nth m i) : l = m := by
  apply List.ext_getElem h
  intro i h1 h2
  have := k i h1
  simpa [nth, List.getD_eq_getElem?_getD, List.getElem?_eq_getElem h1, List.getElem?_eq_getElem h2] using this
theorem nth_map (f : Nat → Int) (n i : Nat) (h : i < n) : nth ((List.range n).map f) i = f i := by
  unfold nth
  simp [List.getD_eq_getElem?_getD, h]

/-- Noughts up to n. -/
def fill (l : List Int) (n : Nat) : List Int := l ++ List.replicate (n - l.length) 0
theorem fill_len {l : List Int} {n : Nat} (h : l.length ≤ n) : (fill l n).length = n := by simp [fill]; omega
theorem nth_fill (l : List Int) (n i : Nat) : nth (fill l n) i = nth l i := by
  unfold fill
  by_cases h : i < l.length
  · rw [nth_app_lt h]
  · rw [nth_app_ge (by omega), nth_zeros, nth_out (by omega)]

/-- All numbers are of 64 bits. -/
def Fits (l : List Int) : Prop := ∀ i, i < l.length → -9223372036854775808 ≤ nth l i ∧ nth l i ≤ 9223372036854775807

/-! A node. -/
structure Nd where
  inner : Bool
  lo : Int
  ends : List Int
  slots : List Int
  gaps : List Int
/-- How many entries. -/
def Nd.k (n : Nd) : Nat := n.ends.length
/-- Where an entry begins. -/
def Nd.at (n : Nd) (i : Nat) : Int := if i = 0 then n.lo else nth n.ends (i - 1)
/-- Whether an entry of that length may have this handle and this gap. -/
def holdsE (inner : Bool) (h g len : Int) : Prop := if inner = true then 0 < h ∧ 0 ≤ g ∧ g ≤ len else if h = 0 then g = len else 0 < h ∧ g = 0
instance (inner : Bool) (h g len : Int) : Decidable (holdsE inner h g len) := by unfold holdsE; infer_instance
/-- An entry as it must be. -/
structure Nd.Ent (n : Nd) (i : Nat) : Prop where
  up : n.at i < nth n.ends i
  hi : nth n.ends i ≤ 2097152
  pg : (nth n.ends i).tmod 4096 = 0
  ok : holdsE n.inner (nth n.slots i) (nth n.gaps i) (nth n.ends i - n.at i)
/-- As many handles and gaps as ends, and no more entries than may be. -/
structure Nd.Counted (n : Nd) : Prop where
  one : 1 ≤ n.ends.length
  few : n.ends.length ≤ 8
  sl : n.slots.length = n.ends.length
  gl : n.gaps.length = n.ends.length
structure NdF (n : Nd) : Prop where
  cnt : n.Counted
  lo : 65536 ≤ n.lo
  pg : n.lo.tmod 4096 = 0
  ent : ∀ i, i < n.ends.length → n.Ent i
theorem tells_any (P : Prop) : ∃ r, Tells r P := by
  by_cases h : P
  · exact ⟨true, fun _ => h, fun _ => rfl⟩
  · exact ⟨false, (fun e => by cases e), fun p => absurd p h⟩
theorem NdF.at_le {n : Nd} (h : NdF n) : ∀ i, i ≤ n.ends.length → 65536 ≤ n.at i ∧ n.at i ≤ 2097152 := by
  intro i
  induction i with
  | zero =>
    intro _
    have h1 := h.cnt.one
    have e0 := h.ent 0 (by omega)
    have := e0.up
    have := e0.hi
    have := h.lo
    simp only [Nd.at, if_true] at *
    omega
  | succ i ih =>
    intro hi
    have e := h.ent i (by omega)
    have := ih (by omega)
    have := e.up
    have := e.hi
    simp only [Nd.at] at *
    simp only [Nat.add_eq_zero_iff, Nat.succ_ne_self, and_false, if_false, Nat.add_sub_cancel]
    omega

/-- A node's first word. -/
def Nd.first (n : Nd) : Int := (if n.inner then 2 else 1) + 16 * (n.ends.length : Int)
/-- A node's words, as they are put side by side. -/
def packN (n : Nd) : List Int := fill (fill (fill ([n.first, n.lo] ++ n.ends) 10 ++ n.slots) 18 ++ n.gaps) 28
section
variable {n : Nd}
theorem pack_len (h : n.Counted) : (packN n).length = 28 := by
  have := h.few
  have := h.sl
  have := h.gl
  unfold packN
  rw [fill_len]
  rw [List.length_append, fill_len]
  · omega
  · rw [List.length_append, fill_len]
    · omega
    · simp; omega
/-- A node's word, by its place. -/
def wordN (n : Nd) (i : Nat) : Int := if i = 0 then n.first else if i = 1 then n.lo else if i < 10 then nth n.ends (i - 2) else if i < 18 then nth n.slots (i - 10) else nth n.gaps (i - 18)
theorem nth_pack (h : n.Counted) (i : Nat) : nth (packN n) i = wordN n i := by
  have h1 := h.few
  have h2 := h.sl
  have h3 := h.gl
  have l1 : (fill ([n.first, n.lo] ++ n.ends) 10).length = 10 := fill_len (by simp; omega)
  have l2 : (fill (fill ([n.first, n.lo] ++ n.ends) 10 ++ n.slots) 18).length = 18 := fill_len (by rw [List.length_append, l1]; omega)
  unfold packN wordN
  rw [nth_fill, nth_app, l2]
  by_cases c3 : i < 18
  · rw [if_pos c3, nth_fill, nth_app, l1]
    by_cases c2 : i < 10
    · rw [if_pos c2, nth_fill]
      match i, c2 with
      | 0, _ => rfl
      | 1, _ => rfl
      | i + 2, _ =>
        rw [if_neg (by omega), if_neg (by omega), if_pos (by omega)]
        rfl
    · rw [if_neg c2, if_neg (by omega), if_neg (by omega), if_neg c2, if_pos c3]
  · rw [if_neg c3, if_neg (by omega), if_neg (by omega), if_neg (by omega), if_neg c3]
end

/-- The node that words would be, with so many entries. -/
def unN (l : List Int) (c : Nat) : Nd := ⟨(nth l 0).tmod 16 == 2, nth l 1, (l.drop 2).take c, (l.drop 10).take c, (l.drop 18).take c⟩
theorem first_div (n : Nd) (h : n.Counted) : n.first.tdiv 16 = (n.ends.length : Int) ∧ (n.first.tmod 16 == 2) = n.inner := by
  have h0 : 0 ≤ n.first := by unfold Nd.first; cases n.inner <;> simp <;> omega
  rw [Int.tdiv_eq_ediv_of_nonneg h0, Int.tmod_eq_emod_of_nonneg h0]
  unfold Nd.first
  cases n.inner with
  | true =>
    simp only [if_true]
    refine ⟨by omega, ?_⟩
    rw [show ((2 : Int) + 16 * (n.ends.length : Int)) % 16 = 2 by omega]
    rfl
  | false =>
    simp only [Bool.false_eq_true, if_false]
    refine ⟨by omega, ?_⟩
    rw [show ((1 : Int) + 16 * (n.ends.length : Int)) % 16 = 1 by omega]
    rfl
theorem un_pack {n : Nd} (h : n.Counted) : unN (packN n) n.ends.length = n := by
  have h1 := h.few
  have h2 := h.sl
  have h3 := h.gl
  have hl := pack_len h
  have hw := nth_pack h
  obtain ⟨inner, lo, ends, slots, gaps⟩ := n
  obtain ⟨_, hb⟩ := first_div ⟨inner, lo, ends, slots, gaps⟩ h
  simp only at *
  unfold unN
  rw [hw 0, hw 1]
  congr 1
  · apply ext_nth
    · simp [hl]; omega
    · intro i hi
      simp [hl] at hi
      rw [nth_take, if_pos (by omega), nth_drop, hw]
      unfold wordN
      rw [if_neg (by omega), if_neg (by omega), if_pos (by omega)]
      congr 1
      omega
  · apply ext_nth
    · simp [hl]; omega
    · intro i hi
      simp [hl] at hi
      rw [nth_take, if_pos (by omega), nth_drop, hw]
      unfold wordN
      rw [if_neg (by omega), if_neg (by omega), if_neg (by omega), if_pos (by omega)]
      congr 1
      omega
  · apply ext_nth
    · simp [hl]; omega
    · intro i hi
      simp [hl] at hi
      rw [nth_take, if_pos (by omega), nth_drop, hw]
      unfold wordN
      rw [if_neg (by omega), if_neg (by omega), if_neg (by omega), if_neg (by omega)]
      congr 1
      omega
/-- Just one node has these words. -/
theorem pack_inj {n m : Nd} (h : n.Counted) (k : m.Counted) (e : packN n = packN m) : n = m := by
  have a := un_pack h
  have b := un_pack k
  have c := (first_div n h).1
  have d := (first_div m k).1
  have f0 := nth_pack h 0
  have g0 := nth_pack k 0
  rw [e, g0] at f0
  have e0 : m.first = n.first := f0
  rw [e0, c] at d
  have d' : n.ends.length = m.ends.length := by omega
  rw [← a, e, d']
  exact b

/-! An area. -/
def bitI (b : Bool) : Int := if b then 1 else 0
def listA (a : Ar) (d : Bool) : List Int := [3, bitI d, a.s, a.e, a.p, bitI a.sh, a.bk, a.off]
def packA (a : Ar) (d : Bool) : List Int := fill (listA a d) 28
theorem packA_len (a : Ar) (d : Bool) : (packA a d).length = 28 := fill_len (by simp [listA])
/-- The area that words would be. -/
def unA (l : List Int) : Ar := ⟨nth l 2, nth l 3, nth l 4, nth l 5 == 1, nth l 6, nth l 7⟩
theorem bitI_eq (b : Bool) : (bitI b == 1) = b := by cases b <;> rfl
theorem un_packA (a : Ar) (d : Bool) : unA (packA a d) = a ∧ (nth (packA a d) 1 == 1) = d := by
  obtain ⟨s, e, p, sh, bk, off⟩ := a
  unfold unA packA
  simp only [nth_fill]
  exact ⟨by simp only [listA, nth_cons0, nth_cons, bitI_eq], by simp only [listA, nth_cons0, nth_cons, bitI_eq]⟩
theorem packA_inj {a b : Ar} {d e : Bool} (h : packA a d = packA b e) : a = b ∧ d = e := by
  have h1 := un_packA a d
  have h2 := un_packA b e
  rw [h] at h1
  exact ⟨h1.1.symm.trans h2.1, h1.2.symm.trans h2.2⟩
/-- No words are a node's and an area's. -/
theorem node_no_area {n : Nd} (h : n.Counted) (a : Ar) (d : Bool) (e : packN n = packA a d) : False := by
  have f0 := nth_pack h 0
  have h1 := h.one
  rw [e] at f0
  have e0 : (3 : Int) = n.first := f0
  unfold Nd.first at e0
  cases hi : n.inner <;> simp [hi] at e0 <;> omega
end Go.Proofs.Ytejkhnphplpkeaa

/-
  'append(w, make([]int64, m)...)' onto a slice of numbers that the call owns: noughts behind what it has.
-/
namespace Go.Proofs.Ytejkhnphplpkeaa
open Go.RowKit
set_option linter.unusedVariables false

theorem zero_cells (m : Nat) : Builtin.zeroCells (Value.int .i64 0).cells m = (List.replicate m (Value.int .i64 0)).toArray := by
  apply Array.ext
  · simp [Builtin.zeroCells, Value.cells]
  · intro i h1 h2
    simp [Builtin.zeroCells, Value.cells, Nat.mod_one]
section
variable {P : Program} (w : World)
theorem run_append_zeros (base : Nat) (t tn ty e : TypeId) (i : TypeInfo) (kn k : IntKind) (ht : P.underlying t = some (.slice e)) (htn : P.underlying tn = some (.int kn)) (hi : P.info? e = some i) (hz : i.zero = some (.int .i64 0))
    (hsize : i.size = 1) (hby : i.bytes = 8) (g n cap : Nat) (xs : List Value) (hown : w.ownsRow base e 1 (.slice (some ⟨g, 0, none⟩) n cap) n xs) (m : Nat) (hm : n + m ≤ 1000) (hbase : base ≤ w.heap.size) :
    ∃ v' w', (Builtin.append_ #[t, tn] ty #[.slice (some ⟨g, 0, none⟩) n cap, .int k m]).run P w = .ok v' w' ∧ w'.ownsRow base e 1 v' (n + m) (xs ++ List.replicate m (.int .i64 0)) ∧ w.grownBy w' (some g) ∧ v'.ownBlock ≠ none := by
  have hw : IntKind.i64.wrap (m : Int) = m := by rw [IntKind.wrap_i64]; omega
  have hneg : ¬ ((m : Int) < 0) := by omega
  have h48i : ¬ (281474976710656 < (m : Int) * 8) := by omega
  have hlen : (xs ++ List.replicate m (Value.int .i64 0)).length = (n + m) * 1 := by rw [List.length_append, hown.1]; simp
  have hxl : xs.length = n := by have := hown.1; omega
  rcases hown.2 with ⟨h, _⟩ | ⟨g', cap', cur, hv, hbg, hg, hnc, hcm, hcs, htake⟩
  · cases h
  · simp only [Value.slice.injEq, Option.some.injEq, Addr.mk.injEq, and_true, true_and] at hv
    obtain ⟨rfl, rfl⟩ := hv
    by_cases hroom : n + m ≤ cap
    · have hst := run_storeCells_at P g n e (List.replicate m (Value.int .i64 0)) 0 cur w hg (by simp; omega) (by intro u hu; rw [List.eq_of_mem_replicate hu]; rfl)
      simp only [Nat.add_zero] at hst
      have hrun : (Builtin.append_ #[t, tn] ty #[.slice (some ⟨g, 0, none⟩) n cap, .int k m]).run P w =
          .ok (.slice (some ⟨g, 0, none⟩) (n + m) cap) (w.setRow g (cur.toList.take n ++ List.replicate m (Value.int .i64 0) ++ cur.toList.drop (n + (List.replicate m (Value.int .i64 0)).length)).toArray) := by
        by_cases h0 : m = 0
        · subst h0
          have hw0 : IntKind.i64.wrap 0 = 0 := by rw [IntKind.wrap_i64]; rfl
          simp only [List.replicate_zero, List.append_nil, List.length_nil, Nat.add_zero] at hst hroom ⊢
          simp [Builtin.append_, run_underlying ht, run_underlying htn, sizeOf, typeInfo, hi, hsize, hby, asInt, asIntOf, hw0, hroom, Addr.add_lit]
          simp only [List.take_append_drop, Array.toArray_toList] at hst ⊢
          rw [hst]
          rfl
        · simp [Builtin.append_, run_underlying ht, run_underlying htn, sizeOf, typeInfo, zeroValue, hi, hz, hsize, hby, asInt, asIntOf, hw, hneg, h48i, hroom, Addr.add_lit, h0, zero_cells, hst]
      refine ⟨_, _, hrun, ⟨hlen, .inr ⟨g, cap, _, rfl, hbg, setRow_heap w g cur _ e _ hg, hroom, hcm, ?_, ?_⟩⟩, ⟨rfl, rfl, rfl, by simp, fun k _ hk => setRow_other w g k _ (fun e => hk (by simp [e]))⟩, by simp [Value.ownBlock]⟩
      · simp only [List.size_toArray, List.length_append, List.length_take, List.length_drop, Array.length_toList, List.length_replicate]
        omega
      · rw [show cur.toList.take n = xs by simpa using htake, ← hlen]
        exact List.take_left
    · have holds : ∀ j u, xs[j]? = some u → w.cell? ((⟨g, 0, none⟩ : Addr).add j) = some u := hown.cells (g := g) rfl
      have h0 : m ≠ 0 := by omega
      have hfo := run_firstCells_some (P := P) w.drew 1 n ⟨g, 0, none⟩ n cap xs hown.1 (by simpa using holds)
      have hfit : ¬ (281474976710656 < Builtin.nextslicecap (n + m) cap * 8) := by
        have := growslice_fits (bytes := 8) (show cap < n + m by omega) (by omega)
        omega
      have h63' : ¬ (9223372036854775807 < ((n : Int) + (m : Int))) := by omega
      have hrun : (Builtin.append_ #[t, tn] ty #[.slice (some ⟨g, 0, none⟩) n cap, .int k m]).run P w =
          .ok (.slice (some ⟨w.heap.size, 0, none⟩) (n + m) (grownCap w (n + m) cap e)) (w.drew.alloc (.cells (xs.toArray ++ (List.replicate m (Value.int .i64 0)).toArray ++ (List.replicate (grownCap w (n + m) cap e - (n + m)) (Value.int .i64 0)).toArray) e)) := by
        simp [Builtin.append_, run_underlying ht, run_underlying htn, sizeOf, typeInfo, zeroValue, hi, hz, hsize, hby, asInt, asIntOf, hw, hneg, h48i, hroom, h0, zero_cells, hfit, h63', Question.forced, hfo, newRow, grownCap]
      have hge := grownCap_ge w (n + m) cap e
      have hcm' : grownCap w (n + m) cap e ≤ maxLen := grownCap_le_maxLen w (n + m) cap e (by simp only [maxLen]; omega)
      refine ⟨_, _, hrun, ⟨hlen, .inr ⟨w.heap.size, _, _, rfl, hbase, heap_alloc_new w.drew _, hge, hcm', ?_, ?_⟩⟩, ⟨rfl, rfl, rfl, by simp, fun j hj _ => heap_alloc_old w.drew _ hj⟩, by simp [Value.ownBlock]⟩
      · simp only [Array.size_append, List.size_toArray, List.length_replicate, hxl]
        omega
      · simp only [Array.toList_append, List.append_assoc]
        rw [← List.append_assoc, ← hlen]
        exact List.take_left
end
end Go.Proofs.Ytejkhnphplpkeaa

/-
  Layer 15: slices of numbers and nodes, as they lie in memory.
-/
namespace Go.Proofs.Ytejkhnphplpkeaa
open Go.RowKit
set_option linter.unusedVariables false

/-- A slice of numbers, as it reads. -/
def Wds (w : World) (v : Value) (l : List Int) : Prop := ∃ A c, v = .slice A l.length c ∧ l.length ≤ c ∧ (0 < l.length → ∃ b off, A = some ⟨b, off, none⟩ ∧ ∀ k, k < l.length → w.cell? ⟨b, off + k, none⟩ = some (.int .i64 (nth l k)))
/-- A slice of numbers that a call has made. -/
def Mw (base : Nat) (w : World) (v : Value) (l : List Int) : Prop := w.ownsRow base 2 1 v l.length (l.map (Value.int .i64))
section
variable {w w' : World} {v : Value} {l : List Int} {base : Nat}
theorem Wds.nil (w : World) (c : Nat) (A : Option Addr) : Wds w (.slice A 0 c) [] := ⟨A, c, rfl, Nat.zero_le _, fun h => absurd h (by simp)⟩
theorem Wds.is (h : Wds w v l) : ∃ A c, v = .slice A l.length c := by obtain ⟨A, c, h, _⟩ := h; exact ⟨A, c, h⟩
theorem Wds.still (h : Wds w v l) (hb : Below w.heap.size w w') : Wds w' v l := by
  obtain ⟨A, c, rfl, hc, h⟩ := h
  refine ⟨A, c, rfl, hc, fun h0 => ?_⟩
  obtain ⟨b, off, rfl, k⟩ := h h0
  refine ⟨b, off, rfl, fun i hi => ?_⟩
  have hlt := World.block_lt_of_cell? w _ (k i hi)
  rw [hb.cell (p := ⟨b, off + i, none⟩) hlt]
  exact k i hi
theorem Mw.wds (h : Mw base w v l) : Wds w v l := by
  have h' := h
  rcases h with ⟨hl, ⟨rfl, h0⟩ | ⟨g, cap, cur, rfl, hb, hg, hn, hm, hs, ht⟩⟩
  · exact ⟨none, 0, by rw [h0], by omega, fun h => absurd h (by omega)⟩
  · exact ⟨_, _, rfl, hn, fun _ => ⟨g, 0, rfl, fun k hk => by rw [Nat.zero_add]; exact own_int h' k hk⟩⟩
theorem Mw.still (h : Mw base w v l) (hb : Below w.heap.size w w') : Mw base w' v l := own_still h hb
theorem Mw.base' {b' : Nat} (h : Mw base w v l) (hb : b' ≤ base) : Mw b' w v l := own_base h hb
theorem Mw.nil (w : World) (base : Nat) : Mw base w (.slice none 0 0) [] := World.ownsRow_nil w base _ _
theorem Mw.only {S : Nat → Prop} (h : Mw base w v l) (ho : Only S w w') (hS : ∀ k, v.ownBlock = some k → ¬ S k) : Mw base w' v l := own_only h ho hS
/-- Its block, where there is something. -/
theorem Mw.form (h : Mw base w v l) (h0 : 0 < l.length) : ∃ g c, v = .slice (some ⟨g, 0, none⟩) l.length c ∧ base ≤ g ∧ g < w.heap.size := by
  obtain ⟨A, c, rfl⟩ := own_slice h
  obtain ⟨g, rfl, h1, h2⟩ := own_form h h0
  exact ⟨g, c, rfl, h1, h2⟩
end

/-- A node as a value. -/
def Nd.val (n : Nd) (e s g : Value) : Value := .agg #[.bool n.inner, .int .i64 n.lo, e, s, g]
def Nd.cells (n : Nd) (e s g : Value) : Array Value := #[.bool n.inner, .int .i64 n.lo, e, s, g]
/-- The node that is none. -/
def Nd.nil : Nd := ⟨false, 0, [], [], []⟩
/-- What lies in a node's three slices. -/
structure NdIn (w : World) (n : Nd) (e s g : Value) : Prop where
  we : Wds w e n.ends
  ws : Wds w s n.slots
  wg : Wds w g n.gaps
theorem NdIn.still {w w' : World} {n : Nd} {e s g : Value} (h : NdIn w n e s g) (hb : Below w.heap.size w w') : NdIn w' n e s g := ⟨h.we.still hb, h.ws.still hb, h.wg.still hb⟩
theorem NdIn.nil (w : World) : NdIn w Nd.nil (.slice none 0 0) (.slice none 0 0) (.slice none 0 0) := ⟨Wds.nil _ _ _, Wds.nil _ _ _, Wds.nil _ _ _⟩
/-- A node whose slices are a call's own, each in a block of its own. -/
structure NdMine (base : Nat) (w : World) (n : Nd) (e s g : Value) : Prop where
  me : Mw base w e n.ends
  ms : Mw base w s n.slots
  mg : Mw base w g n.gaps
  es : ∀ k, e.ownBlock = some k → s.ownBlock ≠ some k
  eg : ∀ k, e.ownBlock = some k → g.ownBlock ≠ some k
  sg : ∀ k, s.ownBlock = some k → g.ownBlock ≠ some k
theorem NdMine.here {base : Nat} {w : World} {n : Nd} {e s g : Value} (h : NdMine base w n e s g) : NdIn w n e s g := ⟨h.me.wds, h.ms.wds, h.mg.wds⟩
theorem NdMine.still {base : Nat} {w w' : World} {n : Nd} {e s g : Value} (h : NdMine base w n e s g) (hb : Below w.heap.size w w') : NdMine base w' n e s g := ⟨h.me.still hb, h.ms.still hb, h.mg.still hb, h.es, h.eg, h.sg⟩

/-- The facts of the numbers' type. -/
theorem int_info : (Try.prog.info? 2).map (fun i => (i.zero, i.size, i.bytes)) = some (some (.int .i64 0), 1, 8) := by kernel_rfl
end Go.Proofs.Ytejkhnphplpkeaa

/-
  Layer 15: the small calls on words: a contract for each.
-/
namespace Go.Proofs.Ytejkhnphplpkeaa
open Go.ChangeShapes Go.WideShapes Go.ChangeAt Go.RowKit
set_option linter.unusedVariables false

set_option maxHeartbeats 2000000 in
theorem filled_c {w : World} {v : Value} {base : Nat} {l : List Int} (h : Mw base w v l) (h0 : 0 < l.length) (N : Nat) (hN : l.length ≤ N) (h1 : N ≤ 28) (hb : base ≤ w.heap.size) :
    Calls Try.prog 99 #[v, .int .i64 N] w fun e w' => ∃ v', e = .returned v' ∧ Mw base w' v' (fill l N) ∧ w.grownBy w' v.ownBlock := by
  obtain ⟨g, c, rfl, hbg, hlt⟩ := h.form h0
  obtain ⟨i0, hi0, hz0, hz1, hz2⟩ := info_parts int_info
  have HR := Lib.hid (fun k ty => run_append_zeros (P := Try.prog) w base 27 3 ty 2 i0 .i64 k Try.underlying27 Try.underlying3 hi0 hz0 hz1 hz2 g l.length c _ h (N - l.length) (by omega) hb)
  have HF : Hid (∀ W u, W.ownsRow base 2 1 u (l.length + (N - l.length)) (l.map (Value.int .i64) ++ List.replicate (N - l.length) (.int .i64 0)) → Mw base W u (fill l N)) := Lib.hid (fun W u h => by
    have e : (fill l N).length = l.length + (N - l.length) := by rw [fill_len hN]; omega
    unfold Mw
    rw [e]
    simpa [fill] using h)
  have hw : IntKind.i64.wrap ((N : Int) - (l.length : Int)) = ((N - l.length : Nat) : Int) := by rw [IntKind.wrap_i64]; omega
  have hw2 : (N : Int) - (l.length : Int) = ((N - l.length : Nat) : Int) := by omega
  clear hi0 hz0 hz1 hz2 h
  have hNn : l.length + (N - l.length) = N := by omega
  generalize hn : l.length = n at *
  generalize hd : N - n = d at *
  clear hn hd
  obtain ⟨v', w', hrun, k1, k2, k3⟩ := HR.out .i64 27
  have K1 := Lib.hid (HF.out _ _ k1)
  have K2 := Lib.hid k2
  have HRUN := Lib.hid hrun
  clear HR hrun k1 k2 k3 HF
  go_enter Try.func99, Try.ntmps99
  go_wp2_with (at_builtin; refine Lib.wpList_append_run _ rfl _ _ _ _ rfl _ _ rfl rfl _ _ HRUN.out ?_)
  go_ret
  exact ⟨_, rfl, K1.out, K2.out⟩

/-! A copy of a part. -/
set_option maxHeartbeats 2000000 in
theorem cloneI_c {w : World} {l : List Int} {b off c : Nat} (hk : 0 < l.length) (hl : l.length ≤ 1000) (h : ∀ k, k < l.length → w.cell? ⟨b, off + k, none⟩ = some (.int .i64 (nth l k))) :
    Calls Try.prog 95 #[.slice (some ⟨b, off, none⟩) l.length c] w fun e w' => ∃ v', e = .returned v' ∧ Mw w.heap.size w' v' l ∧ Below w.heap.size w w' := by
  obtain ⟨i0, hi0, hz0, hz1, hz2⟩ := info_parts int_info
  have HI0 : Hid (Try.prog.info? 2 = some i0) := Lib.hid hi0
  have H0 : Hid (i0.zero = some (.int .i64 0)) := Lib.hid hz0
  have H1 : Hid (i0.size = 1) := Lib.hid hz1
  have H2 : Hid (i0.bytes = 8) := Lib.hid hz2
  clear hi0 hz0 hz1 hz2
  have q22 : ∀ (w : World) (a : Option Addr) (n c n' c' : Nat), (binOp .eql 27 (.slice a n c) (.slice none n' c')).run Try.prog w = .ok (.bool a.isNone) w := fun w a n c n' c' => Lib.run_eql_slice_nil w _ _ a n c n' c' Try.underlying27
  have HC : Hid (∀ (o : Obj) (j : Nat) (u : Value), (l.map (Value.int .i64))[j]? = some u → (w.alloc o).cell? ((⟨b, off, none⟩ : Addr).add j) = some u) := Lib.hid (fun o j u hu => by
    rw [List.getElem?_map] at hu
    obtain ⟨x, hx, rfl⟩ := Option.map_eq_some_iff.1 hu
    obtain ⟨hj, hx⟩ := List.getElem?_eq_some_iff.1 hx
    rw [Addr.add_lit]
    refine Lib.cell?_alloc_some _ ?_
    rw [h j hj]
    simp [nth, List.getD_eq_getElem?_getD, List.getElem?_eq_getElem hj, hx])
  have HL : Hid ((l.map (Value.int .i64)).length = l.length * 1) := Lib.hid (by simp)
  have HO := Lib.hid (ints_oneCell .i64 l)
  have HM : Hid (∀ W v', World.ownsRow W w.heap.size 2 1 v' (0 + l.length) ([] ++ l.map (Value.int .i64)) → Mw w.heap.size W v' l) := Lib.hid (fun W v' h => by simpa [Mw] using h)
  clear h
  generalize l.length = n at *
  go_enter Try.func95, Try.ntmps95
  go_wp2_with (at_builtin; refine wpList_append_own _ rfl _ _ 27 rfl w.heap.size 2 i0 _ 1 8 Try.underlying27 HI0.out H0.out H1.out H2.out rfl (by decide) _ 0 [] rfl (World.ownsRow_made w #[] 0 (Nat.le_refl _) (Nat.zero_le _) rfl) ⟨b, off, none⟩ n c (l.map (Value.int .i64)) rfl HL.out (HC.out _) HO.out (by simp only [maxLen]; omega) (by omega) (by simp) ?_; intro v' w2 hown' hg' _hnil; have HW := Lib.hid (HM.out _ _ hown'); have HGR := Lib.hid hg'; clear hown' hg' _hnil)
  go_ret
  exact ⟨_, rfl, HW.out, ((Below.refl _ w).alloc (Nat.le_refl _) _).grown HGR.out (by simp) (by intro k hk; have hk : some w.heap.size = some k := hk; injection hk with hk; omega)⟩

/-! Are two the same? -/
theorem eq_step {x y : List Int} (hl : x.length = y.length) {k : Nat} (hk : k < x.length) (h : ¬ nth x k = nth y k) : x ≠ y := fun e => h (by rw [e])
set_option maxHeartbeats 2000000 in
theorem equal_c {w : World} {u v : Value} {x y : List Int} (hu : Wds w u x) (hv : Wds w v y) {r : Bool} (hr : Tells r (x = y)) (hx : x.length ≤ 1000) :
    Calls Try.prog 96 #[u, v] w fun e w' => e = .returned (.bool r) ∧ Below w.heap.size w w' := by
  obtain ⟨A, c, rfl, hc, hA⟩ := hu
  obtain ⟨B, d, rfl, hd, hB⟩ := hv
  by_cases hl : x.length = y.length
  · have HT := Lib.hid (show (∀ i, i < x.length → nth x i = nth y i) → true = r from fun h => (hr.yes (ext_nth hl h)).symm)
    have HF := Lib.hid (show ∀ k, k < x.length → ¬ nth x k = nth y k → false = r from fun k hk h => (hr.no (eq_step hl hk h)).symm)
    rw [← hl] at hB hd
    have HA := Lib.hid hA
    have HB := Lib.hid hB
    rw [← hl]
    clear hl hr hA hB
    generalize x.length = n at *
    have hn0 : IntKind.i64.wrap (n : Int) = (n : Int) := by rw [IntKind.wrap_i64]; omega
    go_enter Try.func96, Try.ntmps96
    go_wp2_with fail
    go_loopg [5, 13] n (fun g _ s13 wr => ∃ k m : Nat, k ≤ n ∧ n - k ≤ g ∧ s13 = .int .i64 k ∧ wr = w.drewN m ∧ Hid (∀ i, i < k → nth x i = nth y i))
    case atStart => exact ⟨0, 0, by omega, by omega, rfl, rfl, Lib.hid (fun i hi => by omega)⟩
    case round =>
      obtain ⟨k, m, hk, hg, rfl, rfl, HK⟩ := hrel
      by_cases hlt : k < n
      · have hz1 : (k : Int) < (n : Int) := by omega
        have hz0 : (0 : Int) ≤ (k : Int) := by omega
        have hzw : IntKind.i64.wrap (k : Int) = (k : Int) := by rw [IntKind.wrap_i64]; omega
        obtain ⟨b, off, rfl, ca⟩ := HA.out (by omega)
        obtain ⟨b', off', rfl, cb⟩ := HB.out (by omega)
        have c0 := ca k hlt
        have c1 := cb k hlt
        have HS : Hid (nth x k = nth y k → ∀ i, i < k + 1 → nth x i = nth y i) := Lib.hid (fun e i hi => by
          by_cases h : i = k
          · rw [h]; exact e
          · exact HK.out i (by omega))
        have HN := Lib.hid (HF.out k hlt)
        clear ca cb
        generalize nth x k = p at *
        generalize nth y k = q at *
        by_cases hpq : p = q
        · subst hpq
          have HS2 := Lib.hid (HS.out rfl)
          go_wp2_with fail
          go_quiet (fail)
          go_wp2_with fail
          go_roundg (n - (k + 1))
          case measure => omega
          case rel => exact ⟨k + 1, _, by omega, by omega, by go_num, rfl, HS2⟩
        · have HN2 := Lib.hid (HN.out hpq)
          have hd1 : decide (p = q) = false := decide_eq_false hpq
          go_wp2_with fail
          go_quiet (fail)
          go_wp2_with fail
          go_ret
          exact ⟨says_bool HN2.out, below_drewN (below_drewN (Below.refl _ _) _) _⟩
      · obtain rfl : k = n := by omega
        have HT2 := Lib.hid (HT.out HK.out)
        go_wp2_with fail
        go_ret
        exact ⟨says_bool HT2.out, below_drewN (Below.refl _ _) _⟩
  · have hz : ¬ (x.length : Int) = (y.length : Int) := by omega
    have hr' : false = r := (hr.no (fun e => hl (by rw [e]))).symm
    have HR := Lib.hid hr'
    clear hr hr' hA hB hl
    generalize x.length = n at *
    generalize y.length = m at *
    go_enter Try.func96, Try.ntmps96
    go_wp2_with fail
    go_ret
    exact ⟨says_bool HR.out, Below.refl _ _⟩

set_option maxHeartbeats 2000000 in
theorem slSame_c {w : World} {u v : Value} {x y : List Int} (hu : Wds w u x) (hv : Wds w v y) {r : Bool} (hr : Tells r (x = y)) (hx : x.length ≤ 1000) :
    Calls Try.prog 47 #[u, v] w fun e w' => e = .returned (.bool r) ∧ Below w.heap.size w w' := by
  obtain ⟨A, c, rfl, hc, hA⟩ := hu
  obtain ⟨B, d, rfl, hd, hB⟩ := hv
  by_cases hl : x.length = y.length
  · have HT := Lib.hid (show (∀ i, i < x.length → nth x i = nth y i) → true = r from fun h => (hr.yes (ext_nth hl h)).symm)
    have HF := Lib.hid (show ∀ k, k < x.length → ¬ nth x k = nth y k → false = r from fun k hk h => (hr.no (eq_step hl hk h)).symm)
    rw [← hl] at hB hd
    have HA := Lib.hid hA
    have HB := Lib.hid hB
    rw [← hl]
    clear hl hr hA hB
    generalize x.length = n at *
    have hn0 : IntKind.i64.wrap (n : Int) = (n : Int) := by rw [IntKind.wrap_i64]; omega
    go_enter Try.func47, Try.ntmps47
    go_wp2_with fail
    go_loopg [5] n (fun g s13 wr => ∃ k m : Nat, k ≤ n ∧ n - k ≤ g ∧ s13 = .int .i64 k ∧ wr = w.drewN m ∧ Hid (∀ i, i < k → nth x i = nth y i))
    case atStart => exact ⟨0, 0, by omega, by omega, rfl, rfl, Lib.hid (fun i hi => by omega)⟩
    case round =>
      obtain ⟨k, m, hk, hg, rfl, rfl, HK⟩ := hrel
      by_cases hlt : k < n
      · have hz1 : (k : Int) < (n : Int) := by omega
        have hz0 : (0 : Int) ≤ (k : Int) := by omega
        have hzw : IntKind.i64.wrap (k : Int) = (k : Int) := by rw [IntKind.wrap_i64]; omega
        obtain ⟨b, off, rfl, ca⟩ := HA.out (by omega)
        obtain ⟨b', off', rfl, cb⟩ := HB.out (by omega)
        have c0 := ca k hlt
        have c1 := cb k hlt
        have HS : Hid (nth x k = nth y k → ∀ i, i < k + 1 → nth x i = nth y i) := Lib.hid (fun e i hi => by
          by_cases h : i = k
          · rw [h]; exact e
          · exact HK.out i (by omega))
        have HN := Lib.hid (HF.out k hlt)
        clear ca cb
        generalize nth x k = p at *
        generalize nth y k = q at *
        by_cases hpq : p = q
        · subst hpq
          have HS2 := Lib.hid (HS.out rfl)
          go_wp2_with fail
          go_quiet (fail)
          go_wp2_with fail
          go_roundg (n - (k + 1))
          case measure => omega
          case rel => exact ⟨k + 1, _, by omega, by omega, by go_num, rfl, HS2⟩
        · have HN2 := Lib.hid (HN.out hpq)
          have hd1 : decide (p = q) = false := decide_eq_false hpq
          go_wp2_with fail
          go_quiet (fail)
          go_wp2_with fail
          go_ret
          exact ⟨says_bool HN2.out, below_drewN (below_drewN (Below.refl _ _) _) _⟩
      · obtain rfl : k = n := by omega
        have HT2 := Lib.hid (HT.out HK.out)
        go_wp2_with fail
        go_ret
        exact ⟨says_bool HT2.out, below_drewN (Below.refl _ _) _⟩
  · have hz : ¬ (x.length : Int) = (y.length : Int) := by omega
    have hr' : false = r := (hr.no (fun e => hl (by rw [e]))).symm
    have HR := Lib.hid hr'
    clear hr hr' hA hB hl
    generalize x.length = n at *
    generalize y.length = m at *
    go_enter Try.func47, Try.ntmps47
    go_wp2_with fail
    go_ret
    exact ⟨says_bool HR.out, Below.refl _ _⟩

/-! The greatest. -/
/-- The greatest of the first k, and 0. -/
def mx (l : List Int) : Nat → Int
  | 0 => 0
  | k + 1 => if mx l k < nth l k then nth l k else mx l k
theorem mx_one {l : List Int} (h : 0 ≤ nth l 0) : mx l 1 = nth l 0 := by
  show (if 0 < nth l 0 then nth l 0 else 0) = nth l 0
  by_cases h1 : 0 < nth l 0
  · rw [if_pos h1]
  · rw [if_neg h1]; omega
set_option maxHeartbeats 2000000 in
theorem max_c {w : World} {v : Value} {l : List Int} (hv : Wds w v l) (h0 : 0 < l.length) (hl : l.length ≤ 1000) (hg : 0 ≤ nth l 0) :
    Calls Try.prog 78 #[v] w fun e w' => e = .returned (.int .i64 (mx l l.length)) ∧ w' = w := by
  obtain ⟨A, c, rfl, hc, hA⟩ := hv
  obtain ⟨b, off, rfl, ca⟩ := hA h0
  have HA := Lib.hid ca
  have h1 := mx_one hg
  have c0 := ca 0 h0
  rw [← h1, Nat.add_zero] at c0
  have HX := Lib.hid (show ∀ k, mx l (k + 1) = if mx l k < nth l k then nth l k else mx l k from fun k => rfl)
  have HE : Hid (mx l l.length = mx l l.length) := Lib.hid rfl
  have n1 : ¬ l.length < 1 := by omega
  have n2 : ¬ (l.length : Int) < 1 := by omega
  have n3 : 0 < l.length := h0
  have n4 : (0 : Int) < (l.length : Int) := by omega
  clear ca hA h1 hg
  generalize hn : l.length = n at *
  clear hn HE
  generalize hm1 : mx l 1 = m1 at *
  have HM1 := Lib.hid hm1.symm
  clear hm1
  go_enter Try.func78, Try.ntmps78
  go_wp2_with fail
  go_loopg [3, 4] n (fun g s3 s4 wr => ∃ k : Nat, 1 ≤ k ∧ k ≤ n ∧ n - k ≤ g ∧ s4 = .int .i64 k ∧ wr = w ∧ s3 = .int .i64 (mx l k))
  case atStart => exact ⟨1, by omega, by omega, by omega, rfl, rfl, by rw [← HM1.out]⟩
  case round =>
    obtain ⟨k, hk1, hk, hg, rfl, rfl, rfl⟩ := hrel
    by_cases hlt : k < n
    · have hz1 : (k : Int) < (n : Int) := by omega
      have hz0 : (0 : Int) ≤ (k : Int) := by omega
      have c1 := HA.out k hlt
      have hx := HX.out k
      generalize nth l k = p at *
      generalize mx l k = q at *
      by_cases hqp : q < p
      · rw [if_pos hqp] at hx
        have HXX := Lib.hid hx
        clear hx
        go_wp2_with fail
        go_roundg (n - (k + 1))
        case measure => omega
        case rel => exact ⟨k + 1, by omega, by omega, by omega, by go_num, rfl, by rw [HXX.out]⟩
      · rw [if_neg hqp] at hx
        have HXX := Lib.hid hx
        have hqp2 : p ≤ q := by omega
        clear hx
        go_wp2_with fail
        go_roundg (n - (k + 1))
        case measure => omega
        case rel => exact ⟨k + 1, by omega, by omega, by omega, by go_num, rfl, by rw [HXX.out]⟩
    · obtain rfl : k = n := by omega
      go_wp2_with fail
      go_ret
      exact ⟨rfl, rfl⟩
end Go.Proofs.Ytejkhnphplpkeaa
