/-
  Texts of our own, one behind the other (ListSort, ListJoined, ListOps, ListSame, ListSp, ListSet): what the laws' proofs rest on; each says at its head what it holds. No conditions.
-/
import Derived.Test.YtejkhnphplpkeaaPkLa
import Derived.Shelf.SlSortCmp.NoneTotal
import Derived.Shelf.SlSortCmp.WholeK
import Derived.Shelf.SlGeneric
import Derived.Shelf.Lay
import Derived.Ground.SlsfProg
import Derived.Deep.RegionHeld3
import Derived.Deep.AppendLies
import Derived.Deep.DrawnRows
import Derived.BigQuiet
import Derived.Laws.StructEq
import Derived.Deep.MidRow
/-
  Layer 7: areas in order of where they begin: the contract of the library's sort, at areas.
-/
namespace Go.Proofs
end Go.Proofs
namespace Go.Proofs.Ytejkhnphplpkeaa
open Go.ChangeShapes Go.WideShapes Go.ChangeAt Go.RowKit Go.Shelf
set_option linter.unusedVariables false

instance : Inhabited Ar := ⟨Ar.nil⟩
/-- How two areas stand. -/
def cmpS (a b : Ar) : Int := if a.s < b.s then -1 else if b.s < a.s then 1 else 0
theorem lt_cmpS (a b : Ar) : ltOf cmpS a b = decide (a.s < b.s) := by
  unfold ltOf cmpS
  by_cases h1 : a.s < b.s
  · simp [h1]
  · by_cases h2 : b.s < a.s <;> simp [h1, h2]
theorem swo_cmpS : Go.Sort.SWO (ltOf cmpS) where
  irrefl x := by rw [lt_cmpS]; simp
  trans x y z h1 h2 := by rw [lt_cmpS] at *; simp at *; omega
  ntrans x y z h1 h2 := by rw [lt_cmpS] at *; simp at *; omega

theorem holds_mine {B : Nat} {w : World} {g n c : Nat} {l : List Ar} (h : Mine B w (.slice (some ⟨g, 0, none⟩) n c) l) (hl : l ≠ []) : Go.Sort.HoldsK Ar.cl 6 w g 0 l.toArray ∧ g < w.heap.size := by
  rcases h.2 with ⟨h0, _⟩ | ⟨g', cap, cur, hv, hb, hh, _⟩
  · cases h0
  · injection hv with h1
    injection h1 with h1
    injection h1 with h1
    subst h1
    have hc := World.ownsRow.cells h (g := g) (by simp [Value.ownBlock])
    refine ⟨fun t ht => ⟨?_, Whole.frozen (t := 74) hh _⟩, Whole.lt (t := 74) hh⟩
    rw [Go.Sort.size_flatK] at ht
    rw [Go.Sort.get_flatK _ _ _ _ ht]
    simp only [List.size_toArray] at ht
    have hj : t / 6 < l.length := by omega
    have h6 : t % 6 < (Ar.cl l[t / 6]).length := show t % 6 < 6 by omega
    have := hc t ((Ar.cl l[t / 6])[t % 6]) (by
      have h2 := cls_at l (t / 6) hj (t % 6) (by omega)
      rw [show t / 6 * 6 + t % 6 = t by omega] at h2
      rw [h2]
      exact List.getElem?_eq_getElem h6)
    rw [Addr.add_lit] at this
    rw [this]
    have e1 : l.toArray[t / 6]! = l[t / 6] := by
      rw [getElem!_pos l.toArray (t / 6) (by simpa using hj)]; simp
    rw [e1, getElem!_pos (Ar.cl l[t / 6]) (t % 6) h6]; rfl

theorem only_sorted {w : World} {g n : Nat} {os : Array Obj} (d : Array Ar) : Only (fun k => k = g) w (sortWorldK Ar.cl 6 w g 0 n d os) := by
  refine ⟨rfl, rfl, rfl, by simp [sortWorldK, Go.Sort.putRowK, Go.Sort.ahead], fun k hk hne => ?_⟩
  unfold sortWorldK
  rw [Go.Sort.heap_grow_old _ _ (by simpa [Go.Sort.putRowK, Go.Sort.ahead] using hk)]
  have : g ≠ k := fun e => hne e.symm
  simp [Go.Sort.putRowK, Go.Sort.putRow, Go.Sort.mapBlock, Go.Sort.ahead, Array.getElem?_modify, this]

end Go.Proofs.Ytejkhnphplpkeaa

/-
  Layer 7: areas that are joined in one pass: a contract for the call.
-/
namespace Go.Proofs.Ytejkhnphplpkeaa
open Go.ChangeShapes Go.WideShapes Go.ChangeAt Go.RowKit Go.Shelf
set_option linter.unusedVariables false
attribute [local go_sem] Oper.semAt_some

theorem joinF_len (out : List Ar) (a : Ar) : (joinF out a).length ≤ out.length + 1 := by
  unfold joinF
  cases h : out.getLast? with
  | none => simp
  | some z =>
    have := last_split h
    simp only
    split
    · rw [List.length_append, List.length_dropLast]; simp
    · simp
theorem joinL_snoc (l : List Ar) (a : Ar) : joinL (l ++ [a]) = joinF (joinL l) a := by simp [joinL]
theorem joinL_len (l : List Ar) : (joinL l).length ≤ l.length := by
  have key : ∀ (r out : List Ar), (r.foldl joinF out).length ≤ out.length + r.length := by
    intro r
    induction r with
    | nil => intro out; simp
    | cons a r ih => intro out; have := ih (joinF out a); have := joinF_len out a; simp only [List.foldl_cons, List.length_cons]; omega
  simpa [joinL] using key l []
theorem below_of_drew {B : Nat} {W W' : World} (h : Below B W.drew W') : Below B W W' := ⟨h.os, h.tape, h.output, h.size, h.block⟩

/-- The last one ends elsewhere. -/
theorem Mine.end {B : Nat} {w : World} {g n c : Nat} {u : List Ar} {z : Ar} (h : Mine B w (.slice (some ⟨g, 0, none⟩) n c) (u ++ [z])) (x : Int) :
    Mine B (w.setCell ⟨g, u.length * 6 + 1, none⟩ (.int .i64 x)) (.slice (some ⟨g, 0, none⟩) n c) (u ++ [{ z with e := x }]) := by
  obtain ⟨hl, h2⟩ := h
  have hlen : (cls (u ++ [{ z with e := x }])).length = (cls (u ++ [z])).length := by rw [cls_len, cls_len]; simp
  refine ⟨by rw [hlen, hl]; simp, ?_⟩
  rcases h2 with ⟨h0, _⟩ | ⟨g', cap, cur, hv, hb, hh, h3, h4, h5, h6⟩
  · cases h0
  · have hv' := hv
    injection hv with h1
    injection h1 with h1
    injection h1 with h1
    subst h1
    refine .inr ⟨g, cap, cur.setIfInBounds (u.length * 6 + 1) (.int .i64 x), ?_, hb, Whole.put (t := 74) hh _ _, by simpa using h3, h4, by simpa using h5, ?_⟩
    · simpa using hv'
    · have e1 : (cls (u ++ [z])).set (u.length * 6 + 1) (.int .i64 x) = cls (u ++ [{ z with e := x }]) := by
        rw [cls_app, cls_app, List.set_append_right _ _ (by rw [cls_len]; omega), cls_len, show u.length * 6 + 1 - u.length * 6 = 1 by omega, cls_single, cls_single]
        rfl
      rw [← e1, ← h6]
      simp only [Array.toList_setIfInBounds, List.length_append, List.length_singleton]
      rw [List.take_set]

/-- A round, once the areas have been compared. -/
structure Turn (w W W2 : World) (q Bx : Nat) (bs : List (Nat × TypeId × Array Value)) (out : List Ar) (v : Value) (x : Ar) : Prop where
  g : Going w W2 q bs out
  fv : Whole W2 q 22 #[v]
  fm : Mine w.heap.size W2 v out
  fx : ArIn W2 Bx x
  bel : Below W.heap.size W W2
section
variable {w W W2 W3 : World} {q Bx : Nat} {bs : List (Nat × TypeId × Array Value)} {out out' : List Ar} {v v' : Value} {x : Ar}
theorem Turn.below (h : Going w W q bs out) (hv : Whole W q 22 #[v]) (hm : Mine w.heap.size W v out) (hx : ArIn W Bx x) (hb : Below W.heap.size W W2) : Turn w W W2 q Bx bs out v x :=
  ⟨h.still hb, hv.below hb hv.lt, hm.still hb, hx.still hb (Whole.lt hx), hb⟩
theorem Turn.put (h : Turn w W W2 q Bx bs out v x) (hw : w.heap.size ≤ W.heap.size) (ho : Only (fun k => v.ownBlock = some k) W2 W3) (hm : Mine w.heap.size W3 v' out') :
    Whole W3 q 22 #[v] ∧ Going w (W3.setCell ⟨q, 0, none⟩ v') q bs out' ∧ KeepsOthers W (W3.setCell ⟨q, 0, none⟩ v') ∧ Below w.heap.size W (W3.setCell ⟨q, 0, none⟩ v') := by
  obtain ⟨g1, g2, g3⟩ := h.g.put h.fv ho hm
  exact ⟨(h.g.apart h.fv ho).1, g1, (keeps_below h.bel).trans g2, (h.bel.mono hw).trans g3⟩
theorem Turn.end {g n c : Nat} {u : List Ar} {z : Ar} (h : Turn w W W2 q Bx bs (u ++ [z]) (.slice (some ⟨g, 0, none⟩) n c) x) (hw : w.heap.size ≤ W.heap.size) (y : Int) :
    Going w (W2.setCell ⟨g, u.length * 6 + 1, none⟩ (.int .i64 y)) q bs (u ++ [{ z with e := y }]) ∧ KeepsOthers W (W2.setCell ⟨g, u.length * 6 + 1, none⟩ (.int .i64 y)) ∧ Below w.heap.size W (W2.setCell ⟨g, u.length * 6 + 1, none⟩ (.int .i64 y)) := by
  have ho : Only (fun k => (Value.slice (some ⟨g, 0, none⟩) n c).ownBlock = some k) W2 (W2.setCell ⟨g, u.length * 6 + 1, none⟩ (.int .i64 y)) := (Only.refl _ _).setCell (.inl (by simp [Value.ownBlock])) _
  obtain ⟨a1, a2, a3, a4⟩ := h.g.apart h.fv ho
  exact ⟨⟨⟨a2, h.g.bag.bel.trans a3⟩, ⟨_, a1, h.fm.end y⟩, h.g.new, h.g.kinds⟩, (keeps_below h.bel).trans a4, (h.bel.mono hw).trans a3⟩
theorem turn_row {g n c : Nat} {u : List Ar} {z : Ar} (h : Turn w W W2 q Bx bs (u ++ [z]) (.slice (some ⟨g, 0, none⟩) n c) x) : W2.frozen? ⟨g, u.length * 6 + 1, none⟩ = false ∧ AreaAt W2 g (u.length * 6) z := by
  have hAr := h.fm.areas
  rcases h.fm.2 with ⟨h0, _⟩ | ⟨g', cap, cur, hv, hb, hh, _⟩
  · cases h0
  · injection hv with h1
    injection h1 with h1
    injection h1 with h1
    subst h1
    refine ⟨Whole.frozen (t := 74) hh _, ?_⟩
    rcases hAr with h0 | ⟨b, off, hb', _, hc⟩
    · simp at h0
    · injection hb' with hb'
      injection hb' with hb1 hb2
      subst hb1 hb2
      have := hc u.length (by simp)
      simpa using this
end

end Go.Proofs.Ytejkhnphplpkeaa

/-
  Layer 7: Cut, Put, Pages: a contract for each call.
-/
namespace Go.Proofs.Ytejkhnphplpkeaa
open Go.ChangeShapes Go.WideShapes Go.ChangeAt Go.RowKit Go.Shelf
set_option linter.unusedVariables false
attribute [local go_sem ↓] Go.wp_at_zero Go.wp_at_succ

/-- What is put lies in a list. -/
def PutIn (l : List Ar) (a : Ar) (y : List Ar) : Prop := RightL y ∧ ∀ p, tab y p = if Cov a p then some (a.at p) else tab l p
theorem put_below {w2 w4 w5 : World} {v : Value} {l : List Ar} (h : Below w2.heap.size w2 w4) (hm : Mine w2.heap.size w4 v l) (ho : Only (fun k => v.ownBlock = some k) w4 w5) : Below w2.heap.size w2 w5 :=
  h.trans (ho.below (fun k hk => (hm.lt k hk).1) h.size)

end Go.Proofs.Ytejkhnphplpkeaa

/-
  Layer 7: two lists are the same: a contract for each call, where they are.
-/
namespace Go.Proofs.Ytejkhnphplpkeaa
open Go.ChangeShapes Go.WideShapes Go.ChangeAt Go.RowKit Go.Shelf
set_option linter.unusedVariables false

theorem area_struct : Try.prog.underlying 74 = some (.struct (Try.prog.fieldsOf 74)) := by
  unfold Program.fieldsOf
  rw [Try.underlying74]
theorem area_held : Try.prog.stoodInHeld 74 = false := by kernel_rfl
set_option maxHeartbeats 1000000 in
theorem area_neq (a : Ar) (w : World) : (binOp .neq 74 a.v a.v).run Try.prog w = .ok (.bool false) w := by
  obtain ⟨a0, a1, a2, a3, a4, a5⟩ := a
  unfold Ar.v
  rw [run_neq_struct, run_equalIn_struct w 9999 74 _ _ area_struct area_held]
  unfold Program.fieldsOf
  rw [Try.underlying74]
  simp [Op.eqFields, Go.part, isAgg, go_sem, run_underlying Try.underlying2, run_underlying Try.underlying3, run_underlying Try.underlying4]
theorem area_guard (op : BinOp) (x y : Operand) (a b : Ar) (w : World) : (eqGuard op 74 x y a.v b.v).run Try.prog w = .ok () w := run_eqGuard_agg w op 74 x y _ _ (by kernel_rfl)

end Go.Proofs.Ytejkhnphplpkeaa

/-
  Layer 7: the pages of a space, as the reference has them: cells, and what is laid into them.
-/
namespace Go.Proofs.Ytejkhnphplpkeaa
open Go.ChangeShapes Go.WideShapes Go.ChangeAt Go.RowKit Go.Shelf
set_option linter.unusedVariables false

/-- What each page has. -/
abbrev Sp := Nat → Option At
def pgc : Option At → List Value
  | none => [.bool false, .int .i64 0, .bool false, .int .i64 0, .int .i64 0]
  | some x => [.bool true, .int .i64 x.p, .bool x.sh, .int .i64 x.bk, .int .i64 x.off]
theorem pgc_len (o : Option At) : (pgc o).length = 5 := by cases o <;> rfl
def spl (s : Sp) (n : Nat) : List Value := (List.range n).flatMap (fun p => pgc (s p))
theorem spl_succ (s : Sp) (n : Nat) : spl s (n + 1) = spl s n ++ pgc (s n) := by simp [spl, List.range_succ]
theorem spl_len (s : Sp) (n : Nat) : (spl s n).length = n * 5 := by
  induction n with
  | zero => rfl
  | succ n ih => rw [spl_succ, List.length_append, ih, pgc_len]; omega
theorem spl_at (s : Sp) : ∀ (n p : Nat) (h : p < n) (j : Nat), j < 5 → (spl s n)[p * 5 + j]? = (pgc (s p))[j]?
  | n + 1, p, h, j, hj => by
    rw [spl_succ]
    by_cases hp : p < n
    · rw [List.getElem?_append_left (by rw [spl_len]; omega), spl_at s n p hp j hj]
    · obtain rfl : p = n := by omega
      rw [List.getElem?_append_right (by rw [spl_len]; omega), spl_len]
      congr 1; omega
theorem spl_same {s s' : Sp} {n : Nat} (h : ∀ p, p < n → s p = s' p) : spl s n = spl s' n := by
  induction n with
  | zero => rfl
  | succ n ih => rw [spl_succ, spl_succ, ih (fun p hp => h p (by omega)), h n (by omega)]
/-- A page of it is otherwise. -/
def Sp.put (s : Sp) (p : Nat) (o : Option At) : Sp := fun q => if q = p then o else s q
theorem spl_put (s : Sp) (n p : Nat) (o : Option At) (h : p < n) : spl (s.put p o) n = (spl s n).take (p * 5) ++ (pgc o ++ (spl s n).drop (p * 5 + 5)) := by
  apply List.ext_getElem?
  intro i
  by_cases hi : i < n * 5
  · have e1 := spl_at (s.put p o) n (i / 5) (by omega) (i % 5) (by omega)
    have e2 := spl_at s n (i / 5) (by omega) (i % 5) (by omega)
    rw [show i / 5 * 5 + i % 5 = i by omega] at e1 e2
    rw [e1]
    rcases Nat.lt_trichotomy (i / 5) p with h1 | h1 | h1
    · rw [List.getElem?_append_left (by rw [List.length_take, spl_len]; omega), List.getElem?_take_of_lt (by omega), e2, Sp.put, if_neg (by omega)]
    · rw [List.getElem?_append_right (by rw [List.length_take, spl_len]; omega), List.length_take, spl_len, List.getElem?_append_left (by rw [pgc_len]; omega), Sp.put, if_pos h1]
      congr 1; omega
    · rw [List.getElem?_append_right (by rw [List.length_take, spl_len]; omega), List.length_take, spl_len, List.getElem?_append_right (by rw [pgc_len]; omega), pgc_len, List.getElem?_drop, Sp.put, if_neg (by omega), ← e2]
      congr 1; omega
  · rw [List.getElem?_eq_none (by rw [spl_len]; omega), List.getElem?_eq_none]
    simp only [List.length_append, List.length_take, List.length_drop, spl_len, pgc_len]; omega
def spc (s : Sp) : Array Value := (spl s 512).toArray
theorem spc_size (s : Sp) : (spc s).size = 2560 := by simp [spc, spl_len]
theorem spc_at (s : Sp) (p j : Nat) (h : p < 512) (hj : j < 5) : (spc s)[p * 5 + j]? = (pgc (s p))[j]? := by
  rw [← spl_at s 512 p h j hj]; simp [spc]
theorem spc_same {s s' : Sp} (h : ∀ p, p < 512 → s p = s' p) : spc s = spc s' := by unfold spc; rw [spl_same h]
theorem zero_spc : Try.zeroCells114 = spc (fun _ => none) := by kernel_rfl
theorem list5 {α : Type} (l : List α) (i : Nat) (a b c d e : α) (h : i + 5 ≤ l.length) : ((((l.set i a).set (i + 1) b).set (i + 2) c).set (i + 3) d).set (i + 4) e = l.take i ++ ([a, b, c, d, e] ++ l.drop (i + 5)) := by
  apply List.ext_getElem?
  intro k
  simp only [List.getElem?_set, List.length_set]
  by_cases h1 : k < i
  · rw [List.getElem?_append_left (by rw [List.length_take]; omega), List.getElem?_take_of_lt h1]
    simp [show i + 4 ≠ k by omega, show i + 3 ≠ k by omega, show i + 2 ≠ k by omega, show i + 1 ≠ k by omega, show i ≠ k by omega]
  · rw [List.getElem?_append_right (by rw [List.length_take]; omega), List.length_take, Nat.min_eq_left (by omega)]
    by_cases h2 : k < i + 5
    · rcases (show k = i ∨ k = i + 1 ∨ k = i + 2 ∨ k = i + 3 ∨ k = i + 4 by omega) with rfl | rfl | rfl | rfl | rfl
      all_goals (simp; try omega)
    · rw [List.getElem?_append_right (by simp; omega), List.getElem?_drop]
      simp [show i + 4 ≠ k by omega, show i + 3 ≠ k by omega, show i + 2 ≠ k by omega, show i + 1 ≠ k by omega, show i ≠ k by omega]
      congr 1; omega
/-- A block that holds a space. -/
def SpIn (w : World) (q : Nat) (s : Sp) : Prop := Whole w q 114 (spc s)
theorem SpIn.cells {w : World} {q : Nat} {s : Sp} (h : SpIn w q s) {p : Nat} (hp : p < 512) : ∀ j, j < 5 → w.cell? ⟨q, p * 5 + j, none⟩ = (pgc (s p))[j]? := fun j hj => by
  rw [Whole.cell h, spc_at s p j hp hj]
theorem SpIn.put {w : World} {q : Nat} {s : Sp} (h : SpIn w q s) {p : Nat} (hp : p < 512) (x : At) :
    SpIn (((((w.setCell ⟨q, p * 5, none⟩ (.bool true)).setCell ⟨q, p * 5 + 1, none⟩ (.int .i64 x.p)).setCell ⟨q, p * 5 + 2, none⟩ (.bool x.sh)).setCell ⟨q, p * 5 + 3, none⟩ (.int .i64 x.bk)).setCell ⟨q, p * 5 + 4, none⟩ (.int .i64 x.off)) q (s.put p (some x)) := by
  have := ((((Whole.put h (p * 5) (.bool true)).put (p * 5 + 1) (.int .i64 x.p)).put (p * 5 + 2) (.bool x.sh)).put (p * 5 + 3) (.int .i64 x.bk)).put (p * 5 + 4) (.int .i64 x.off)
  unfold SpIn
  have e : spc (s.put p (some x)) = (((((spc s).setIfInBounds (p * 5) (.bool true)).setIfInBounds (p * 5 + 1) (.int .i64 x.p)).setIfInBounds (p * 5 + 2) (.bool x.sh)).setIfInBounds (p * 5 + 3) (.int .i64 x.bk)).setIfInBounds (p * 5 + 4) (.int .i64 x.off) := by
    unfold spc
    simp only [List.setIfInBounds_toArray]
    rw [list5 _ _ _ _ _ _ _ (by rw [spl_len]; omega), spl_put _ _ _ _ hp]
    rfl
  rw [e]; exact this

/-! A space as one value. -/
theorem whole_many {w : World} {q : Nat} {t : TypeId} : ∀ (vs : List Value) (o : Nat) (w : World) (cs : Array Value), Whole w q t cs → Whole (w.setCells q o vs) q t (Go.Sort.setMany cs o vs)
  | [], _, _, _, h => h
  | v :: r, o, w, cs, h => by
    rw [World.setCells, Go.Sort.setMany]
    exact whole_many (w := w) r (o + 1) _ _ (h.put o v)
theorem many_all {cs : Array Value} {vs : List Value} (h : vs.length = cs.size) : Go.Sort.setMany cs 0 vs = vs.toArray := by
  refine Go.Sort.ext_get! (by simp [h]) fun t ht => ?_
  rw [Go.Sort.size_setMany] at ht
  rw [Go.Sort.get_setMany _ _ _ _ ht, if_pos (by omega)]
  simp
theorem only_many {q : Nat} : ∀ (vs : List Value) (o : Nat) (w : World), Only (fun k => k = q) w (w.setCells q o vs)
  | [], _, w => Only.refl _ _
  | v :: r, o, w => by
    rw [World.setCells]
    exact ((Only.refl (fun k => k = q) w).setCell (p := ⟨q, o, none⟩) (.inl rfl) v).trans (only_many r (o + 1) _)
section
variable {w : World} {q : Nat} {s s' : Sp}
theorem SpIn.range (h : SpIn w q s) : w.rangeAt q 0 (spl s 512) := fun j v hv => by
  rw [Nat.zero_add, Whole.cell h]; simpa [spc] using hv
theorem SpIn.there (h : SpIn w q s) : w.there q 0 (spl s' 512).toArray.size := fun j hj => by
  rw [Nat.zero_add]
  refine ⟨?_, Whole.frozen h _⟩
  rw [Whole.cell h, Array.getElem?_eq_getElem (by rw [spc_size]; simp [spl_len] at hj; omega)]
  rfl
theorem SpIn.all (h : SpIn w q s) : SpIn (w.setCells q 0 (spl s' 512)) q s' := by
  have := whole_many (w := w) (spl s' 512) 0 w _ h
  rw [many_all (by rw [spl_len, spc_size])] at this
  exact this
end
theorem pgc_one (o : Option At) : ∀ u ∈ pgc o, u.oneCell' = true := by
  intro u hu
  cases o with
  | none => simp [pgc] at hu; rcases hu with rfl | rfl | rfl | rfl | rfl <;> rfl
  | some x => simp [pgc] at hu; rcases hu with rfl | rfl | rfl | rfl | rfl <;> rfl
theorem spl_one (s : Sp) (n : Nat) : (spl s n).toArray.all (·.oneCell') = true := all_oneCell_toArray (fun v hv => by
  obtain ⟨p, _, hv⟩ := List.mem_flatMap.1 hv
  exact pgc_one _ v hv)
theorem space_size (s : Sp) : (Try.prog.info? 114).map (·.size) = some (spl s 512).length := by rw [spl_len]; kernel_rfl
theorem space_size' (s : Sp) : (Try.prog.info? 114).map (·.size) = some (spl s 512).toArray.size := by rw [List.size_toArray]; exact space_size s

theorem SpIn.five {w : World} {q : Nat} {s : Sp} (h : SpIn w q s) {p : Nat} (hp : p < 512) (hz : s p = none) : (w.cell? ⟨q, p * 5, none⟩ = some (.bool false) ∧ w.cell? ⟨q, p * 5 + 1, none⟩ = some (.int .i64 0) ∧ w.cell? ⟨q, p * 5 + 2, none⟩ = some (.bool false) ∧ w.cell? ⟨q, p * 5 + 3, none⟩ = some (.int .i64 0) ∧ w.cell? ⟨q, p * 5 + 4, none⟩ = some (.int .i64 0)) ∧ ∀ i, w.frozen? ⟨q, i, none⟩ = false := by
  have c := fun j hj => h.cells hp j hj
  rw [hz] at c
  exact ⟨⟨c 0 (by omega), c 1 (by omega), c 2 (by omega), c 3 (by omega), c 4 (by omega)⟩, Whole.frozen h⟩

/-- The pages of an area, ahead of one. -/
def spTo (a : Ar) (n : Nat) : Sp := fun p => if Cov a p ∧ p < n then some (a.at p) else none
def spA (a : Ar) : Sp := fun p => if Cov a p then some (a.at p) else none
/-- What Of has: its answer's block, and its own. -/
structure OfAt (w wr : World) (s : Sp) : Prop where
  z : SpIn wr w.heap.size (fun _ => none)
  s : SpIn wr (w.heap.size + 1) s
  bel : Below w.heap.size w wr
theorem OfAt.new (w : World) : OfAt w ((w.alloc (.cells Try.zeroCells114 114)).alloc (.cells Try.zeroCells114 114)) (fun _ => none) := by
  rw [zero_spc]
  refine ⟨(Whole.new w _ _).alloc _, ?_, below_new2 _ _ _⟩
  have := Whole.new (w.alloc (.cells (spc (fun _ => none)) 114)) 114 (spc (fun _ => none))
  rwa [World.size_alloc] at this
theorem OfAt.still {w wr w' : World} {s : Sp} (h : OfAt w wr s) (hb : Below wr.heap.size wr w') : OfAt w w' s :=
  ⟨Whole.below h.z hb (Whole.lt h.z), Whole.below h.s hb (Whole.lt h.s), h.bel.trans (hb.mono h.bel.size)⟩
theorem OfAt.put {w wr : World} {s : Sp} (h : OfAt w wr s) {p : Nat} (hp : p < 512) (x : At) :
    OfAt w (((((wr.setCell ⟨w.heap.size + 1, p * 5, none⟩ (.bool true)).setCell ⟨w.heap.size + 1, p * 5 + 1, none⟩ (.int .i64 x.p)).setCell ⟨w.heap.size + 1, p * 5 + 2, none⟩ (.bool x.sh)).setCell ⟨w.heap.size + 1, p * 5 + 3, none⟩ (.int .i64 x.bk)).setCell ⟨w.heap.size + 1, p * 5 + 4, none⟩ (.int .i64 x.off)) (s.put p (some x)) := by
  refine ⟨?_, h.s.put hp x, ?_⟩
  · exact Whole.far (Whole.far (Whole.far (Whole.far (Whole.far h.z (by simp) _) (by simp) _) (by simp) _) (by simp) _) (by simp) _
  · exact ((((h.bel.setCell (by simp) _).setCell (by simp) _).setCell (by simp) _).setCell (by simp) _).setCell (by simp) _
theorem spTo_put (a : Ar) (n : Nat) (hc : Cov a n) : (spTo a n).put n (some (a.at n)) = spTo a (n + 1) := by
  funext p
  unfold Sp.put spTo
  by_cases hp : p = n
  · subst hp; rw [if_pos rfl, if_pos ⟨hc, by omega⟩]
  · rw [if_neg hp]
    by_cases h1 : Cov a p ∧ p < n
    · rw [if_pos h1, if_pos ⟨h1.1, by omega⟩]
    · rw [if_neg h1, if_neg (fun h => h1 ⟨h.1, by omega⟩)]

set_option maxHeartbeats 4000000 in
theorem of_any (a : Ar) (hf : Formed a) (b off c : Nat) (w : World) (hb : b < w.heap.size) (hA : AreaAt w b off a) :
    Calls Try.prog 56 #[.slice (some ⟨b, off, none⟩) 1 c] w fun e w' => e = .returned (.agg (spc (spA a))) ∧ Below w.heap.size w w' := by
  have hn := formed_num hf
  obtain ⟨m0, hm0⟩ : ∃ m0 : Nat, a.s = 4096 * (m0 : Int) := ⟨(a.s / 4096).toNat, by omega⟩
  obtain ⟨m1, hm1⟩ : ∃ m1 : Nat, a.e = 4096 * (m1 : Int) := ⟨(a.e / 4096).toNat, by omega⟩
  have O0 := Lib.hid (OfAt.new w)
  have HA := Lib.hid hA
  have X := Lib.hid (fun (n : Nat) (h1 : m0 ≤ n) (h2 : n < m1) => refAttr_in a n (by omega) (by omega) (by omega) (by omega) (by omega) (by omega))
  have q0 : a.s.tdiv 4096 = (m0 : Int) := by rw [tdiv_up (by omega)]; omega
  have q1 : a.e.tdiv 4096 = (m1 : Int) := by rw [tdiv_up (by omega)]; omega
  have hmm : 16 ≤ m0 ∧ m0 < m1 ∧ m1 ≤ 512 := by omega
  have HC : Hid (∀ n : Nat, m0 ≤ n → n < m1 → Cov a n) := Lib.hid (fun n h1 h2 => by unfold Cov; omega)
  have HS0 : Hid (spTo a m0 = fun _ => none) := Lib.hid (by funext p; unfold spTo Cov; rw [if_neg (by omega)])
  have HS1 : Hid (spTo a m1 = spA a) := Lib.hid (by
    funext p
    unfold spTo spA
    by_cases h : Cov a p
    · rw [if_pos ⟨h, by unfold Cov at h; omega⟩, if_pos h]
    · rw [if_neg (fun k => h k.1), if_neg h])
  clear hf hn hm0 hm1 hA
  go_enter Try.func56, Try.ntmps56
  go_wp2_with fail
  generalize (w.alloc _).alloc _ = W0 at *
  go_loopg [4, 5, 6, 7] 1 (fun g s4 _ _ _ wr => ∃ k : Nat, k ≤ 1 ∧ 1 - k ≤ g ∧ s4 = .int .i64 k ∧ Hid (OfAt w wr (if k = 0 then fun _ => none else spA a)))
  case atStart => exact ⟨0, by omega, by omega, rfl, O0⟩
  case round =>
    obtain ⟨k, hk, hg, rfl, HO⟩ := hrel
    by_cases hlt : k < 1
    · obtain rfl : k = 0 := by omega
      obtain ⟨c0, c1, c2, c3, c4, c5⟩ := HA.out.below HO.out.bel hb
      simp only [if_true] at HO
      go_wp2_with fail
      go_loopg [5, 6, 7] (m1 - m0) (fun g s5 _ _ wr => ∃ n : Nat, m0 ≤ n ∧ n ≤ m1 ∧ m1 - n ≤ g ∧ s5 = .int .i64 n ∧ Hid (OfAt w wr (spTo a n)))
      case atStart => exact ⟨m0, by omega, by omega, by omega, rfl, by rw [HS0.out]; exact HO⟩
      case round =>
        obtain ⟨n, hn0, hn1, hgn, rfl, HN⟩ := hrel
        clear c0 c1 c2 c3 c4 c5 HO
        obtain ⟨c0, c1, c2, c3, c4, c5⟩ := HA.out.below HN.out.bel hb
        by_cases hln : n < m1
        · have hlz : (n : Int) < (m1 : Int) := by omega
          have hz0 : (0 : Int) ≤ (n : Int) := by omega
          have hz1 : (n : Int) < 512 := by omega
          have X1 := Lib.hid (X.out n hn0 hln)
          have N1 := Lib.hid (fun W h => (OfAt.still (w' := W) HN.out h))
          have SP := Lib.hid (spTo_put a n (HC.out n hn0 hln))
          have Z0 : Hid (spTo a n n = none) := Lib.hid (by unfold spTo; rw [if_neg (by omega)])
          generalize a.at (n : Int) = x at *
          obtain ⟨x0, x1, x2, x3⟩ := x
          simp only [Ar.v, At.v] at X1
          go_wp2_with fail
          refine (X1.out _).mono ?_
          rintro e w1 ⟨rfl, hb1⟩
          have N2 := Lib.hid (N1.out _ (hb1.alloc hb1.size (.cells #[.int .i64 x0, .bool x1, .int .i64 x2, .int .i64 x3] 110)))
          clear hb1 c0 c1 c2 c3 c4 c5
          obtain ⟨⟨d0, d1, d2, d3, d4⟩, fz⟩ := N2.out.s.five (by omega) Z0.out
          go_wp2_with fail
          go_roundg (m1 - (n + 1))
          case measure => omega
          case rel =>
            refine ⟨n + 1, by omega, by omega, by omega, by go_num, Lib.hid ?_⟩
            rw [← SP.out]
            exact N2.out.put (by omega) ⟨x0, x1, x2, x3⟩
        · obtain rfl : n = m1 := by omega
          go_wp2_with fail
          go_roundg 0
          case measure => omega
          case rel =>
            refine ⟨1, by omega, by omega, by go_num, Lib.hid ?_⟩
            rw [if_neg (by omega), ← HS1.out]
            exact HN.out
    · obtain rfl : k = 1 := by omega
      simp only [if_neg (by omega : ¬ (1 : Nat) = 0)] at HO
      go_wp2_with (first | (refine wpList_load_mid rfl 114 (.tmp 3) (by rfl) (w.heap.size + 1) 0 (by rfl) (spl (spA a) 512) _ HO.out.s.range Try.underlying114 rfl (space_size _) ?_) | (refine wpList_store_mid rfl 114 (.tmp 2) (.tmp 43) (by rfl) w.heap.size 0 (spl (spA a) 512).toArray (by rfl) (by rfl) HO.out.z.there (space_size' _) (spl_one _ _) ?_))
      refine bodyPost_ret (results_cell_row rfl _ _ w.heap.size 114 (spc (spA a)) (0, 0) _ rfl HO.out.z.all Try.underlying114 rfl (space_size' _)) rfl ?_
      exact ⟨rfl, HO.out.bel.trans ((only_many _ _ _).below (B := w.heap.size) (fun k hk => by omega) HO.out.bel.size)⟩
end Go.Proofs.Ytejkhnphplpkeaa

/-
  Layer 7: Set: a contract for the call.
-/
namespace Go.Proofs.Ytejkhnphplpkeaa
open Go.ChangeShapes Go.WideShapes Go.ChangeAt Go.RowKit Go.Shelf
set_option linter.unusedVariables false

/-- One area's Prot is otherwise. -/
theorem Mine.protAt {B : Nat} {w : World} {g n c : Nat} {u r : List Ar} {z : Ar} (h : Mine B w (.slice (some ⟨g, 0, none⟩) n c) (u ++ z :: r)) (pr : Int) :
    Mine B (w.setCell ⟨g, u.length * 6 + 2, none⟩ (.int .i64 pr)) (.slice (some ⟨g, 0, none⟩) n c) (u ++ z.prot pr :: r) := by
  obtain ⟨hl, h2⟩ := h
  have hlen : (cls (u ++ z.prot pr :: r)).length = (cls (u ++ z :: r)).length := by rw [cls_len, cls_len]; simp
  refine ⟨by rw [hlen, hl]; simp, ?_⟩
  rcases h2 with ⟨h0, _⟩ | ⟨g', cap, cur, hv, hb, hh, h3, h4, h5, h6⟩
  · cases h0
  · have hv' := hv
    injection hv with h1
    injection h1 with h1
    injection h1 with h1
    subst h1
    refine .inr ⟨g, cap, cur.setIfInBounds (u.length * 6 + 2) (.int .i64 pr), ?_, hb, Whole.put (t := 74) hh _ _, by simpa using h3, h4, by simpa using h5, ?_⟩
    · simpa using hv'
    · have e1 : (cls (u ++ z :: r)).set (u.length * 6 + 2) (.int .i64 pr) = cls (u ++ z.prot pr :: r) := by
        rw [cls_app, cls_app, List.set_append_right _ _ (by rw [cls_len]; omega), cls_len, show u.length * 6 + 2 - u.length * 6 = 2 by omega]
        rfl
      rw [← e1, ← h6]
      simp only [Array.toList_setIfInBounds, List.length_append, List.length_cons]
      rw [List.take_set]
/-- The first k areas have it. -/
def setTo (pr : Int) (l : List Ar) (k : Nat) : List Ar := (l.take k).map (Ar.prot pr) ++ l.drop k
theorem setTo_len (pr : Int) (l : List Ar) (k : Nat) : (setTo pr l k).length = l.length := by simp [setTo]; omega
theorem setTo_zero (pr : Int) (l : List Ar) : setTo pr l 0 = l := by simp [setTo]
theorem setTo_all (pr : Int) (l : List Ar) : setTo pr l l.length = l.map (Ar.prot pr) := by simp [setTo]
/-- Our list, and all that was there. -/
structure SetAt (w wr : World) (v : Value) (l : List Ar) : Prop where
  m : Mine w.heap.size wr v l
  bel : Below w.heap.size w wr
theorem SetAt.step {w wr : World} {g n c : Nat} {l : List Ar} {pr : Int} {k : Nat} (hk : k < l.length) (h : SetAt w wr (.slice (some ⟨g, 0, none⟩) n c) (setTo pr l k)) :
    (wr.frozen? ⟨g, k * 6 + 2, none⟩ = false ∧ ∃ u, wr.cell? ⟨g, k * 6 + 2, none⟩ = some u) ∧ SetAt w (wr.setCell ⟨g, k * 6 + 2, none⟩ (.int .i64 pr)) (.slice (some ⟨g, 0, none⟩) n c) (setTo pr l (k + 1)) := by
  have e : setTo pr l k = (l.take k).map (Ar.prot pr) ++ l[k] :: l.drop (k + 1) := by unfold setTo; rw [List.drop_eq_getElem_cons hk]
  have e2 : setTo pr l (k + 1) = (l.take k).map (Ar.prot pr) ++ (l[k]).prot pr :: l.drop (k + 1) := by
    unfold setTo; rw [List.take_succ_eq_append_getElem hk, List.map_append, List.append_assoc]; rfl
  have hlen : ((l.take k).map (Ar.prot pr)).length = k := by simp; omega
  have hm := h.m
  have hAr := hm.areas
  rw [e] at hm
  have h1 := hm.protAt pr
  rw [hlen, ← e2] at h1
  refine ⟨⟨?_, ?_⟩, h1, ?_⟩
  · rcases hm.2 with ⟨h0, _⟩ | ⟨g', cap, cur, hv, hb, hh, _⟩
    · cases h0
    · injection hv with h1
      injection h1 with h1
      injection h1 with h1
      subst h1
      exact Whole.frozen (t := 74) hh _
  · rcases hAr with h0 | ⟨b, off, hb', _, hc⟩
    · have : (setTo pr l k).length = 0 := by rw [h0]; rfl
      rw [setTo_len] at this; omega
    · injection hb' with hb'
      injection hb' with hb1 hb2
      subst hb1 hb2
      have := (hc k (by rw [setTo_len]; exact hk)).c2
      exact ⟨_, by simpa using this⟩
  · exact h.bel.trans ((Below.refl _ _).setCell (p := ⟨g, k * 6 + 2, none⟩) ((hm.lt g (by simp [Value.ownBlock])).1) _)

/-- What is set lies in a list. -/
def SetIn (lo hi pr : Int) (l y : List Ar) : Prop := RightL y ∧ ∀ p, tab y p = if Touch lo hi p then (tab l p).map (fun x => { x with p := pr }) else tab l p

end Go.Proofs.Ytejkhnphplpkeaa
