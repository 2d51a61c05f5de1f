/-
  Texts of our own, one behind the other (ListSort, ListJoined, ListOps, ListSame, ListSp, ListSet): what the laws' proofs rest on; each says at its head what it holds. No conditions.
-/
import Derived.Test.YtholpgcghpikgaaGreatPkLa
import Derived.Shelf.SlSortCmp.NoneTotal
import Derived.Shelf.SlSortCmp.WholeK
import Derived.Shelf.SlGeneric
import Derived.Shelf.Lay
import Derived.Ground.SlsfProg
import Derived.Deep.RegionHeld3
import Derived.Deep.AppendLies
import Derived.Deep.DrawnRows
import Derived.BigQuiet
import Derived.Laws.StructEq
import Derived.Deep.MidRow
/-
  Layer 7: areas in order of where they begin: the contract of the library's sort, at areas.
-/
namespace Go.Proofs
open Go.Shelf Go.RowKit Go.Lib Go.Sort
shelf_lay_g SlLaysF0.n6 Slsf 6 at Tryz 111 as Tryz.sortArea
end Go.Proofs
namespace Go.Proofs.YtholpgcghpikgaaGreat
open Go.ChangeShapes Go.WideShapes Go.ChangeAt Go.RowKit Go.Shelf
set_option linter.unusedVariables false

instance : Inhabited Ar := ⟨Ar.nil⟩
/-- How two areas stand. -/
def cmpS (a b : Ar) : Int := if a.s < b.s then -1 else if b.s < a.s then 1 else 0
theorem lt_cmpS (a b : Ar) : ltOf cmpS a b = decide (a.s < b.s) := by
  unfold ltOf cmpS
  by_cases h1 : a.s < b.s
  · simp [h1]
  · by_cases h2 : b.s < a.s <;> simp [h1, h2]
theorem swo_cmpS : Go.Sort.SWO (ltOf cmpS) where
  irrefl x := by rw [lt_cmpS]; simp
  trans x y z h1 h2 := by rw [lt_cmpS] at *; simp at *; omega
  ntrans x y z h1 h2 := by rw [lt_cmpS] at *; simp at *; omega

set_option maxHeartbeats 1000000 in
theorem compare_any (x y : Int) (w : World) : Calls Tryz.prog 129 #[.int .i64 x, .int .i64 y] w fun e w' => e = .returned (.int .i64 (if x < y then -1 else if y < x then 1 else 0)) ∧ w' = w := by
  have E : Hid (∀ p q r : Int, (if x < y then p else if y < x then q else r) = (if x < y then p else if y < x then q else r)) := Lib.hid (fun _ _ _ => rfl)
  by_cases h1 : x < y
  · rw [if_pos h1]
    go_enter Tryz.func129, Tryz.ntmps129
    go_wp2
    go_ret
    exact ⟨rfl, rfl⟩
  · rw [if_neg h1]
    by_cases h2 : y < x
    · rw [if_pos h2]
      go_enter Tryz.func129, Tryz.ntmps129
      go_wp2
      go_ret
      exact ⟨rfl, rfl⟩
    · rw [if_neg h2]
      go_enter Tryz.func129, Tryz.ntmps129
      go_wp2
      go_ret
      exact ⟨rfl, rfl⟩

set_option maxHeartbeats 1000000 in
theorem byStart_any (a b : Ar) (W : World) : Calls Tryz.prog 112 #[.agg a.cl.toArray, .agg b.cl.toArray] W fun e w' => e = .returned (.int .i64 (cmpS a b)) ∧ ∃ q os', w' = Go.Sort.grow (W.drewN q) os' := by
  have X := Lib.hid (compare_any a.s b.s)
  have hc : cmpS a b = if a.s < b.s then -1 else if b.s < a.s then 1 else 0 := rfl
  rw [hc]
  generalize (if a.s < b.s then (-1 : Int) else if b.s < a.s then 1 else 0) = r at *
  clear hc
  obtain ⟨a0, a1, a2, a3, a4, a5⟩ := a
  obtain ⟨b0, b1, b2, b3, b4, b5⟩ := b
  simp only [Ar.cl] at X ⊢
  go_enter Tryz.func112, Tryz.ntmps112
  go_wp2_with fail
  refine (X.out _).mono ?_
  rintro e w1 ⟨rfl, rfl⟩
  go_wp2_with fail
  go_ret
  exact ⟨rfl, 0, _, by rw [Go.Sort.alloc_eq_grow, Go.Sort.alloc_eq_grow, Go.Sort.grow_grow]; rfl⟩

theorem holds_mine {B : Nat} {w : World} {g n c : Nat} {l : List Ar} (h : Mine B w (.slice (some ⟨g, 0, none⟩) n c) l) (hl : l ≠ []) : Go.Sort.HoldsK Ar.cl 6 w g 0 l.toArray ∧ g < w.heap.size := by
  rcases h.2 with ⟨h0, _⟩ | ⟨g', cap, cur, hv, hb, hh, _⟩
  · cases h0
  · injection hv with h1
    injection h1 with h1
    injection h1 with h1
    subst h1
    have hc := World.ownsRow.cells h (g := g) (by simp [Value.ownBlock])
    refine ⟨fun t ht => ⟨?_, Whole.frozen (t := 52) hh _⟩, Whole.lt (t := 52) hh⟩
    rw [Go.Sort.size_flatK] at ht
    rw [Go.Sort.get_flatK _ _ _ _ ht]
    simp only [List.size_toArray] at ht
    have hj : t / 6 < l.length := by omega
    have h6 : t % 6 < (Ar.cl l[t / 6]).length := show t % 6 < 6 by omega
    have := hc t ((Ar.cl l[t / 6])[t % 6]) (by
      have h2 := cls_at l (t / 6) hj (t % 6) (by omega)
      rw [show t / 6 * 6 + t % 6 = t by omega] at h2
      rw [h2]
      exact List.getElem?_eq_getElem h6)
    rw [Addr.add_lit] at this
    rw [this]
    have e1 : l.toArray[t / 6]! = l[t / 6] := by
      rw [getElem!_pos l.toArray (t / 6) (by simpa using hj)]; simp
    rw [e1, getElem!_pos (Ar.cl l[t / 6]) (t % 6) h6]; rfl

theorem only_sorted {w : World} {g n : Nat} {os : Array Obj} (d : Array Ar) : Only (fun k => k = g) w (sortWorldK Ar.cl 6 w g 0 n d os) := by
  refine ⟨rfl, rfl, rfl, by simp [sortWorldK, Go.Sort.putRowK, Go.Sort.ahead], fun k hk hne => ?_⟩
  unfold sortWorldK
  rw [Go.Sort.heap_grow_old _ _ (by simpa [Go.Sort.putRowK, Go.Sort.ahead] using hk)]
  have : g ≠ k := fun e => hne e.symm
  simp [Go.Sort.putRowK, Go.Sort.putRow, Go.Sort.mapBlock, Go.Sort.ahead, Array.getElem?_modify, this]

set_option maxHeartbeats 2000000 in
theorem sort_any (B : Nat) (A : Option Addr) (c : Nat) (l : List Ar) (w : World) (hm : Mine B w (.slice A l.length c) l) (hl : l.length ≤ 100000) :
    Calls Tryz.prog 111 #[.slice A l.length c, .func (.func 112) #[] #[]] w fun e w' => e = .returned (.tuple #[]) ∧
      ∃ l', l.Perm l' ∧ l'.Pairwise (fun a b => a.s ≤ b.s) ∧ Areas w'.heap.size w' A l' ∧ Only (fun k => (Value.slice A l.length c).ownBlock = some k) w w' := by
  by_cases hn : l = []
  · subst hn
    have h := AnyF.slices_SortFunc_none Tryz.sortArea A c (.func (.func 112) #[] #[]) w
    change Calls Tryz.prog 111 _ _ _ at h
    exact h.mono fun e w' ⟨he, hw⟩ => ⟨he, [], List.Perm.refl _, .nil, .inl rfl, by rw [hw]; exact Only.refl _ _⟩
  · rcases hm.2 with ⟨h0, h1⟩ | ⟨g, cap, cur, hv, hb, hh, _⟩
    · exact absurd (List.eq_nil_of_length_eq_zero h1) hn
    injection hv with h1
    subst h1
    obtain ⟨hH, hblk⟩ := holds_mine hm hn
    have eg : ∀ args w, (callFunc 112 args).run Tryz.prog w = .ok (.enter 112 args) w := enters_of Tryz.func112 (by kernel_rfl) rfl
    have h := AnyQ.slices_SortFunc Tryz.sortArea 6 Tryz.isAgg52 Tryz.sizeOf52 Ar.cl (fun _ => rfl) cl_one cmpS swo_cmpS 112 #[] g 0 c l.toArray w eg (fun _ _ _ _ x y => byStart_any x y _) hH hblk (by simp; omega)
    change Calls Tryz.prog 111 _ _ _ at h
    simp only [List.size_toArray] at h
    refine h.mono ?_
    rintro e w' ⟨rfl, d', n, os, ⟨hp1, hp2, hp3⟩, hs, rfl⟩
    have hd : d'.size = l.length := by simpa using hp1
    refine ⟨rfl, d'.toList, ?_, ?_, ?_, ?_⟩
    · have e1 : d'.extract 0 l.length = d' := by rw [← hd]; exact Array.extract_size
      have e2 : l.toArray.extract 0 l.length = l.toArray := by rw [show l.length = l.toArray.size by simp]; exact Array.extract_size
      rw [e1, e2] at hp3
      exact hp3.symm
    · rw [List.pairwise_iff_getElem]
      intro i j hi hj hij
      have := hs i j (Nat.zero_le _) hij (by simpa [hd] using hj)
      rw [lt_cmpS] at this
      simp only [Array.length_toList] at hi hj
      rw [getElem!_pos d' i hi, getElem!_pos d' j hj] at this
      simp at this
      simpa using this
    · have hK : Go.Sort.HoldsK Ar.cl 6 (sortWorldK Ar.cl 6 w g 0 n d' os) g 0 d' := by
        unfold sortWorldK
        exact Go.Sort.holdsK_grow _ _ _ _ _ _ _ (by simpa [Go.Sort.putRowK, Go.Sort.ahead] using hblk) (Go.Sort.holdsK_putRowK _ _ _ _ _ _ _ (Go.Sort.holdsK_ahead _ _ _ _ _ _ _ hH) hp1)
      refine .inr ⟨g, 0, rfl, ?_, fun j hj => ?_⟩
      · have := (only_sorted (w := w) (g := g) (n := n) (os := os) d').size; omega
      · simp only [Array.length_toList] at hj
        have key : ∀ i, i < 6 → ∀ u, (Ar.cl d'[j])[i]! = u → (sortWorldK Ar.cl 6 w g 0 n d' os).cell? ⟨g, 0 + j * 6 + i, none⟩ = some u := fun i hi u hu => by
          have := (hK.cell hj hi).1
          rw [getElem!_pos d' j hj, hu] at this
          exact this
        rw [Array.getElem_toList]
        exact ⟨key 0 (by omega) _ rfl, key 1 (by omega) _ rfl, key 2 (by omega) _ rfl, key 3 (by omega) _ rfl, key 4 (by omega) _ rfl, key 5 (by omega) _ rfl⟩
    · exact (only_sorted d').mono (fun k _ hk => by rw [hk]; rfl)
end Go.Proofs.YtholpgcghpikgaaGreat

/-
  Layer 7: areas that are joined in one pass: a contract for the call.
-/
namespace Go.Proofs.YtholpgcghpikgaaGreat
open Go.ChangeShapes Go.WideShapes Go.ChangeAt Go.RowKit Go.Shelf
set_option linter.unusedVariables false
attribute [local go_sem] Oper.semAt_some

theorem joinF_len (out : List Ar) (a : Ar) : (joinF out a).length ≤ out.length + 1 := by
  unfold joinF
  cases h : out.getLast? with
  | none => simp
  | some z =>
    have := last_split h
    simp only
    split
    · rw [List.length_append, List.length_dropLast]; simp
    · simp
theorem joinL_snoc (l : List Ar) (a : Ar) : joinL (l ++ [a]) = joinF (joinL l) a := by simp [joinL]
theorem joinL_len (l : List Ar) : (joinL l).length ≤ l.length := by
  have key : ∀ (r out : List Ar), (r.foldl joinF out).length ≤ out.length + r.length := by
    intro r
    induction r with
    | nil => intro out; simp
    | cons a r ih => intro out; have := ih (joinF out a); have := joinF_len out a; simp only [List.foldl_cons, List.length_cons]; omega
  simpa [joinL] using key l []
theorem below_of_drew {B : Nat} {W W' : World} (h : Below B W.drew W') : Below B W W' := ⟨h.os, h.tape, h.output, h.size, h.block⟩

/-- The last one ends elsewhere. -/
theorem Mine.end {B : Nat} {w : World} {g n c : Nat} {u : List Ar} {z : Ar} (h : Mine B w (.slice (some ⟨g, 0, none⟩) n c) (u ++ [z])) (x : Int) :
    Mine B (w.setCell ⟨g, u.length * 6 + 1, none⟩ (.int .i64 x)) (.slice (some ⟨g, 0, none⟩) n c) (u ++ [{ z with e := x }]) := by
  obtain ⟨hl, h2⟩ := h
  have hlen : (cls (u ++ [{ z with e := x }])).length = (cls (u ++ [z])).length := by rw [cls_len, cls_len]; simp
  refine ⟨by rw [hlen, hl]; simp, ?_⟩
  rcases h2 with ⟨h0, _⟩ | ⟨g', cap, cur, hv, hb, hh, h3, h4, h5, h6⟩
  · cases h0
  · have hv' := hv
    injection hv with h1
    injection h1 with h1
    injection h1 with h1
    subst h1
    refine .inr ⟨g, cap, cur.setIfInBounds (u.length * 6 + 1) (.int .i64 x), ?_, hb, Whole.put (t := 52) hh _ _, by simpa using h3, h4, by simpa using h5, ?_⟩
    · simpa using hv'
    · have e1 : (cls (u ++ [z])).set (u.length * 6 + 1) (.int .i64 x) = cls (u ++ [{ z with e := x }]) := by
        rw [cls_app, cls_app, List.set_append_right _ _ (by rw [cls_len]; omega), cls_len, show u.length * 6 + 1 - u.length * 6 = 1 by omega, cls_single, cls_single]
        rfl
      rw [← e1, ← h6]
      simp only [Array.toList_setIfInBounds, List.length_append, List.length_singleton]
      rw [List.take_set]

/-- A round, once the areas have been compared. -/
structure Turn (w W W2 : World) (q Bx : Nat) (bs : List (Nat × TypeId × Array Value)) (out : List Ar) (v : Value) (x : Ar) : Prop where
  g : Going w W2 q bs out
  fv : Whole W2 q 24 #[v]
  fm : Mine w.heap.size W2 v out
  fx : ArIn W2 Bx x
  bel : Below W.heap.size W W2
section
variable {w W W2 W3 : World} {q Bx : Nat} {bs : List (Nat × TypeId × Array Value)} {out out' : List Ar} {v v' : Value} {x : Ar}
theorem Turn.below (h : Going w W q bs out) (hv : Whole W q 24 #[v]) (hm : Mine w.heap.size W v out) (hx : ArIn W Bx x) (hb : Below W.heap.size W W2) : Turn w W W2 q Bx bs out v x :=
  ⟨h.still hb, hv.below hb hv.lt, hm.still hb, hx.still hb (Whole.lt hx), hb⟩
theorem Turn.put (h : Turn w W W2 q Bx bs out v x) (hw : w.heap.size ≤ W.heap.size) (ho : Only (fun k => v.ownBlock = some k) W2 W3) (hm : Mine w.heap.size W3 v' out') :
    Whole W3 q 24 #[v] ∧ Going w (W3.setCell ⟨q, 0, none⟩ v') q bs out' ∧ KeepsOthers W (W3.setCell ⟨q, 0, none⟩ v') ∧ Below w.heap.size W (W3.setCell ⟨q, 0, none⟩ v') := by
  obtain ⟨g1, g2, g3⟩ := h.g.put h.fv ho hm
  exact ⟨(h.g.apart h.fv ho).1, g1, (keeps_below h.bel).trans g2, (h.bel.mono hw).trans g3⟩
theorem Turn.end {g n c : Nat} {u : List Ar} {z : Ar} (h : Turn w W W2 q Bx bs (u ++ [z]) (.slice (some ⟨g, 0, none⟩) n c) x) (hw : w.heap.size ≤ W.heap.size) (y : Int) :
    Going w (W2.setCell ⟨g, u.length * 6 + 1, none⟩ (.int .i64 y)) q bs (u ++ [{ z with e := y }]) ∧ KeepsOthers W (W2.setCell ⟨g, u.length * 6 + 1, none⟩ (.int .i64 y)) ∧ Below w.heap.size W (W2.setCell ⟨g, u.length * 6 + 1, none⟩ (.int .i64 y)) := by
  have ho : Only (fun k => (Value.slice (some ⟨g, 0, none⟩) n c).ownBlock = some k) W2 (W2.setCell ⟨g, u.length * 6 + 1, none⟩ (.int .i64 y)) := (Only.refl _ _).setCell (.inl (by simp [Value.ownBlock])) _
  obtain ⟨a1, a2, a3, a4⟩ := h.g.apart h.fv ho
  exact ⟨⟨⟨a2, h.g.bag.bel.trans a3⟩, ⟨_, a1, h.fm.end y⟩, h.g.new, h.g.kinds⟩, (keeps_below h.bel).trans a4, (h.bel.mono hw).trans a3⟩
theorem turn_row {g n c : Nat} {u : List Ar} {z : Ar} (h : Turn w W W2 q Bx bs (u ++ [z]) (.slice (some ⟨g, 0, none⟩) n c) x) : W2.frozen? ⟨g, u.length * 6 + 1, none⟩ = false ∧ AreaAt W2 g (u.length * 6) z := by
  have hAr := h.fm.areas
  rcases h.fm.2 with ⟨h0, _⟩ | ⟨g', cap, cur, hv, hb, hh, _⟩
  · cases h0
  · injection hv with h1
    injection h1 with h1
    injection h1 with h1
    subst h1
    refine ⟨Whole.frozen (t := 52) hh _, ?_⟩
    rcases hAr with h0 | ⟨b, off, hb', _, hc⟩
    · simp at h0
    · injection hb' with hb'
      injection hb' with hb1 hb2
      subst hb1 hb2
      have := hc u.length (by simp)
      simpa using this
end

set_option maxRecDepth 100000 in
set_option maxHeartbeats 4000000 in
theorem joined_any (B : Nat) (A : Option Addr) (c : Nat) (l : List Ar) (w : World) (hm : Mine B w (.slice A l.length c) l) (hl : l.length ≤ 50000) :
    Calls Tryz.prog 77 #[.slice A l.length c] w fun e w' => ∃ v l', e = .returned v ∧ l.Perm l' ∧ l'.Pairwise (fun a b => a.s ≤ b.s) ∧ Mine w.heap.size w' v (joinL l') ∧ Only (fun k => (Value.slice A l.length c).ownBlock = some k) w w' := by
  refine (callsIn_wide (n := 5)).1 ?_
  have hro : Fence.wide.round = none := rfl
  have f40 : Fence.wide.fn 111 := trivial
  have f42 : Fence.wide.fn 113 := trivial
  have f49 : Fence.wide.fn 130 := trivial
  have f33 : Fence.wide.fn 56 := trivial
  have SO := Lib.hid (sort_any B A c l w hm (by omega))
  obtain ⟨i0, hi0, hz0, hz1, hz2⟩ := info_parts area_info
  have HI0 : Hid (Tryz.prog.info? 52 = some i0) := Lib.hid hi0
  have H0 : Hid (i0.zero = some Ar.nil.v) := Lib.hid hz0
  have H1 : Hid (i0.size = 6) := Lib.hid hz1
  have H2 : Hid (i0.bytes = 48) := Lib.hid hz2
  have hmix : Tryz.prog.follows .mixedOrders = true := by kernel_rfl
  clear hi0 hz0 hz1 hz2 hm
  have HLen : Hid (l.length = l.length) := Lib.hid rfl
  refine callsIn_of_wp_marks Tryz.func77 rfl trivial ?_ hro
  simp only [Tryz.ntmps77, List.size_toArray, List.length_cons, List.length_nil, Nat.reduceAdd, Nat.reduceSub, Array.replicate_succ, Array.replicate_zero, List.push_toArray, List.append_toArray, List.nil_append, List.cons_append]
  gi_wp2_with (first | (gi_at_call 111; refine (callsIn_wide.2 SO.out).mono ?_; rintro e w1 ⟨rfl, l', hp, hs, hA, ho⟩; clear SO; have HP := Lib.hid hp; have HS := Lib.hid hs; have HA := Lib.hid hA; have HO := Lib.hid ho; clear hp hs hA ho) | (gi_at_call 113; refine (values_in Fence.wide 4 f42 hro _ _ _ _).mono ?_; rintro e w' ⟨rfl, rfl⟩))
  have hl' : l.length = l'.length := HP.out.length_eq
  have hl3 : l'.length ≤ 50000 := by omega
  rw [hl'] at *
  clear hl'
  have bag := ((Bag.new w1).add 24 #[.slice none 0 0]).add 24 #[.slice A l'.length c]
  simp only [World.size_alloc] at bag
  have hsz : ((w1.alloc (.cells #[.slice none 0 0] 24)).alloc (.cells #[.slice A l'.length c] 24)).heap.size = w1.heap.size + 2 := by simp
  generalize (w1.alloc (.cells #[.slice none 0 0] 24)).alloc (.cells #[.slice A l'.length c] 24) = W0 at *
  have bN := bag.v0
  have hG : Going w1 W0 w1.heap.size [] [] := ⟨bag.tail.tail, ⟨_, bag.v1, Mine.nil _ _⟩, Nat.le_refl _, fun x hx => by cases hx⟩
  have hB0 := bag.bel
  clear bag
  refine wpIn_rangeFunc_ownH hro (by omega) (gf := 130) (lb := #[.pointer (some ⟨w1.heap.size + 1, 0, none⟩)]) rfl f49 (enters_of Tryz.func130 (by kernel_rfl) rfl)
    (values_stops (fun a : Ar => a) Fence.wide 4 f49 hro (by omega) (w1.heap.size + 1) w1.heap.size c A l' (by omega) W0 (by omega) (by omega) (bN.cell 0) (by rw [List.map_id']; exact HA.out.below hB0)) belowK_t (belowK_b (by omega)) (Below.refl _ _) (fun _ => rfl)
    (fun pre W => Going w1 W w1.heap.size [] (joinL pre))
    (fun _ _ _ => False)
    (going_own _ (by omega))
    (fun _ _ _ _ _ hs _ _ => hs)
    hG
    (fun x a' W => ∃ Bx, RoundVar w1.heap.size W Bx x ∧ a' = { tmps := #[.slice A l'.length c, undef, .slice none 0 0, .pointer (some ⟨w1.heap.size, 0, none⟩), .pointer (some ⟨Bx, 0, none⟩), undef, .slice A l'.length c, .tuple #[], .slice A l'.length c, .func (.func 130) #[] #[.pointer (some ⟨w1.heap.size + 1, 0, none⟩)], x.v, undef, undef, undef, undef, undef, undef, undef, undef, undef, undef, undef, undef, undef, undef, undef, undef, undef, undef, undef, undef, undef, undef, undef, undef], defers := [] })
    (fun x a' _ X Y row hs hg hr => by obtain ⟨Bx, h2, h3⟩ := hs; exact ⟨Bx, round_own h2 hg (fun r e => (hr r e).2), h3⟩)
    ?assign ?body ?done ?stop
  case assign =>
    rintro l2 pre ⟨x0, x1, x2, x3, x4, x5⟩ W K hI hK
    simp only [Ar.v]
    gi_wp2
    exact hK _ _ ((KeepsOthers.alloc _ _).from _) ((Below.refl _ W).alloc hI.bag.bel.size _) (hI.alloc _) ⟨W.heap.size, hI.var ⟨x0, x1, x2, x3, x4, x5⟩, rfl⟩
  case body =>
    rintro l2 pre x a' W hlw hrec hI ⟨Bx, hRV, rfl⟩ hlt
    obtain ⟨v, hv, hm⟩ := hI.out
    have hlen : (joinL pre).length ≤ 50000 := by
      have := joinL_len pre
      omega
    have HI := Lib.hid hI
    have HV := Lib.hid hv
    have HRV := Lib.hid hRV
    have HM := Lib.hid hm
    have e1 := joinL_snoc pre x
    unfold joinF at e1
    obtain ⟨A1, k1, rfl⟩ := hm.is
    have cV := hv.cell 0
    obtain ⟨c0, c1, c2, c3, c4, c5⟩ := hRV.1.cs
    simp at cV
    have hAr := hm.areas
    clear hI hv hm hRV hB0 bN hG
    cases hla : (joinL pre).getLast? with
    | none =>
      rw [hla] at e1
      simp only at e1
      have hnil : joinL pre = [] := List.getLast?_eq_none_iff.1 hla
      have E1 : Hid (joinL (pre ++ [x]) = [] ++ [x]) := Lib.hid e1
      rw [hnil] at HI HV HM cV
      clear hla e1 hAr hlen hnil
      obtain ⟨x0, x1, x2, x3, x4, x5⟩ := x
      simp only [Ar.v, List.length_nil] at c0 c1 c2 c3 c4 c5 cV HI HV HM ⊢
      have HW := Lib.hid HI.out.bag.bel.size
      have T1 := Lib.hid (fun W2 h => Turn.below (W2 := W2) HI.out HV.out HM.out HRV.out.1 h)
      gi_wp2_with fail
      gi_region_with_o (gi_at_call 56; fail)
      all_goals (
        have TT := Lib.hid (T1.out W.drew (below_drew (Below.refl _ _)))
        clear c0 c1 c2 c3 c4 c5 cV
        generalize W.drew = W2 at *
        obtain ⟨d0, d1, d2, d3, d4, d5⟩ := TT.out.fx.cs
        have dV := TT.out.fv.cell 0
        simp at dV
        simp only at d0 d1 d2 d3 d4 d5
        gi_wp2_with (gi_at_builtin; refine wpListIn_append_own _ rfl (.tmp 30) (.tmp 32) _ rfl w1.heap.size 52 i0 _ 6 48 Tryz.underlying24 HI0.out H0.out H1.out H2.out rfl (by omega) _ 0 _ rfl (World.ownsRow.alloc TT.out.fm _) ⟨W2.heap.size, 0, none⟩ 1 1 (Ar.cl ⟨x0, x1, x2, x3, x4, x5⟩) rfl rfl (new6 W2 ⟨x0, x1, x2, x3, x4, x5⟩ 52) (cl_one _) (by simp only [maxLen]; omega) (by omega) (by have := TT.out.g.bag.bel.size; simp only [World.size_alloc] at *; omega) ?_; intro v' W3 hown' hg' _hnil; obtain ⟨A2, k2, rfl⟩ := own_slice hown'; have N := Lib.hid (TT.out.put HW.out (only_grown ((Only.refl _ _).alloc _) hg' (fun k hk => hk)) (mine_more (l := []) (l' := [⟨x0, x1, x2, x3, x4, x5⟩]) rfl (by rw [cls_single]; exact hown'))); clear hown' hg' _hnil d0 d1 d2 d3 d4 d5 dV; have dV := N.out.1.cell 0; have fV := N.out.1.frozen 0; simp at dV)
        exact ⟨N.out.2.2.1.from _, N.out.2.2.2, (show Going _ _ _ _ _ from (by rw [E1.out]; exact N.out.2.1))⟩)
    | some z =>
      rw [hla] at e1
      simp only at e1
      have hsp := last_split hla
      generalize (joinL pre).dropLast = u at *
      rw [hsp] at e1 HI HV HM cV hAr hlen
      obtain ⟨g, rfl, hgz⟩ : ∃ g, A1 = some ⟨g, 0, none⟩ ∧ AreaAt W g (u.length * 6) z := by
        rcases HM.out.2 with ⟨_, h0⟩ | ⟨g, cap, cur, hv, hb, hh, _⟩
        · simp at h0
        · injection hv with h1
          subst h1
          refine ⟨g, rfl, ?_⟩
          rcases hAr with h0 | ⟨b, off, hb', _, hc⟩
          · simp at h0
          · injection hb' with hb'
            injection hb' with hb1 hb2
            subst hb1 hb2
            have := hc u.length (by simp)
            simpa using this
      have X := Lib.hid (goes_any z x)
      have HW := Lib.hid HI.out.bag.bel.size
      have T1 := Lib.hid (fun W2 h => Turn.below (W2 := W2) HI.out HV.out HM.out HRV.out.1 h)
      have FR : Hid (∀ W2, Turn w1 W W2 w1.heap.size Bx [] (u ++ [z]) (.slice (some ⟨g, 0, none⟩) (u ++ [z]).length k1) x → W2.frozen? ⟨g, u.length * 6 + 1, none⟩ = false ∧ AreaAt W2 g (u.length * 6) z) := Lib.hid (fun W2 h => turn_row h)
      obtain ⟨y0, y1, y2, y3, y4, y5⟩ := hgz
      rw [show (u ++ [z]).length = u.length + 1 by simp] at *
      by_cases hgo : GoesA z x
      · rw [if_pos hgo] at e1
        rw [decide_eq_true hgo] at X
        have E1 := Lib.hid e1
        clear hla e1 hAr hsp hgo
        obtain ⟨x0, x1, x2, x3, x4, x5⟩ := x
        obtain ⟨z0, z1, z2, z3, z4, z5⟩ := z
        simp only [Ar.v] at c0 c1 c2 c3 c4 c5 y0 y1 y2 y3 y4 y5 X ⊢
        gi_wp2_with fail
        gi_region_with_o (gi_at_call 56; refine (CallsIn.inRound l2 (callsIn_wide.2 (X.out _))).mono ?_; rintro e W2 ⟨rfl, hb2⟩)
        all_goals (
          have TT := Lib.hid (T1.out W2 (below_of_drew hb2))
          clear c0 c1 c2 c3 c4 c5 cV y0 y1 y2 y3 y4 y5 hb2
          obtain ⟨d0, d1, d2, d3, d4, d5⟩ := TT.out.fx.cs
          have dV := TT.out.fv.cell 0
          simp at dV
          simp only at d0 d1 d2 d3 d4 d5
          obtain ⟨fr, ⟨y0, y1, y2, y3, y4, y5⟩⟩ := FR.out W2 TT.out
          simp only at y0 y1 y2 y3 y4 y5
          gi_wp2_with fail
          obtain ⟨g1, g2, g3⟩ := TT.out.end HW.out x1
          exact ⟨g2.from _, g3, (show Going _ _ _ _ _ from (by rw [E1.out]; exact g1))⟩)
      · rw [if_neg hgo] at e1
        rw [decide_eq_false hgo] at X
        have E1 := Lib.hid e1
        clear hla e1 hAr hsp hgo
        obtain ⟨x0, x1, x2, x3, x4, x5⟩ := x
        obtain ⟨z0, z1, z2, z3, z4, z5⟩ := z
        simp only [Ar.v] at c0 c1 c2 c3 c4 c5 y0 y1 y2 y3 y4 y5 X ⊢
        gi_wp2_with fail
        gi_region_with_o (gi_at_call 56; refine (CallsIn.inRound l2 (callsIn_wide.2 (X.out _))).mono ?_; rintro e W2 ⟨rfl, hb2⟩)
        all_goals (
          have TT := Lib.hid (T1.out W2 (below_of_drew hb2))
          clear c0 c1 c2 c3 c4 c5 cV y0 y1 y2 y3 y4 y5 hb2
          obtain ⟨d0, d1, d2, d3, d4, d5⟩ := TT.out.fx.cs
          have dV := TT.out.fv.cell 0
          simp at dV
          simp only at d0 d1 d2 d3 d4 d5
          have MM : Hid (W2.ownsRow w1.heap.size 52 6 (.slice (some ⟨g, 0, none⟩) (u.length + 1) k1) (u.length + 1) (cls (u ++ [⟨z0, z1, z2, z3, z4, z5⟩]))) := Lib.hid (by have := TT.out.fm; unfold Mine at this; rwa [List.length_append] at this)
          gi_wp2_with (gi_at_builtin; refine wpListIn_append_own _ rfl (.tmp 30) (.tmp 32) _ rfl w1.heap.size 52 i0 _ 6 48 Tryz.underlying24 HI0.out H0.out H1.out H2.out rfl (by omega) _ (u.length + 1) _ rfl (World.ownsRow.alloc MM.out _) ⟨W2.heap.size, 0, none⟩ 1 1 (Ar.cl ⟨x0, x1, x2, x3, x4, x5⟩) rfl rfl (new6 W2 ⟨x0, x1, x2, x3, x4, x5⟩ 52) (cl_one _) (by simp only [maxLen]; omega) (by omega) (by have := TT.out.g.bag.bel.size; simp only [World.size_alloc] at *; omega) ?_; intro v' W3 hown' hg' _hnil; obtain ⟨A2, k2, rfl⟩ := own_slice hown'; have N := Lib.hid (TT.out.put HW.out (only_grown ((Only.refl _ _).alloc _) hg' (fun k hk => hk)) (mine_more (l := (u ++ [⟨z0, z1, z2, z3, z4, z5⟩])) (l' := [⟨x0, x1, x2, x3, x4, x5⟩]) rfl (by rw [cls_single, List.length_append]; exact hown'))); clear hown' hg' _hnil d0 d1 d2 d3 d4 d5 dV; have dV := N.out.1.cell 0; have fV := N.out.1.frozen 0; simp at dV)
          exact ⟨N.out.2.2.1.from _, N.out.2.2.2, (show Going _ _ _ _ _ from (by rw [E1.out]; exact N.out.2.1))⟩)
  case done =>
    rintro D ys W hD rfl hI hK
    obtain ⟨v, hv, hm⟩ := hI.out
    obtain ⟨A1, c1, rfl⟩ := hm.is
    have cV := hv.cell 0
    simp at cV
    gi_wp2
    refine ⟨by simp, .inl ⟨_, _, rfl, run_takeDeferred hK, ?_⟩⟩
    refine ⟨_, results_tmp rfl _ _ _, ?_⟩
    have hb := hI.bag.bel.trans (belowK_b (w := w1) (Nat.le_refl _) W D (.deferred (some [])) (.deferred none) (by omega) hK rfl rfl)
    exact ⟨_, _, rfl, HP.out, HS.out, Mine.base (ownsRow_putObj hm _ hK rfl) HO.out.size, HO.out.trans ((Only.of_below hb _).mono (fun _ _ h => h))⟩
  case stop =>
    rintro D c pre W _ _ h _
    exact h.elim
end Go.Proofs.YtholpgcghpikgaaGreat

/-
  Layer 7: Cut, Put, Pages: a contract for each call.
-/
namespace Go.Proofs.YtholpgcghpikgaaGreat
open Go.ChangeShapes Go.WideShapes Go.ChangeAt Go.RowKit Go.Shelf
set_option linter.unusedVariables false
attribute [local go_sem ↓] Go.wp_at_zero Go.wp_at_succ

set_option maxHeartbeats 1000000 in
theorem cut_any (A : Option Addr) (l : List Ar) (cap : Nat) (lo hi : Int) (hl : l.length ≤ 10000) (hr : RightL l) (w : World) (hA : Areas w.heap.size w A l) :
    Calls Tryz.prog 43 #[.slice A l.length cap, .int .i64 lo, .int .i64 hi] w fun e w' => ∃ v, e = .returned v ∧ Mine w.heap.size w' v (outsideL lo hi l) ∧ Below w.heap.size w w' := by
  have X := Lib.hid (right_any A l cap (by omega) w hA)
  rw [decide_eq_true hr] at X
  have Y := Lib.hid (fun w1 h => outside_any A l cap lo hi hl w1 h)
  have HA := Lib.hid hA
  clear hr hA
  generalize l.length = n at *
  go_enter Tryz.func43, Tryz.ntmps43
  go_wp2_with fail
  refine X.out.mono ?_
  rintro e w1 ⟨rfl, hb1⟩
  have B1 := Lib.hid hb1
  have A1 := Lib.hid ((HA.out.below hb1).mono hb1.size)
  clear hb1
  go_wp2_with fail
  refine (Y.out w1 A1.out).mono ?_
  rintro e w2 ⟨v, rfl, hm, hb2⟩
  have HM := Lib.hid hm
  have B2 := Lib.hid hb2
  clear hm hb2
  go_wp2_with fail
  go_ret
  exact ⟨v, rfl, HM.out.base B1.out.size, below_then B1.out B2.out (Nat.le_refl _)⟩

set_option maxHeartbeats 1000000 in
theorem cut_no (A : Option Addr) (l : List Ar) (cap : Nat) (lo hi : Int) (hl : l.length ≤ 10000) (hr : ¬ RightL l) (w : World) (hA : Areas w.heap.size w A l) :
    Calls Tryz.prog 43 #[.slice A l.length cap, .int .i64 lo, .int .i64 hi] w fun e w' => e = .returned (.slice none 0 0) ∧ Below w.heap.size w w' := by
  have X := Lib.hid (right_any A l cap (by omega) w hA)
  rw [decide_eq_false hr] at X
  clear hr hA
  generalize l.length = n at *
  go_enter Tryz.func43, Tryz.ntmps43
  go_wp2_with fail
  refine X.out.mono ?_
  rintro e w1 ⟨rfl, hb1⟩
  have B1 := Lib.hid hb1
  clear hb1
  go_wp2_with fail
  go_ret
  exact ⟨rfl, B1.out⟩

set_option maxHeartbeats 1000000 in
theorem within_no (A : Option Addr) (l : List Ar) (cap : Nat) (lo hi : Int) (hl : l.length ≤ 10000) (hr : ¬ RightL l) (w : World) (hA : Areas w.heap.size w A l) :
    Calls Tryz.prog 105 #[.slice A l.length cap, .int .i64 lo, .int .i64 hi] w fun e w' => e = .returned (.slice none 0 0) ∧ Below w.heap.size w w' := by
  have X := Lib.hid (right_any A l cap (by omega) w hA)
  rw [decide_eq_false hr] at X
  clear hr hA
  generalize l.length = n at *
  go_enter Tryz.func105, Tryz.ntmps105
  go_wp2_with fail
  refine X.out.mono ?_
  rintro e w1 ⟨rfl, hb1⟩
  have B1 := Lib.hid hb1
  clear hb1
  go_wp2_with fail
  go_ret
  exact ⟨rfl, B1.out⟩

set_option maxHeartbeats 1000000 in
theorem covered_no (A : Option Addr) (l : List Ar) (cap : Nat) (lo hi : Int) (hl : l.length ≤ 10000) (hr : ¬ RightL l) (w : World) (hA : Areas w.heap.size w A l) :
    Calls Tryz.prog 116 #[.slice A l.length cap, .int .i64 lo, .int .i64 hi] w fun e w' => e = .returned (.bool false) ∧ Below w.heap.size w w' := by
  have X := Lib.hid (within_no A l cap lo hi hl hr w hA)
  clear hr hA
  generalize l.length = n at *
  go_enter Tryz.func116, Tryz.ntmps116
  go_wp2_with fail
  refine X.out.mono ?_
  rintro e w1 ⟨rfl, hb1⟩
  have B1 := Lib.hid hb1
  clear hb1
  go_wp2_with fail
  go_ret
  exact ⟨rfl, B1.out⟩

set_option maxHeartbeats 1000000 in
theorem find_no (A : Option Addr) (l : List Ar) (cap : Nat) (x : Int) (hl : l.length ≤ 10000) (hr : ¬ RightL l) (w : World) (hA : Areas w.heap.size w A l) :
    Calls Tryz.prog 49 #[.slice A l.length cap, .int .i64 x] w fun e w' => e = .returned (.tuple #[Ar.nil.v, .bool false]) ∧ Below w.heap.size w w' := by
  have X := Lib.hid (fun w1 h => right_any A l cap (by omega) w1 h)
  rw [decide_eq_false hr] at X
  have HA := Lib.hid hA
  clear hr hA
  generalize l.length = n at *
  go_enter Tryz.func49, Tryz.ntmps49
  go_wp2_with fail
  have bg := Bag.two w 2 52 #[.int .i64 x] Ar.nil.cells
  have G0 := Lib.hid bg
  refine (X.out _ ((HA.out.below bg.bel).mono bg.bel.size)).mono ?_
  rintro e w1 ⟨rfl, hb1⟩
  have G1 := Lib.hid (G0.out.still hb1)
  clear hb1 bg G0
  obtain ⟨d0, d1, d2, d3, d4, d5, f0, f1, f2, f3, f4, f5⟩ := cs6 G1.out.v0
  go_wp2_with fail
  refine bodyPost_ret (results_row_tmp rfl _ _ (w.heap.size + 1) 52 _ (0, 0) _ rfl (put6 G1.out.v0 _ _ _ _ _ _) Tryz.underlying52 rfl (by kernel_rfl)) rfl ?_
  exact ⟨rfl, below6 G1.out.bel (by omega) _ _ _ _ _ _⟩

set_option maxHeartbeats 1000000 in
theorem put_no (A : Option Addr) (l : List Ar) (cap : Nat) (a : Ar) (hl : l.length ≤ 10000) (hr : ¬ (RightL l ∧ Formed a)) (w : World) (hA : Areas w.heap.size w A l) :
    Calls Tryz.prog 39 #[.slice A l.length cap, a.v] w fun e w' => e = .returned (.slice none 0 0) ∧ Below w.heap.size w w' := by
  have X := Lib.hid (fun w1 h => right_any A l cap (by omega) w1 h)
  have Y := Lib.hid (formed_any a)
  have HA := Lib.hid hA
  have G0 := Lib.hid ((Bag.new w).add 52 a.cells)
  clear hA
  by_cases h1 : RightL l
  · rw [decide_eq_true h1] at X
    rw [decide_eq_false (fun h => hr ⟨h1, h⟩)] at Y
    clear hr h1
    generalize l.length = n at *
    obtain ⟨a0, a1, a2, a3, a4, a5⟩ := a
    simp only [Ar.v, Ar.cells] at Y G0 ⊢
    go_enter Tryz.func39, Tryz.ntmps39
    go_wp2_with fail
    refine (X.out _ ((HA.out.below G0.out.bel).mono G0.out.bel.size)).mono ?_
    rintro e w1 ⟨rfl, hb1⟩
    have G1 := Lib.hid (G0.out.still hb1)
    clear hb1 G0
    obtain ⟨d0, d1, d2, d3, d4, d5⟩ := row6 G1.out.v0
    go_wp2_with fail
    refine (Y.out _).mono ?_
    rintro e w2 ⟨rfl, hb2⟩
    have B2 := Lib.hid (G1.out.still hb2).bel
    clear hb2 d0 d1 d2 d3 d4 d5
    go_wp2_with fail
    go_ret
    exact ⟨rfl, B2.out⟩
  · rw [decide_eq_false h1] at X
    clear hr h1
    generalize l.length = n at *
    obtain ⟨a0, a1, a2, a3, a4, a5⟩ := a
    simp only [Ar.v, Ar.cells] at Y G0 ⊢
    go_enter Tryz.func39, Tryz.ntmps39
    go_wp2_with fail
    refine (X.out _ ((HA.out.below G0.out.bel).mono G0.out.bel.size)).mono ?_
    rintro e w1 ⟨rfl, hb1⟩
    have B1 := Lib.hid (G0.out.still hb1).bel
    clear hb1 G0
    go_wp2_with fail
    go_ret
    exact ⟨rfl, B1.out⟩

/-- What is put lies in a list. -/
def PutIn (l : List Ar) (a : Ar) (y : List Ar) : Prop := RightL y ∧ ∀ p, tab y p = if Cov a p then some (a.at p) else tab l p
/-- joined, of a row whose length is spelt otherwise. -/
theorem joined_row (B : Nat) (A : Option Addr) (n c : Nat) (l : List Ar) (w : World) (hn : n = l.length) (hm : Mine B w (.slice A n c) l) (hl : l.length ≤ 50000) :
    Calls Tryz.prog 77 #[.slice A n c] w fun e w' => ∃ v l', e = .returned v ∧ l.Perm l' ∧ l'.Pairwise (fun a b => a.s ≤ b.s) ∧ Mine w.heap.size w' v (joinL l') ∧ Only (fun k => (Value.slice A n c).ownBlock = some k) w w' := by
  subst hn; exact joined_any B A c l w hm hl

theorem put_below {w2 w4 w5 : World} {v : Value} {l : List Ar} (h : Below w2.heap.size w2 w4) (hm : Mine w2.heap.size w4 v l) (ho : Only (fun k => v.ownBlock = some k) w4 w5) : Below w2.heap.size w2 w5 :=
  h.trans (ho.below (fun k hk => (hm.lt k hk).1) h.size)

set_option maxRecDepth 4000 in
set_option maxHeartbeats 4000000 in
theorem put_any (A : Option Addr) (l : List Ar) (cap : Nat) (a : Ar) (hr : RightL l) (hf : Formed a) (w : World) (hA : Areas w.heap.size w A l) :
    Calls Tryz.prog 39 #[.slice A l.length cap, a.v] w fun e w' => ∃ v y, e = .returned v ∧ Mine w.heap.size w' v y ∧ PutIn l a y ∧ Below w.heap.size w w' := by
  have hl := right_len hr
  have X := Lib.hid (fun w1 h => right_any A l cap (by omega) w1 h)
  have Y := Lib.hid (formed_any a)
  have XO := Lib.hid (fun w1 h => outside_any A l cap a.s a.e (by omega) w1 h)
  have HA := Lib.hid hA
  have G0 := Lib.hid ((Bag.new w).add 52 a.cells)
  have HP := Lib.hid (put_apart hr hf)
  have hlo := outside_len a.s a.e l
  rw [decide_eq_true hr] at X
  rw [decide_eq_true hf] at Y
  have HRR := Lib.hid hr
  have HFF := Lib.hid hf
  clear hA hr hf
  obtain ⟨i0, hi0, hz0, hz1, hz2⟩ := info_parts area_info
  have HI0 : Hid (Tryz.prog.info? 52 = some i0) := Lib.hid hi0
  have H0 : Hid (i0.zero = some Ar.nil.v) := Lib.hid hz0
  have H1 : Hid (i0.size = 6) := Lib.hid hz1
  have H2 : Hid (i0.bytes = 48) := Lib.hid hz2
  clear hi0 hz0 hz1 hz2
  have HN : Hid (outsideL a.s a.e l = outsideL a.s a.e l) := Lib.hid rfl
  generalize hout : outsideL a.s a.e l = out at *
  have HOUT := Lib.hid hout
  clear hout HN
  have hln : l.length ≤ 496 := hl
  have HLL := Lib.hid hl
  have hlo2 : out.length ≤ 992 := by omega
  clear hl hlo
  generalize l.length = n at *
  obtain ⟨a0, a1, a2, a3, a4, a5⟩ := a
  simp only [Ar.v, Ar.cells] at Y G0 XO ⊢
  go_enter Tryz.func39, Tryz.ntmps39
  go_wp2_with fail
  refine (X.out _ ((HA.out.below G0.out.bel).mono G0.out.bel.size)).mono ?_
  rintro e w1 ⟨rfl, hb1⟩
  have G1 := Lib.hid (G0.out.still hb1)
  clear hb1 G0 X
  obtain ⟨d0, d1, d2, d3, d4, d5⟩ := row6 G1.out.v0
  go_wp2_with fail
  refine (Y.out _).mono ?_
  rintro e w2 ⟨rfl, hb2⟩
  have G2 := Lib.hid (G1.out.still hb2)
  clear hb2 d0 d1 d2 d3 d4 d5 G1 Y
  have HK : Hid (∀ w', Below w2.heap.size w2 w' → (w'.cell? ⟨w.heap.size, 0, none⟩ = some (.int .i64 a0) ∧ w'.cell? ⟨w.heap.size, 1, none⟩ = some (.int .i64 a1) ∧ w'.cell? ⟨w.heap.size, 2, none⟩ = some (.int .i64 a2) ∧ w'.cell? ⟨w.heap.size, 3, none⟩ = some (.bool a3) ∧ w'.cell? ⟨w.heap.size, 4, none⟩ = some (.int .i64 a4) ∧ w'.cell? ⟨w.heap.size, 5, none⟩ = some (.int .i64 a5))) := Lib.hid (fun w' h => row6 (G2.out.still h).v0)
  have AO : Hid (∀ w', Below w2.heap.size w2 w' → Calls Tryz.prog 78 #[.slice A n cap, .int .i64 a0, .int .i64 a1] w' fun e w'' => ∃ v, e = .returned v ∧ Mine w2.heap.size w'' v out ∧ Below w2.heap.size w2 w'' ∧ Below w'.heap.size w' w'') := Lib.hid (fun w' h => (XO.out w' ((HA.out.below (G2.out.still h).bel).mono (G2.out.still h).bel.size)).mono fun e w'' ⟨v, he, hm, hb⟩ => ⟨v, he, hm.base h.size, below_then h hb (Nat.le_refl _), hb⟩)
  clear XO
  have S2 : Hid (w.heap.size < w2.heap.size) := Lib.hid G2.out.v0.lt
  obtain ⟨d0, d1, d2, d3, d4, d5⟩ := HK.out w2 (Below.refl _ _)
  go_wp2_with fail
  clear d0 d1 d2 d3 d4 d5
  go_region_held3 (fun w' => w'.cell? ⟨w.heap.size, 0, none⟩ = some (.int .i64 a0) ∧ w'.cell? ⟨w.heap.size, 1, none⟩ = some (.int .i64 a1) ∧ w'.cell? ⟨w.heap.size, 2, none⟩ = some (.int .i64 a2) ∧ w'.cell? ⟨w.heap.size, 3, none⟩ = some (.bool a3) ∧ w'.cell? ⟨w.heap.size, 4, none⟩ = some (.int .i64 a4) ∧ w'.cell? ⟨w.heap.size, 5, none⟩ = some (.int .i64 a5))
    (first | exact HK.out _ (below_drew (Below.refl _ _)) | exact HK.out _ ((below_drew (Below.refl _ _)).alloc (Nat.le_refl _) _) | exact HK.out _ B5.out | exact HK.out _ B4.out | exact HK.out _ B3.out | exact HK.out _ (B3.out.alloc B3.out.size _))
    (first
    | (go_at_call 78; refine (AO.out _ (by first | exact below_drew (Below.refl _ _) | exact (below_drew (Below.refl _ _)).alloc (Nat.le_refl _) _)).mono ?_; rintro e w3 ⟨v3, rfl, hm3, hb3, hc3⟩; obtain ⟨A3, k3, rfl⟩ := hm3.is; have M3 := Lib.hid hm3; have B3 := Lib.hid hb3; have C3 := Lib.hid hc3; clear hm3 hb3 hc3)
    | (go_at_call 77; refine (joined_row w2.heap.size _ _ _ (out ++ [⟨a0, a1, a2, a3, a4, a5⟩]) _ (by simp) M4.out (by simp; omega)).mono ?_; rintro e w5 ⟨v5, l5, rfl, hp5, hs5, hm5, ho5⟩; have P5 := Lib.hid (joined_perm HP.out.1 HP.out.2.1 hp5 hs5); have M5 := Lib.hid hm5; have B5 := Lib.hid (put_below B4.out M4.out ho5); clear hp5 hs5 hm5 ho5)
    | (refine step_append_lies _ (by rfl) (.tmp 18) (.tmp 20) _ (by rfl) w2.heap.size 52 i0 _ 6 48 Tryz.underlying24 HI0.out H0.out H1.out H2.out rfl (by omega) _ out.length _ (by rfl) (World.ownsRow.alloc M3.out _) ⟨w3.heap.size, 0, none⟩ 1 1 (Ar.cl ⟨a0, a1, a2, a3, a4, a5⟩) (by rfl) rfl (new6 w3 ⟨a0, a1, a2, a3, a4, a5⟩ 52) (cl_one _) (by omega) (by simp only [maxLen]; omega) (by omega) (by have := B3.out.size; simp; omega) (w3.heap.size + 1) (by simp) ?_; intro g4 c4 w4 hown hgrow hat hlt; have M4 := Lib.hid (mine_more (l := out) (l' := [⟨a0, a1, a2, a3, a4, a5⟩]) rfl (by rw [cls_single]; exact hown)); have B4 := Lib.hid ((B3.out.alloc B3.out.size _).grown hgrow (by have := B3.out.size; simp; omega) (fun k hk => (M3.out.lt k hk).1)); clear hown hgrow hat hlt)
    | (refine step_append_lies _ (by rfl) (.tmp 18) (.tmp 20) _ (by rfl) w2.heap.size 52 i0 _ 6 48 Tryz.underlying24 HI0.out H0.out H1.out H2.out rfl (by omega) _ out.length _ (by rfl) M3.out ⟨w2.heap.size, 0, none⟩ 1 1 (Ar.cl ⟨a0, a1, a2, a3, a4, a5⟩) (by rfl) rfl (fun j u hu => (Below.cell C3.out (p := (⟨w2.heap.size, 0, none⟩ : Addr).add j) (by rw [Addr.add_lit]; simp)).trans (new6 w2.drew ⟨a0, a1, a2, a3, a4, a5⟩ 52 j u hu)) (cl_one _) (by omega) (by simp only [maxLen]; omega) (by omega) (by have := B3.out.size; omega) w3.heap.size rfl ?_; intro g4 c4 w4 hown hgrow hat hlt; have M4 := Lib.hid (mine_more (l := out) (l' := [⟨a0, a1, a2, a3, a4, a5⟩]) rfl (by rw [cls_single]; exact hown)); have B4 := Lib.hid (B3.out.grown hgrow (by have := B3.out.size; omega) (fun k hk => (M3.out.lt k hk).1)); clear hown hgrow hat hlt))
  all_goals (
    go_wp2_with fail
    go_ret
    exact ⟨v5, _, rfl, M5.out.base (Nat.le_trans G2.out.bel.size B4.out.size), ⟨P5.out.1, fun p => (P5.out.2 p).trans (HP.out.2.2 p)⟩, below_then G2.out.bel B5.out (Nat.le_refl _)⟩)
end Go.Proofs.YtholpgcghpikgaaGreat

/-
  Layer 7: two lists are the same: a contract for each call, where they are.
-/
namespace Go.Proofs.YtholpgcghpikgaaGreat
open Go.ChangeShapes Go.WideShapes Go.ChangeAt Go.RowKit Go.Shelf
set_option linter.unusedVariables false

theorem area_struct : Tryz.prog.underlying 52 = some (.struct (Tryz.prog.fieldsOf 52)) := by
  unfold Program.fieldsOf
  rw [Tryz.underlying52]
theorem area_held : Tryz.prog.stoodInHeld 52 = false := by kernel_rfl
set_option maxHeartbeats 1000000 in
theorem area_neq (a : Ar) (w : World) : (binOp .neq 52 a.v a.v).run Tryz.prog w = .ok (.bool false) w := by
  obtain ⟨a0, a1, a2, a3, a4, a5⟩ := a
  unfold Ar.v
  rw [run_neq_struct, run_equalIn_struct w 9999 52 _ _ area_struct area_held]
  unfold Program.fieldsOf
  rw [Tryz.underlying52]
  simp [Op.eqFields, Go.part, isAgg, go_sem, run_underlying Tryz.underlying2, run_underlying Tryz.underlying3, run_underlying Tryz.underlying4]
theorem area_guard (op : BinOp) (x y : Operand) (a b : Ar) (w : World) : (eqGuard op 52 x y a.v b.v).run Tryz.prog w = .ok () w := run_eqGuard_agg w op 52 x y _ _ (by kernel_rfl)

set_option maxRecDepth 100000 in
set_option maxHeartbeats 2000000 in
theorem refSame_any (A A' : Option Addr) (c c' : Nat) (l : List Ar) (hl : l.length ≤ 100000) (w : World) (hA : Areas w.heap.size w A l) (hA' : Areas w.heap.size w A' l) :
    Calls Tryz.prog 17 #[.slice A l.length c, .slice A' l.length c'] w fun e w' => e = .returned (.bool true) ∧ Below w.heap.size w w' := by
  have NE := area_neq
  have GD := area_guard
  have HA := Lib.hid hA
  have HA' := Lib.hid hA'
  clear hA hA'
  generalize hL : l.length = len at *
  have HL := Lib.hid hL
  clear hL
  go_enter Tryz.func17, Tryz.ntmps17
  go_wp2_with fail
  go_loopg [5] len (fun g s5 wr => ∃ k q : Nat, k ≤ len ∧ len - k ≤ g ∧ s5 = .int .i64 k ∧ wr = w.drewN q)
  case atStart => exact ⟨0, 0, Nat.zero_le _, by omega, rfl, rfl⟩
  case round =>
    obtain ⟨k, q, hk, hg, rfl, rfl⟩ := hrel
    by_cases hlt : k < len
    · have hltz : (k : Int) < (len : Int) := by omega
      have hz0 : (0 : Int) ≤ (k : Int) := by omega
      have hlk : k < l.length := by rw [HL.out]; exact hlt
      rcases HA.out with hn | ⟨b, off, rfl, hb, hcs⟩
      · rw [hn] at hlk; simp at hlk
      rcases HA'.out with hn | ⟨b', off', rfl, hb', hcs'⟩
      · rw [hn] at hlk; simp at hlk
      obtain ⟨c0, c1, c2, c3, c4, c5⟩ := hcs k hlk
      obtain ⟨d0, d1, d2, d3, d4, d5⟩ := hcs' k hlk
      clear hcs hcs'
      generalize l[k] = x at *
      have NX := NE x
      have GX := fun op y z => GD op y z x x
      obtain ⟨x0, x1, x2, x3, x4, x5⟩ := x
      simp only [Ar.v] at c0 c1 c2 c3 c4 c5 d0 d1 d2 d3 d4 d5 NX GX
      clear NE GD
      go_wp2_with fail
      go_quiet (fail)
      go_wp2_with fail
      go_roundg (len - (k + 1))
      case measure => omega
      case rel => exact ⟨k + 1, q + nq, by omega, by omega, by go_num, rfl⟩
    · obtain rfl : k = len := by omega
      go_wp2_with fail
      go_ret
      exact ⟨rfl, below_drewN (Below.refl _ _) q⟩

set_option maxRecDepth 100000 in
set_option maxHeartbeats 2000000 in
theorem equal_any (A A' : Option Addr) (c c' : Nat) (l : List Ar) (hl : l.length ≤ 100000) (w : World) (hA : Areas w.heap.size w A l) (hA' : Areas w.heap.size w A' l) :
    Calls Tryz.prog 25 #[.slice A l.length c, .slice A' l.length c'] w fun e w' => e = .returned (.bool true) ∧ Below w.heap.size w w' := by
  have NE := area_neq
  have GD := area_guard
  have HA := Lib.hid hA
  have HA' := Lib.hid hA'
  clear hA hA'
  generalize hL : l.length = len at *
  have HL := Lib.hid hL
  clear hL
  go_enter Tryz.func25, Tryz.ntmps25
  go_wp2_with fail
  go_loopg [5, 13] len (fun g _ s5 wr => ∃ k q : Nat, k ≤ len ∧ len - k ≤ g ∧ s5 = .int .i64 k ∧ wr = w.drewN q)
  case atStart => exact ⟨0, 0, Nat.zero_le _, by omega, rfl, rfl⟩
  case round =>
    obtain ⟨k, q, hk, hg, rfl, rfl⟩ := hrel
    by_cases hlt : k < len
    · have hltz : (k : Int) < (len : Int) := by omega
      have hz0 : (0 : Int) ≤ (k : Int) := by omega
      have hlk : k < l.length := by rw [HL.out]; exact hlt
      rcases HA.out with hn | ⟨b, off, rfl, hb, hcs⟩
      · rw [hn] at hlk; simp at hlk
      rcases HA'.out with hn | ⟨b', off', rfl, hb', hcs'⟩
      · rw [hn] at hlk; simp at hlk
      obtain ⟨c0, c1, c2, c3, c4, c5⟩ := hcs k hlk
      obtain ⟨d0, d1, d2, d3, d4, d5⟩ := hcs' k hlk
      clear hcs hcs'
      generalize l[k] = x at *
      have NX := NE x
      have GX := fun op y z => GD op y z x x
      obtain ⟨x0, x1, x2, x3, x4, x5⟩ := x
      simp only [Ar.v] at c0 c1 c2 c3 c4 c5 d0 d1 d2 d3 d4 d5 NX GX
      clear NE GD
      go_wp2_with fail
      go_quiet (fail)
      go_wp2_with fail
      go_roundg (len - (k + 1))
      case measure => omega
      case rel => exact ⟨k + 1, q + nq, by omega, by omega, by go_num, rfl⟩
    · obtain rfl : k = len := by omega
      go_wp2_with fail
      go_ret
      exact ⟨rfl, below_drewN (Below.refl _ _) q⟩

end Go.Proofs.YtholpgcghpikgaaGreat

/-
  Layer 7: the pages of a space, as the reference has them: cells, and what is laid into them.
-/
namespace Go.Proofs.YtholpgcghpikgaaGreat
open Go.ChangeShapes Go.WideShapes Go.ChangeAt Go.RowKit Go.Shelf
set_option linter.unusedVariables false

/-- What each page has. -/
abbrev Sp := Nat → Option At
def pgc : Option At → List Value
  | none => [.bool false, .int .i64 0, .bool false, .int .i64 0, .int .i64 0]
  | some x => [.bool true, .int .i64 x.p, .bool x.sh, .int .i64 x.bk, .int .i64 x.off]
theorem pgc_len (o : Option At) : (pgc o).length = 5 := by cases o <;> rfl
def spl (s : Sp) (n : Nat) : List Value := (List.range n).flatMap (fun p => pgc (s p))
theorem spl_succ (s : Sp) (n : Nat) : spl s (n + 1) = spl s n ++ pgc (s n) := by simp [spl, List.range_succ]
theorem spl_len (s : Sp) (n : Nat) : (spl s n).length = n * 5 := by
  induction n with
  | zero => rfl
  | succ n ih => rw [spl_succ, List.length_append, ih, pgc_len]; omega
theorem spl_at (s : Sp) : ∀ (n p : Nat) (h : p < n) (j : Nat), j < 5 → (spl s n)[p * 5 + j]? = (pgc (s p))[j]?
  | n + 1, p, h, j, hj => by
    rw [spl_succ]
    by_cases hp : p < n
    · rw [List.getElem?_append_left (by rw [spl_len]; omega), spl_at s n p hp j hj]
    · obtain rfl : p = n := by omega
      rw [List.getElem?_append_right (by rw [spl_len]; omega), spl_len]
      congr 1; omega
theorem spl_same {s s' : Sp} {n : Nat} (h : ∀ p, p < n → s p = s' p) : spl s n = spl s' n := by
  induction n with
  | zero => rfl
  | succ n ih => rw [spl_succ, spl_succ, ih (fun p hp => h p (by omega)), h n (by omega)]
/-- A page of it is otherwise. -/
def Sp.put (s : Sp) (p : Nat) (o : Option At) : Sp := fun q => if q = p then o else s q
theorem spl_put (s : Sp) (n p : Nat) (o : Option At) (h : p < n) : spl (s.put p o) n = (spl s n).take (p * 5) ++ (pgc o ++ (spl s n).drop (p * 5 + 5)) := by
  apply List.ext_getElem?
  intro i
  by_cases hi : i < n * 5
  · have e1 := spl_at (s.put p o) n (i / 5) (by omega) (i % 5) (by omega)
    have e2 := spl_at s n (i / 5) (by omega) (i % 5) (by omega)
    rw [show i / 5 * 5 + i % 5 = i by omega] at e1 e2
    rw [e1]
    rcases Nat.lt_trichotomy (i / 5) p with h1 | h1 | h1
    · rw [List.getElem?_append_left (by rw [List.length_take, spl_len]; omega), List.getElem?_take_of_lt (by omega), e2, Sp.put, if_neg (by omega)]
    · rw [List.getElem?_append_right (by rw [List.length_take, spl_len]; omega), List.length_take, spl_len, List.getElem?_append_left (by rw [pgc_len]; omega), Sp.put, if_pos h1]
      congr 1; omega
    · rw [List.getElem?_append_right (by rw [List.length_take, spl_len]; omega), List.length_take, spl_len, List.getElem?_append_right (by rw [pgc_len]; omega), pgc_len, List.getElem?_drop, Sp.put, if_neg (by omega), ← e2]
      congr 1; omega
  · rw [List.getElem?_eq_none (by rw [spl_len]; omega), List.getElem?_eq_none]
    simp only [List.length_append, List.length_take, List.length_drop, spl_len, pgc_len]; omega
def spc (s : Sp) : Array Value := (spl s 512).toArray
theorem spc_size (s : Sp) : (spc s).size = 2560 := by simp [spc, spl_len]
theorem spc_at (s : Sp) (p j : Nat) (h : p < 512) (hj : j < 5) : (spc s)[p * 5 + j]? = (pgc (s p))[j]? := by
  rw [← spl_at s 512 p h j hj]; simp [spc]
theorem spc_same {s s' : Sp} (h : ∀ p, p < 512 → s p = s' p) : spc s = spc s' := by unfold spc; rw [spl_same h]
theorem zero_spc : Tryz.zeroCells97 = spc (fun _ => none) := by kernel_rfl
theorem list5 {α : Type} (l : List α) (i : Nat) (a b c d e : α) (h : i + 5 ≤ l.length) : ((((l.set i a).set (i + 1) b).set (i + 2) c).set (i + 3) d).set (i + 4) e = l.take i ++ ([a, b, c, d, e] ++ l.drop (i + 5)) := by
  apply List.ext_getElem?
  intro k
  simp only [List.getElem?_set, List.length_set]
  by_cases h1 : k < i
  · rw [List.getElem?_append_left (by rw [List.length_take]; omega), List.getElem?_take_of_lt h1]
    simp [show i + 4 ≠ k by omega, show i + 3 ≠ k by omega, show i + 2 ≠ k by omega, show i + 1 ≠ k by omega, show i ≠ k by omega]
  · rw [List.getElem?_append_right (by rw [List.length_take]; omega), List.length_take, Nat.min_eq_left (by omega)]
    by_cases h2 : k < i + 5
    · rcases (show k = i ∨ k = i + 1 ∨ k = i + 2 ∨ k = i + 3 ∨ k = i + 4 by omega) with rfl | rfl | rfl | rfl | rfl
      all_goals (simp; try omega)
    · rw [List.getElem?_append_right (by simp; omega), List.getElem?_drop]
      simp [show i + 4 ≠ k by omega, show i + 3 ≠ k by omega, show i + 2 ≠ k by omega, show i + 1 ≠ k by omega, show i ≠ k by omega]
      congr 1; omega
/-- A block that holds a space. -/
def SpIn (w : World) (q : Nat) (s : Sp) : Prop := Whole w q 97 (spc s)
theorem SpIn.cells {w : World} {q : Nat} {s : Sp} (h : SpIn w q s) {p : Nat} (hp : p < 512) : ∀ j, j < 5 → w.cell? ⟨q, p * 5 + j, none⟩ = (pgc (s p))[j]? := fun j hj => by
  rw [Whole.cell h, spc_at s p j hp hj]
theorem SpIn.put {w : World} {q : Nat} {s : Sp} (h : SpIn w q s) {p : Nat} (hp : p < 512) (x : At) :
    SpIn (((((w.setCell ⟨q, p * 5, none⟩ (.bool true)).setCell ⟨q, p * 5 + 1, none⟩ (.int .i64 x.p)).setCell ⟨q, p * 5 + 2, none⟩ (.bool x.sh)).setCell ⟨q, p * 5 + 3, none⟩ (.int .i64 x.bk)).setCell ⟨q, p * 5 + 4, none⟩ (.int .i64 x.off)) q (s.put p (some x)) := by
  have := ((((Whole.put h (p * 5) (.bool true)).put (p * 5 + 1) (.int .i64 x.p)).put (p * 5 + 2) (.bool x.sh)).put (p * 5 + 3) (.int .i64 x.bk)).put (p * 5 + 4) (.int .i64 x.off)
  unfold SpIn
  have e : spc (s.put p (some x)) = (((((spc s).setIfInBounds (p * 5) (.bool true)).setIfInBounds (p * 5 + 1) (.int .i64 x.p)).setIfInBounds (p * 5 + 2) (.bool x.sh)).setIfInBounds (p * 5 + 3) (.int .i64 x.bk)).setIfInBounds (p * 5 + 4) (.int .i64 x.off) := by
    unfold spc
    simp only [List.setIfInBounds_toArray]
    rw [list5 _ _ _ _ _ _ _ (by rw [spl_len]; omega), spl_put _ _ _ _ hp]
    rfl
  rw [e]; exact this

/-! A space as one value. -/
theorem whole_many {w : World} {q : Nat} {t : TypeId} : ∀ (vs : List Value) (o : Nat) (w : World) (cs : Array Value), Whole w q t cs → Whole (w.setCells q o vs) q t (Go.Sort.setMany cs o vs)
  | [], _, _, _, h => h
  | v :: r, o, w, cs, h => by
    rw [World.setCells, Go.Sort.setMany]
    exact whole_many (w := w) r (o + 1) _ _ (h.put o v)
theorem many_all {cs : Array Value} {vs : List Value} (h : vs.length = cs.size) : Go.Sort.setMany cs 0 vs = vs.toArray := by
  refine Go.Sort.ext_get! (by simp [h]) fun t ht => ?_
  rw [Go.Sort.size_setMany] at ht
  rw [Go.Sort.get_setMany _ _ _ _ ht, if_pos (by omega)]
  simp
theorem only_many {q : Nat} : ∀ (vs : List Value) (o : Nat) (w : World), Only (fun k => k = q) w (w.setCells q o vs)
  | [], _, w => Only.refl _ _
  | v :: r, o, w => by
    rw [World.setCells]
    exact ((Only.refl (fun k => k = q) w).setCell (p := ⟨q, o, none⟩) (.inl rfl) v).trans (only_many r (o + 1) _)
section
variable {w : World} {q : Nat} {s s' : Sp}
theorem SpIn.range (h : SpIn w q s) : w.rangeAt q 0 (spl s 512) := fun j v hv => by
  rw [Nat.zero_add, Whole.cell h]; simpa [spc] using hv
theorem SpIn.there (h : SpIn w q s) : w.there q 0 (spl s' 512).toArray.size := fun j hj => by
  rw [Nat.zero_add]
  refine ⟨?_, Whole.frozen h _⟩
  rw [Whole.cell h, Array.getElem?_eq_getElem (by rw [spc_size]; simp [spl_len] at hj; omega)]
  rfl
theorem SpIn.all (h : SpIn w q s) : SpIn (w.setCells q 0 (spl s' 512)) q s' := by
  have := whole_many (w := w) (spl s' 512) 0 w _ h
  rw [many_all (by rw [spl_len, spc_size])] at this
  exact this
end
theorem pgc_one (o : Option At) : ∀ u ∈ pgc o, u.oneCell' = true := by
  intro u hu
  cases o with
  | none => simp [pgc] at hu; rcases hu with rfl | rfl | rfl | rfl | rfl <;> rfl
  | some x => simp [pgc] at hu; rcases hu with rfl | rfl | rfl | rfl | rfl <;> rfl
theorem spl_one (s : Sp) (n : Nat) : (spl s n).toArray.all (·.oneCell') = true := all_oneCell_toArray (fun v hv => by
  obtain ⟨p, _, hv⟩ := List.mem_flatMap.1 hv
  exact pgc_one _ v hv)
theorem space_size (s : Sp) : (Tryz.prog.info? 97).map (·.size) = some (spl s 512).length := by rw [spl_len]; kernel_rfl
theorem space_size' (s : Sp) : (Tryz.prog.info? 97).map (·.size) = some (spl s 512).toArray.size := by rw [List.size_toArray]; exact space_size s

theorem SpIn.five {w : World} {q : Nat} {s : Sp} (h : SpIn w q s) {p : Nat} (hp : p < 512) (hz : s p = none) : (w.cell? ⟨q, p * 5, none⟩ = some (.bool false) ∧ w.cell? ⟨q, p * 5 + 1, none⟩ = some (.int .i64 0) ∧ w.cell? ⟨q, p * 5 + 2, none⟩ = some (.bool false) ∧ w.cell? ⟨q, p * 5 + 3, none⟩ = some (.int .i64 0) ∧ w.cell? ⟨q, p * 5 + 4, none⟩ = some (.int .i64 0)) ∧ ∀ i, w.frozen? ⟨q, i, none⟩ = false := by
  have c := fun j hj => h.cells hp j hj
  rw [hz] at c
  exact ⟨⟨c 0 (by omega), c 1 (by omega), c 2 (by omega), c 3 (by omega), c 4 (by omega)⟩, Whole.frozen h⟩

/-- The pages of an area, ahead of one. -/
def spTo (a : Ar) (n : Nat) : Sp := fun p => if Cov a p ∧ p < n then some (a.at p) else none
def spA (a : Ar) : Sp := fun p => if Cov a p then some (a.at p) else none
/-- What Of has: its answer's block, and its own. -/
structure OfAt (w wr : World) (s : Sp) : Prop where
  z : SpIn wr w.heap.size (fun _ => none)
  s : SpIn wr (w.heap.size + 1) s
  bel : Below w.heap.size w wr
theorem OfAt.new (w : World) : OfAt w ((w.alloc (.cells Tryz.zeroCells97 97)).alloc (.cells Tryz.zeroCells97 97)) (fun _ => none) := by
  rw [zero_spc]
  refine ⟨(Whole.new w _ _).alloc _, ?_, below_new2 _ _ _⟩
  have := Whole.new (w.alloc (.cells (spc (fun _ => none)) 97)) 97 (spc (fun _ => none))
  rwa [World.size_alloc] at this
theorem OfAt.still {w wr w' : World} {s : Sp} (h : OfAt w wr s) (hb : Below wr.heap.size wr w') : OfAt w w' s :=
  ⟨Whole.below h.z hb (Whole.lt h.z), Whole.below h.s hb (Whole.lt h.s), h.bel.trans (hb.mono h.bel.size)⟩
theorem OfAt.put {w wr : World} {s : Sp} (h : OfAt w wr s) {p : Nat} (hp : p < 512) (x : At) :
    OfAt w (((((wr.setCell ⟨w.heap.size + 1, p * 5, none⟩ (.bool true)).setCell ⟨w.heap.size + 1, p * 5 + 1, none⟩ (.int .i64 x.p)).setCell ⟨w.heap.size + 1, p * 5 + 2, none⟩ (.bool x.sh)).setCell ⟨w.heap.size + 1, p * 5 + 3, none⟩ (.int .i64 x.bk)).setCell ⟨w.heap.size + 1, p * 5 + 4, none⟩ (.int .i64 x.off)) (s.put p (some x)) := by
  refine ⟨?_, h.s.put hp x, ?_⟩
  · exact Whole.far (Whole.far (Whole.far (Whole.far (Whole.far h.z (by simp) _) (by simp) _) (by simp) _) (by simp) _) (by simp) _
  · exact ((((h.bel.setCell (by simp) _).setCell (by simp) _).setCell (by simp) _).setCell (by simp) _).setCell (by simp) _
theorem spTo_put (a : Ar) (n : Nat) (hc : Cov a n) : (spTo a n).put n (some (a.at n)) = spTo a (n + 1) := by
  funext p
  unfold Sp.put spTo
  by_cases hp : p = n
  · subst hp; rw [if_pos rfl, if_pos ⟨hc, by omega⟩]
  · rw [if_neg hp]
    by_cases h1 : Cov a p ∧ p < n
    · rw [if_pos h1, if_pos ⟨h1.1, by omega⟩]
    · rw [if_neg h1, if_neg (fun h => h1 ⟨h.1, by omega⟩)]

set_option maxHeartbeats 4000000 in
theorem of_any (a : Ar) (hf : Formed a) (b off c : Nat) (w : World) (hb : b < w.heap.size) (hA : AreaAt w b off a) :
    Calls Tryz.prog 63 #[.slice (some ⟨b, off, none⟩) 1 c] w fun e w' => e = .returned (.agg (spc (spA a))) ∧ Below w.heap.size w w' := by
  have hn := formed_num hf
  obtain ⟨m0, hm0⟩ : ∃ m0 : Nat, a.s = 4096 * (m0 : Int) := ⟨(a.s / 4096).toNat, by omega⟩
  obtain ⟨m1, hm1⟩ : ∃ m1 : Nat, a.e = 4096 * (m1 : Int) := ⟨(a.e / 4096).toNat, by omega⟩
  have O0 := Lib.hid (OfAt.new w)
  have HA := Lib.hid hA
  have X := Lib.hid (fun (n : Nat) (h1 : m0 ≤ n) (h2 : n < m1) => refAttr_in a n (by omega) (by omega) (by omega) (by omega) (by omega) (by omega))
  have q0 : a.s.tdiv 4096 = (m0 : Int) := by rw [tdiv_up (by omega)]; omega
  have q1 : a.e.tdiv 4096 = (m1 : Int) := by rw [tdiv_up (by omega)]; omega
  have hmm : 16 ≤ m0 ∧ m0 < m1 ∧ m1 ≤ 512 := by omega
  have HC : Hid (∀ n : Nat, m0 ≤ n → n < m1 → Cov a n) := Lib.hid (fun n h1 h2 => by unfold Cov; omega)
  have HS0 : Hid (spTo a m0 = fun _ => none) := Lib.hid (by funext p; unfold spTo Cov; rw [if_neg (by omega)])
  have HS1 : Hid (spTo a m1 = spA a) := Lib.hid (by
    funext p
    unfold spTo spA
    by_cases h : Cov a p
    · rw [if_pos ⟨h, by unfold Cov at h; omega⟩, if_pos h]
    · rw [if_neg (fun k => h k.1), if_neg h])
  clear hf hn hm0 hm1 hA
  go_enter Tryz.func63, Tryz.ntmps63
  go_wp2_with fail
  generalize (w.alloc _).alloc _ = W0 at *
  go_loopg [4, 5, 6, 7] 1 (fun g s4 _ _ _ wr => ∃ k : Nat, k ≤ 1 ∧ 1 - k ≤ g ∧ s4 = .int .i64 k ∧ Hid (OfAt w wr (if k = 0 then fun _ => none else spA a)))
  case atStart => exact ⟨0, by omega, by omega, rfl, O0⟩
  case round =>
    obtain ⟨k, hk, hg, rfl, HO⟩ := hrel
    by_cases hlt : k < 1
    · obtain rfl : k = 0 := by omega
      obtain ⟨c0, c1, c2, c3, c4, c5⟩ := HA.out.below HO.out.bel hb
      simp only [if_true] at HO
      go_wp2_with fail
      go_loopg [5, 6, 7] (m1 - m0) (fun g s5 _ _ wr => ∃ n : Nat, m0 ≤ n ∧ n ≤ m1 ∧ m1 - n ≤ g ∧ s5 = .int .i64 n ∧ Hid (OfAt w wr (spTo a n)))
      case atStart => exact ⟨m0, by omega, by omega, by omega, rfl, by rw [HS0.out]; exact HO⟩
      case round =>
        obtain ⟨n, hn0, hn1, hgn, rfl, HN⟩ := hrel
        clear c0 c1 c2 c3 c4 c5 HO
        obtain ⟨c0, c1, c2, c3, c4, c5⟩ := HA.out.below HN.out.bel hb
        by_cases hln : n < m1
        · have hlz : (n : Int) < (m1 : Int) := by omega
          have hz0 : (0 : Int) ≤ (n : Int) := by omega
          have hz1 : (n : Int) < 512 := by omega
          have X1 := Lib.hid (X.out n hn0 hln)
          have N1 := Lib.hid (fun W h => (OfAt.still (w' := W) HN.out h))
          have SP := Lib.hid (spTo_put a n (HC.out n hn0 hln))
          have Z0 : Hid (spTo a n n = none) := Lib.hid (by unfold spTo; rw [if_neg (by omega)])
          generalize a.at (n : Int) = x at *
          obtain ⟨x0, x1, x2, x3⟩ := x
          simp only [Ar.v, At.v] at X1
          go_wp2_with fail
          refine (X1.out _).mono ?_
          rintro e w1 ⟨rfl, hb1⟩
          have N2 := Lib.hid (N1.out _ (hb1.alloc hb1.size (.cells #[.int .i64 x0, .bool x1, .int .i64 x2, .int .i64 x3] 32)))
          clear hb1 c0 c1 c2 c3 c4 c5
          obtain ⟨⟨d0, d1, d2, d3, d4⟩, fz⟩ := N2.out.s.five (by omega) Z0.out
          go_wp2_with fail
          go_roundg (m1 - (n + 1))
          case measure => omega
          case rel =>
            refine ⟨n + 1, by omega, by omega, by omega, by go_num, Lib.hid ?_⟩
            rw [← SP.out]
            exact N2.out.put (by omega) ⟨x0, x1, x2, x3⟩
        · obtain rfl : n = m1 := by omega
          go_wp2_with fail
          go_roundg 0
          case measure => omega
          case rel =>
            refine ⟨1, by omega, by omega, by go_num, Lib.hid ?_⟩
            rw [if_neg (by omega), ← HS1.out]
            exact HN.out
    · obtain rfl : k = 1 := by omega
      simp only [if_neg (by omega : ¬ (1 : Nat) = 0)] at HO
      go_wp2_with (first | (refine wpList_load_mid rfl 97 (.tmp 3) (by rfl) (w.heap.size + 1) 0 (by rfl) (spl (spA a) 512) _ HO.out.s.range Tryz.underlying97 rfl (space_size _) ?_) | (refine wpList_store_mid rfl 97 (.tmp 2) (.tmp 43) (by rfl) w.heap.size 0 (spl (spA a) 512).toArray (by rfl) (by rfl) HO.out.z.there (space_size' _) (spl_one _ _) ?_))
      refine bodyPost_ret (results_cell_row rfl _ _ w.heap.size 97 (spc (spA a)) (0, 0) _ rfl HO.out.z.all Tryz.underlying97 rfl (space_size' _)) rfl ?_
      exact ⟨rfl, HO.out.bel.trans ((only_many _ _ _).below (B := w.heap.size) (fun k hk => by omega) HO.out.bel.size)⟩
end Go.Proofs.YtholpgcghpikgaaGreat

/-
  Layer 7: Set: a contract for the call.
-/
namespace Go.Proofs.YtholpgcghpikgaaGreat
open Go.ChangeShapes Go.WideShapes Go.ChangeAt Go.RowKit Go.Shelf
set_option linter.unusedVariables false

/-- One area's Prot is otherwise. -/
theorem Mine.protAt {B : Nat} {w : World} {g n c : Nat} {u r : List Ar} {z : Ar} (h : Mine B w (.slice (some ⟨g, 0, none⟩) n c) (u ++ z :: r)) (pr : Int) :
    Mine B (w.setCell ⟨g, u.length * 6 + 2, none⟩ (.int .i64 pr)) (.slice (some ⟨g, 0, none⟩) n c) (u ++ z.prot pr :: r) := by
  obtain ⟨hl, h2⟩ := h
  have hlen : (cls (u ++ z.prot pr :: r)).length = (cls (u ++ z :: r)).length := by rw [cls_len, cls_len]; simp
  refine ⟨by rw [hlen, hl]; simp, ?_⟩
  rcases h2 with ⟨h0, _⟩ | ⟨g', cap, cur, hv, hb, hh, h3, h4, h5, h6⟩
  · cases h0
  · have hv' := hv
    injection hv with h1
    injection h1 with h1
    injection h1 with h1
    subst h1
    refine .inr ⟨g, cap, cur.setIfInBounds (u.length * 6 + 2) (.int .i64 pr), ?_, hb, Whole.put (t := 52) hh _ _, by simpa using h3, h4, by simpa using h5, ?_⟩
    · simpa using hv'
    · have e1 : (cls (u ++ z :: r)).set (u.length * 6 + 2) (.int .i64 pr) = cls (u ++ z.prot pr :: r) := by
        rw [cls_app, cls_app, List.set_append_right _ _ (by rw [cls_len]; omega), cls_len, show u.length * 6 + 2 - u.length * 6 = 2 by omega]
        rfl
      rw [← e1, ← h6]
      simp only [Array.toList_setIfInBounds, List.length_append, List.length_cons]
      rw [List.take_set]
/-- The first k areas have it. -/
def setTo (pr : Int) (l : List Ar) (k : Nat) : List Ar := (l.take k).map (Ar.prot pr) ++ l.drop k
theorem setTo_len (pr : Int) (l : List Ar) (k : Nat) : (setTo pr l k).length = l.length := by simp [setTo]; omega
theorem setTo_zero (pr : Int) (l : List Ar) : setTo pr l 0 = l := by simp [setTo]
theorem setTo_all (pr : Int) (l : List Ar) : setTo pr l l.length = l.map (Ar.prot pr) := by simp [setTo]
/-- Our list, and all that was there. -/
structure SetAt (w wr : World) (v : Value) (l : List Ar) : Prop where
  m : Mine w.heap.size wr v l
  bel : Below w.heap.size w wr
theorem SetAt.step {w wr : World} {g n c : Nat} {l : List Ar} {pr : Int} {k : Nat} (hk : k < l.length) (h : SetAt w wr (.slice (some ⟨g, 0, none⟩) n c) (setTo pr l k)) :
    (wr.frozen? ⟨g, k * 6 + 2, none⟩ = false ∧ ∃ u, wr.cell? ⟨g, k * 6 + 2, none⟩ = some u) ∧ SetAt w (wr.setCell ⟨g, k * 6 + 2, none⟩ (.int .i64 pr)) (.slice (some ⟨g, 0, none⟩) n c) (setTo pr l (k + 1)) := by
  have e : setTo pr l k = (l.take k).map (Ar.prot pr) ++ l[k] :: l.drop (k + 1) := by unfold setTo; rw [List.drop_eq_getElem_cons hk]
  have e2 : setTo pr l (k + 1) = (l.take k).map (Ar.prot pr) ++ (l[k]).prot pr :: l.drop (k + 1) := by
    unfold setTo; rw [List.take_succ_eq_append_getElem hk, List.map_append, List.append_assoc]; rfl
  have hlen : ((l.take k).map (Ar.prot pr)).length = k := by simp; omega
  have hm := h.m
  have hAr := hm.areas
  rw [e] at hm
  have h1 := hm.protAt pr
  rw [hlen, ← e2] at h1
  refine ⟨⟨?_, ?_⟩, h1, ?_⟩
  · rcases hm.2 with ⟨h0, _⟩ | ⟨g', cap, cur, hv, hb, hh, _⟩
    · cases h0
    · injection hv with h1
      injection h1 with h1
      injection h1 with h1
      subst h1
      exact Whole.frozen (t := 52) hh _
  · rcases hAr with h0 | ⟨b, off, hb', _, hc⟩
    · have : (setTo pr l k).length = 0 := by rw [h0]; rfl
      rw [setTo_len] at this; omega
    · injection hb' with hb'
      injection hb' with hb1 hb2
      subst hb1 hb2
      have := (hc k (by rw [setTo_len]; exact hk)).c2
      exact ⟨_, by simpa using this⟩
  · exact h.bel.trans ((Below.refl _ _).setCell (p := ⟨g, k * 6 + 2, none⟩) ((hm.lt g (by simp [Value.ownBlock])).1) _)

/-- What is set lies in a list. -/
def SetIn (lo hi pr : Int) (l y : List Ar) : Prop := RightL y ∧ ∀ p, tab y p = if Touch lo hi p then (tab l p).map (fun x => { x with p := pr }) else tab l p

set_option maxHeartbeats 1000000 in
theorem set_no (A : Option Addr) (l : List Ar) (cap : Nat) (lo hi pr : Int) (hl : l.length ≤ 10000) (hr : ¬ RightL l) (w : World) (hA : Areas w.heap.size w A l) :
    Calls Tryz.prog 80 #[.slice A l.length cap, .int .i64 lo, .int .i64 hi, .int .i64 pr] w fun e w' => e = .returned (.slice none 0 0) ∧ Below w.heap.size w w' := by
  have X := Lib.hid (right_any A l cap (by omega) w hA)
  rw [decide_eq_false hr] at X
  clear hr hA
  generalize l.length = n at *
  go_enter Tryz.func80, Tryz.ntmps80
  go_wp2_with fail
  refine X.out.mono ?_
  rintro e w1 ⟨rfl, hb1⟩
  have B1 := Lib.hid hb1
  clear hb1
  go_wp2_with fail
  go_ret
  exact ⟨rfl, B1.out⟩

set_option maxRecDepth 4000 in
set_option maxHeartbeats 4000000 in
theorem set_any (A : Option Addr) (l : List Ar) (cap : Nat) (lo hi pr : Int) (hr : RightL l) (h0 : 0 ≤ pr) (h7 : pr ≤ 7) (w : World) (hA : Areas w.heap.size w A l) :
    Calls Tryz.prog 80 #[.slice A l.length cap, .int .i64 lo, .int .i64 hi, .int .i64 pr] w fun e w' => ∃ v y, e = .returned v ∧ Mine w.heap.size w' v y ∧ SetIn lo hi pr l y ∧ Below w.heap.size w w' := by
  have hl := right_len hr
  have X := Lib.hid (right_any A l cap (by omega) w hA)
  have XI := Lib.hid (fun w1 h => inside_any A l cap lo hi (by omega) w1 h)
  have XO := Lib.hid (fun w1 h => outside_any A l cap lo hi (by omega) w1 h)
  have HA := Lib.hid hA
  have HP := Lib.hid (set_apart (lo := lo) (hi := hi) hr h0 h7)
  have hlo := outside_len lo hi l
  have hli := inside_len lo hi l
  rw [decide_eq_true hr] at X
  obtain ⟨i0, hi0, hz0, hz1, hz2⟩ := info_parts area_info
  have HI0 : Hid (Tryz.prog.info? 52 = some i0) := Lib.hid hi0
  have H0 : Hid (i0.zero = some Ar.nil.v) := Lib.hid hz0
  have H1 : Hid (i0.size = 6) := Lib.hid hz1
  have H2 : Hid (i0.bytes = 48) := Lib.hid hz2
  clear hi0 hz0 hz1 hz2 hA hr
  unfold setL at HP
  generalize outsideL lo hi l = out at *
  generalize insideL lo hi l = inn at *
  have hlo2 : out.length ≤ 992 := by omega
  have hli2 : inn.length ≤ 496 := by omega
  clear hlo hli
  generalize l.length = n at *
  go_enter Tryz.func80, Tryz.ntmps80
  go_wp2_with fail
  refine X.out.mono ?_
  rintro e w1 ⟨rfl, hb1⟩
  have B1 := Lib.hid hb1
  have A1 := Lib.hid ((HA.out.below hb1).mono hb1.size)
  clear hb1 X HA
  go_wp2_with fail
  refine (XI.out w1 A1.out).mono ?_
  rintro e w2 ⟨v, rfl, hm, hb2⟩
  obtain ⟨A2, c2, rfl⟩ := hm.is
  have S0 : Hid (SetAt w1 w2 (.slice A2 inn.length c2) inn) := Lib.hid ⟨hm, hb2⟩
  clear hm hb2 XI
  go_wp2_with fail
  go_loopg [10, 28] inn.length (fun g _ s28 wr => ∃ k : Nat, k ≤ inn.length ∧ inn.length - k ≤ g ∧ s28 = .int .i64 k ∧ Hid (SetAt w1 wr (.slice A2 inn.length c2) (setTo pr inn k)))
  case atStart => exact ⟨0, by omega, by omega, rfl, by rw [setTo_zero]; exact S0⟩
  case round =>
    obtain ⟨k, hk, hgk, rfl, HS⟩ := hrel
    by_cases hlt : k < inn.length
    · have hltz : (k : Int) < (inn.length : Int) := by omega
      have hz0 : (0 : Int) ≤ (k : Int) := by omega
      obtain ⟨g, rfl⟩ : ∃ g, A2 = some ⟨g, 0, none⟩ := by
        rcases HS.out.m.2 with ⟨_, h0⟩ | ⟨g, cap, cur, hv, _⟩
        · rw [setTo_len] at h0; omega
        · injection hv with h1; exact ⟨g, h1⟩
      obtain ⟨⟨fz, u, cu⟩, hs⟩ := HS.out.step hlt
      have HN := Lib.hid hs
      clear hs
      go_wp2_with fail
      go_roundg (inn.length - (k + 1))
      case measure => omega
      case rel => exact ⟨k + 1, by omega, by omega, by go_num, HN⟩
    · obtain rfl : k = inn.length := by omega
      rw [setTo_all] at HS
      have AO := Lib.hid (XO.out wr ((A1.out.below HS.out.bel).mono HS.out.bel.size))
      have hln : (inn.map (Ar.prot pr)).length = inn.length := by simp
      go_wp2_with fail
      refine AO.out.mono ?_
      rintro e w3 ⟨v3, rfl, hm3, hb3⟩
      obtain ⟨A3, c3, rfl⟩ := hm3.is
      have M3 := Lib.hid (hm3.base HS.out.bel.size)
      have B3 := Lib.hid (below_then HS.out.bel hb3 (Nat.le_refl _))
      have MI := Lib.hid (HS.out.m.still hb3)
      clear hm3 hb3 AO XO
      have S3 := Lib.hid B3.out.size
      have YJ : Hid (∀ (A4 : Option Addr) (n4 c4 : Nat) (W : World), n4 = out.length + inn.length → Below w1.heap.size w1 W → Mine w1.heap.size W (.slice A4 n4 c4) (out ++ inn.map (Ar.prot pr)) → Calls Tryz.prog 77 #[.slice A4 n4 c4] W fun e w' => ∃ v y, e = .returned v ∧ Mine w1.heap.size w' v y ∧ SetIn lo hi pr l y ∧ Below w1.heap.size w1 w') := Lib.hid (fun A4 n4 c4 W hn hb hm => (joined_row w1.heap.size A4 n4 c4 _ W (by simp [hn]) hm (by simp; omega)).mono fun e w' ⟨v, l', he, hp, hs, hm', ho⟩ => by
        obtain ⟨j1, j2⟩ := joined_perm HP.out.1 HP.out.2.1 hp hs
        exact ⟨v, _, he, hm'.base hb.size, ⟨j1, fun p => (j2 p).trans (HP.out.2.2 p)⟩, put_below hb hm ho⟩)
      cases A2 with
      | none =>
        have hi0 : inn.length = 0 := by
          rcases MI.out.2 with ⟨_, h0⟩ | ⟨g, cap, cur, hv, _⟩
          · simpa using h0
          · cases hv
        obtain rfl : inn = [] := List.eq_nil_of_length_eq_zero hi0
        obtain rfl : c2 = 0 := by
          rcases MI.out.2 with ⟨hv, h0⟩ | ⟨g, cap, cur, hv, _⟩
          · injection hv
          · cases hv
        simp only [List.length_nil, List.map_nil, List.append_nil] at *
        have hle : out.length ≤ c3 := by
          rcases M3.out.2 with ⟨hv, h0⟩ | ⟨g, cap, cur, hv, _, _, h3, _⟩
          · omega
          · injection hv with _ _ h4; omega
        have fin : ∀ (W : World) (A4 : Option Addr), A4 = A3 → W = w3 → Calls Tryz.prog 77 #[.slice A4 out.length c3] W fun e w' => ∃ v y, e = .returned v ∧ Mine w1.heap.size w' v y ∧ SetIn lo hi pr l y ∧ Below w1.heap.size w1 w' := by
          rintro W A4 rfl rfl
          exact YJ.out _ _ _ _ (by simp) B3.out M3.out
        have FIN := Lib.hid fin
        clear fin
        cases A3 with
        | none =>
          go_wp2_with fail
          refine (FIN.out _ _ rfl rfl).mono ?_
          rintro e w5 ⟨v5, y, rfl, hm5, hs5, hb5⟩
          have F := Lib.hid (And.intro (hm5.base B1.out.size) (And.intro hs5 (below_then B1.out hb5 (Nat.le_refl _))))
          clear hm5 hs5 hb5
          go_wp2_with fail
          go_ret
          exact ⟨v5, y, rfl, F.out.1, F.out.2.1, F.out.2.2⟩
        | some a3 =>
          go_wp2_with fail
          refine (FIN.out _ _ rfl rfl).mono ?_
          rintro e w5 ⟨v5, y, rfl, hm5, hs5, hb5⟩
          have F := Lib.hid (And.intro (hm5.base B1.out.size) (And.intro hs5 (below_then B1.out hb5 (Nat.le_refl _))))
          clear hm5 hs5 hb5
          go_wp2_with fail
          go_ret
          exact ⟨v5, y, rfl, F.out.1, F.out.2.1, F.out.2.2⟩
      | some ad =>
        obtain ⟨g, rfl⟩ : ∃ g, ad = ⟨g, 0, none⟩ := by
          rcases MI.out.2 with ⟨h0, _⟩ | ⟨g, cap, cur, hv, _⟩
          · cases h0
          · injection hv with h1; injection h1 with h1; exact ⟨g, h1⟩
        have HC := Lib.hid (World.ownsRow.cells MI.out (g := g) (by simp [Value.ownBlock]))
        go_wp2_with (at_builtin; go_loud (refine wpList_append_own _ rfl (.tmp 40) (.tmp 41) _ rfl w1.heap.size 52 i0 _ 6 48 Tryz.underlying24 HI0.out H0.out H1.out H2.out rfl (by omega) _ out.length _ rfl M3.out ⟨g, 0, none⟩ inn.length c2 (cls (inn.map (Ar.prot pr))) rfl (by rw [cls_len]; simp) HC.out (cls_one _) (by simp only [maxLen]; omega) (by omega) (by have := S3.out; omega) ?_; intro v4 w4 hown' hg' _hnil; obtain ⟨A4, c4, rfl⟩ := own_slice hown'; have M4 := Lib.hid (mine_more (l := out) (l' := inn.map (Ar.prot pr)) (by simp) hown'); have B4 := Lib.hid (B3.out.grown hg' (by have := S3.out; omega) (fun k hk => (M3.out.lt k hk).1)); clear hown' hg' _hnil))
        refine (YJ.out _ _ _ _ rfl B4.out M4.out).mono ?_
        rintro e w5 ⟨v5, y, rfl, hm5, hs5, hb5⟩
        have F := Lib.hid (And.intro (hm5.base B1.out.size) (And.intro hs5 (below_then B1.out hb5 (Nat.le_refl _))))
        clear hm5 hs5 hb5
        go_wp2_with fail
        go_ret
        exact ⟨v5, y, rfl, F.out.1, F.out.2.1, F.out.2.2⟩
end Go.Proofs.YtholpgcghpikgaaGreat
