/-
  Layer 7: areas in order of where they begin: the contract of the library's sort, at areas.
-/
import Derived.Test.YtmppodobgkhojaaListOut
import Derived.Shelf.SlSortCmp.NoneTotal
import Derived.Shelf.SlSortCmp.WholeK
import Derived.Shelf.SlGeneric
import Derived.Shelf.Lay
import Derived.Ground.SlsfProg
namespace Go.Proofs
open Go.Shelf Go.RowKit Go.Lib Go.Sort
shelf_lay_g SlLaysF0.n6 Slsf 6 at Try 46 as Try.sortArea
end Go.Proofs
namespace Go.Proofs.Ytmppodobgkhojaa
open Go.ChangeShapes Go.WideShapes Go.ChangeAt Go.RowKit Go.Shelf
set_option linter.unusedVariables false

instance : Inhabited Ar := ⟨Ar.nil⟩
/-- How two areas stand. -/
def cmpS (a b : Ar) : Int := if a.s < b.s then -1 else if b.s < a.s then 1 else 0
theorem lt_cmpS (a b : Ar) : ltOf cmpS a b = decide (a.s < b.s) := by
  unfold ltOf cmpS
  by_cases h1 : a.s < b.s
  · simp [h1]
  · by_cases h2 : b.s < a.s <;> simp [h1, h2]
theorem swo_cmpS : Go.Sort.SWO (ltOf cmpS) where
  irrefl x := by rw [lt_cmpS]; simp
  trans x y z h1 h2 := by rw [lt_cmpS] at *; simp at *; omega
  ntrans x y z h1 h2 := by rw [lt_cmpS] at *; simp at *; omega

set_option maxHeartbeats 1000000 in
theorem compare_any (x y : Int) (w : World) : Calls Try.prog 56 #[.int .i64 x, .int .i64 y] w fun e w' => e = .returned (.int .i64 (if x < y then -1 else if y < x then 1 else 0)) ∧ w' = w := by
  have E : Hid (∀ p q r : Int, (if x < y then p else if y < x then q else r) = (if x < y then p else if y < x then q else r)) := Lib.hid (fun _ _ _ => rfl)
  by_cases h1 : x < y
  · rw [if_pos h1]
    go_enter Try.func56, Try.ntmps56
    go_wp2
    go_ret
    exact ⟨rfl, rfl⟩
  · rw [if_neg h1]
    by_cases h2 : y < x
    · rw [if_pos h2]
      go_enter Try.func56, Try.ntmps56
      go_wp2
      go_ret
      exact ⟨rfl, rfl⟩
    · rw [if_neg h2]
      go_enter Try.func56, Try.ntmps56
      go_wp2
      go_ret
      exact ⟨rfl, rfl⟩

set_option maxHeartbeats 1000000 in
theorem byStart_any (a b : Ar) (W : World) : Calls Try.prog 47 #[.agg a.cl.toArray, .agg b.cl.toArray] W fun e w' => e = .returned (.int .i64 (cmpS a b)) ∧ ∃ q os', w' = Go.Sort.grow (W.drewN q) os' := by
  have X := Lib.hid (compare_any a.s b.s)
  have hc : cmpS a b = if a.s < b.s then -1 else if b.s < a.s then 1 else 0 := rfl
  rw [hc]
  generalize (if a.s < b.s then (-1 : Int) else if b.s < a.s then 1 else 0) = r at *
  clear hc
  obtain ⟨a0, a1, a2, a3, a4, a5⟩ := a
  obtain ⟨b0, b1, b2, b3, b4, b5⟩ := b
  simp only [Ar.cl] at X ⊢
  go_enter Try.func47, Try.ntmps47
  go_wp2_with fail
  refine (X.out _).mono ?_
  rintro e w1 ⟨rfl, rfl⟩
  go_wp2_with fail
  go_ret
  exact ⟨rfl, 0, _, by rw [Go.Sort.alloc_eq_grow, Go.Sort.alloc_eq_grow, Go.Sort.grow_grow]; rfl⟩

theorem holds_mine {B : Nat} {w : World} {g n c : Nat} {l : List Ar} (h : Mine B w (.slice (some ⟨g, 0, none⟩) n c) l) (hl : l ≠ []) : Go.Sort.HoldsK Ar.cl 6 w g 0 l.toArray ∧ g < w.heap.size := by
  rcases h.2 with ⟨h0, _⟩ | ⟨g', cap, cur, hv, hb, hh, _⟩
  · cases h0
  · injection hv with h1
    injection h1 with h1
    injection h1 with h1
    subst h1
    have hc := World.ownsRow.cells h (g := g) (by simp [Value.ownBlock])
    refine ⟨fun t ht => ⟨?_, Whole.frozen (t := 35) hh _⟩, Whole.lt (t := 35) hh⟩
    rw [Go.Sort.size_flatK] at ht
    rw [Go.Sort.get_flatK _ _ _ _ ht]
    simp only [List.size_toArray] at ht
    have hj : t / 6 < l.length := by omega
    have h6 : t % 6 < (Ar.cl l[t / 6]).length := show t % 6 < 6 by omega
    have := hc t ((Ar.cl l[t / 6])[t % 6]) (by
      have h2 := cls_at l (t / 6) hj (t % 6) (by omega)
      rw [show t / 6 * 6 + t % 6 = t by omega] at h2
      rw [h2]
      exact List.getElem?_eq_getElem h6)
    rw [Addr.add_lit] at this
    rw [this]
    have e1 : l.toArray[t / 6]! = l[t / 6] := by
      rw [getElem!_pos l.toArray (t / 6) (by simpa using hj)]; simp
    rw [e1, getElem!_pos (Ar.cl l[t / 6]) (t % 6) h6]; rfl

theorem only_sorted {w : World} {g n : Nat} {os : Array Obj} (d : Array Ar) : Only (fun k => k = g) w (sortWorldK Ar.cl 6 w g 0 n d os) := by
  refine ⟨rfl, rfl, rfl, by simp [sortWorldK, Go.Sort.putRowK, Go.Sort.ahead], fun k hk hne => ?_⟩
  unfold sortWorldK
  rw [Go.Sort.heap_grow_old _ _ (by simpa [Go.Sort.putRowK, Go.Sort.ahead] using hk)]
  have : g ≠ k := fun e => hne e.symm
  simp [Go.Sort.putRowK, Go.Sort.putRow, Go.Sort.mapBlock, Go.Sort.ahead, Array.getElem?_modify, this]

set_option maxHeartbeats 2000000 in
theorem sort_any (B : Nat) (A : Option Addr) (c : Nat) (l : List Ar) (w : World) (hm : Mine B w (.slice A l.length c) l) (hl : l.length ≤ 100000) :
    Calls Try.prog 46 #[.slice A l.length c, .func (.func 47) #[] #[]] w fun e w' => e = .returned (.tuple #[]) ∧
      ∃ l', l.Perm l' ∧ l'.Pairwise (fun a b => a.s ≤ b.s) ∧ Areas w'.heap.size w' A l' ∧ Only (fun k => (Value.slice A l.length c).ownBlock = some k) w w' := by
  by_cases hn : l = []
  · subst hn
    have h := AnyF.slices_SortFunc_none Try.sortArea A c (.func (.func 47) #[] #[]) w
    change Calls Try.prog 46 _ _ _ at h
    exact h.mono fun e w' ⟨he, hw⟩ => ⟨he, [], List.Perm.refl _, .nil, .inl rfl, by rw [hw]; exact Only.refl _ _⟩
  · rcases hm.2 with ⟨h0, h1⟩ | ⟨g, cap, cur, hv, hb, hh, _⟩
    · exact absurd (List.eq_nil_of_length_eq_zero h1) hn
    injection hv with h1
    subst h1
    obtain ⟨hH, hblk⟩ := holds_mine hm hn
    have eg : ∀ args w, (callFunc 47 args).run Try.prog w = .ok (.enter 47 args) w := enters_of Try.func47 (by kernel_rfl) rfl
    have h := AnyQ.slices_SortFunc Try.sortArea 6 Try.isAgg35 Try.sizeOf35 Ar.cl (fun _ => rfl) cl_one cmpS swo_cmpS 47 #[] g 0 c l.toArray w eg (fun _ _ _ _ x y => byStart_any x y _) hH hblk (by simp; omega)
    change Calls Try.prog 46 _ _ _ at h
    simp only [List.size_toArray] at h
    refine h.mono ?_
    rintro e w' ⟨rfl, d', n, os, ⟨hp1, hp2, hp3⟩, hs, rfl⟩
    have hd : d'.size = l.length := by simpa using hp1
    refine ⟨rfl, d'.toList, ?_, ?_, ?_, ?_⟩
    · have e1 : d'.extract 0 l.length = d' := by rw [← hd]; exact Array.extract_size
      have e2 : l.toArray.extract 0 l.length = l.toArray := by rw [show l.length = l.toArray.size by simp]; exact Array.extract_size
      rw [e1, e2] at hp3
      exact hp3.symm
    · rw [List.pairwise_iff_getElem]
      intro i j hi hj hij
      have := hs i j (Nat.zero_le _) hij (by simpa [hd] using hj)
      rw [lt_cmpS] at this
      simp only [Array.length_toList] at hi hj
      rw [getElem!_pos d' i hi, getElem!_pos d' j hj] at this
      simp at this
      simpa using this
    · have hK : Go.Sort.HoldsK Ar.cl 6 (sortWorldK Ar.cl 6 w g 0 n d' os) g 0 d' := by
        unfold sortWorldK
        exact Go.Sort.holdsK_grow _ _ _ _ _ _ _ (by simpa [Go.Sort.putRowK, Go.Sort.ahead] using hblk) (Go.Sort.holdsK_putRowK _ _ _ _ _ _ _ (Go.Sort.holdsK_ahead _ _ _ _ _ _ _ hH) hp1)
      refine .inr ⟨g, 0, rfl, ?_, fun j hj => ?_⟩
      · have := (only_sorted (w := w) (g := g) (n := n) (os := os) d').size; omega
      · simp only [Array.length_toList] at hj
        have key : ∀ i, i < 6 → ∀ u, (Ar.cl d'[j])[i]! = u → (sortWorldK Ar.cl 6 w g 0 n d' os).cell? ⟨g, 0 + j * 6 + i, none⟩ = some u := fun i hi u hu => by
          have := (hK.cell hj hi).1
          rw [getElem!_pos d' j hj, hu] at this
          exact this
        rw [Array.getElem_toList]
        exact ⟨key 0 (by omega) _ rfl, key 1 (by omega) _ rfl, key 2 (by omega) _ rfl, key 3 (by omega) _ rfl, key 4 (by omega) _ rfl, key 5 (by omega) _ rfl⟩
    · exact (only_sorted d').mono (fun k _ hk => by rw [hk]; rfl)
end Go.Proofs.Ytmppodobgkhojaa
