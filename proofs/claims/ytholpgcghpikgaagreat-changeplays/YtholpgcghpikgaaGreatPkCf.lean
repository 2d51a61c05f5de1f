/-
  Texts of our own, one behind the other (ChCame): what the laws' proofs rest on; each says at its head what it holds. No conditions.
-/
import Derived.Test.YtholpgcghpikgaaGreatPkIn
import Derived.Test.YtholpgcghpikgaaGreatPkIo
import Derived.Test.YtholpgcghpikgaaGreatPkCe
/-
  Layer 14: arguments that came in: a slice of calls; a space.
-/
namespace Go.Proofs.YtholpgcghpikgaaGreat
open Go.ChangeShapes Go.WideShapes Go.RowKit Go.Deep
section
variable {H : Type} {enc : TypeId × Value → H} {w : World} {base base' : Nat} {spare : Nat → Bool} {held : Bool} {v : Value} {d : DataW H} {p : List MemPlace}

set_option maxRecDepth 100000 in
theorem calls_came (ok : Value.okWide Tryz.prog w .any base 22 v) (h : DataW.Trod enc Tryz.prog w base' spare held 22 v d p) :
    ∃ (A : Option Addr) (l : List Cl) (c : Nat), v = .slice A l.length c ∧ CallsAt w A l ∧ ∀ k, k < l.length → i64 (nthC l k).f ∧ i64 (nthC l k).o := by
  obtain ⟨A, n, c, rfl⟩ := okWide_slice Tryz.underlying22 ok
  by_cases hn : 0 < n
  · obtain ⟨b, off, rfl, hb, hc, hcm, hx⟩ := structs_came Tryz.underlying22 Tryz.underlying38 (by kernel_rfl) (by kernel_rfl) (by decide) h hn
    have key : ∀ k, k < n → ∃ c : Cl, CallAt w b (off + k * 9) c ∧ i64 c.f ∧ i64 c.o := fun k hk => by
      obtain ⟨x0, n0, y0, e0, g0⟩ := hx k hk 0 _ rfl
      obtain ⟨x1, n1, y1, e1, g1⟩ := hx k hk 1 _ rfl
      obtain ⟨x2, n2, y2, e2, g2⟩ := hx k hk 2 _ rfl
      obtain ⟨x3, n3, y3, e3, g3⟩ := hx k hk 3 _ rfl
      obtain ⟨x4, n4, y4, e4, g4⟩ := hx k hk 4 _ rfl
      obtain ⟨x5, n5, y5, e5, g5⟩ := hx k hk 5 _ rfl
      obtain ⟨x6, n6, y6, e6, g6⟩ := hx k hk 6 _ rfl
      obtain ⟨x7, n7, y7, e7, g7⟩ := hx k hk 7 _ rfl
      obtain ⟨x8, n8, y8, e8, g8⟩ := hx k hk 8 _ rfl
      obtain ⟨z0, k0, _, b0⟩ := DataW.trod_int Tryz.underlying3 g0
      obtain ⟨z1, k1, _, b1⟩ := DataW.trod_int Tryz.underlying2 g1
      obtain ⟨z2, k2, _, b2⟩ := DataW.trod_int Tryz.underlying2 g2
      obtain ⟨z3, k3, _, b3⟩ := DataW.trod_int Tryz.underlying2 g3
      obtain ⟨z4, k4, _, b4⟩ := DataW.trod_int Tryz.underlying2 g4
      obtain ⟨z5, k5, _, b5⟩ := DataW.trod_int Tryz.underlying3 g5
      obtain ⟨z6, k6, _, b6⟩ := DataW.trod_int Tryz.underlying3 g6
      obtain ⟨z7, k7, _, b7⟩ := DataW.trod_int Tryz.underlying3 g7
      obtain ⟨z8, k8, _, b8⟩ := DataW.trod_int Tryz.underlying2 g8
      simp only [List.cons.injEq, and_true] at k0 k1 k2 k3 k4 k5 k6 k7 k8
      subst k0 k1 k2 k3 k4 k5 k6 k7 k8
      have key : ∀ x, (Lit.int .i64 x).wf = true → i64 x := fun x h => by have := bounds_i64 h; unfold i64; omega
      exact ⟨⟨z0, z1, z2, z3, z4, z5, z6, z7, z8⟩, ⟨e0, e1, e2, e3, e4, e5, e6, e7, e8⟩, key _ b6, key _ b8⟩
    let f : Nat → Cl := fun k => if hk : k < n then Classical.choose (key k hk) else Cl.nil
    have hf : ∀ j (hj : j < n), f j = Classical.choose (key j hj) := fun j hj => by simp [f, hj]
    refine ⟨_, (List.range n).map f, c, by simp, .inr ⟨b, off, rfl, hb, fun j hj => ?_⟩, fun k hk => ?_⟩
    · have hjn : j < n := by simpa using hj
      have e : ((List.range n).map f)[j] = Classical.choose (key j hjn) := by simp [hf j hjn]
      rw [e]
      exact (Classical.choose_spec (key j hjn)).1
    · have hkn : k < n := by simpa using hk
      have e : nthC ((List.range n).map f) k = Classical.choose (key k hkn) := by
        unfold nthC
        rw [List.getD_eq_getElem?_getD, List.getElem?_eq_getElem hk]
        simp [hf k hkn]
      rw [e]
      exact (Classical.choose_spec (key k hkn)).2
  · obtain rfl : n = 0 := by omega
    exact ⟨A, [], c, rfl, .inl rfl, fun k hk => by simp at hk⟩

set_option maxRecDepth 100000 in
theorem calls_cap {A : Option Addr} {n c : Nat} (h : DataW.Trod enc Tryz.prog w base' spare held 22 (.slice A n c) d p) : n ≤ c := by
  by_cases hn : 0 < n
  · obtain ⟨b, off, rfl, hb, hc, hcm, hx⟩ := structs_came Tryz.underlying22 Tryz.underlying38 (by kernel_rfl) (by kernel_rfl) (by decide) h hn
    exact hc
  · omega

set_option maxRecDepth 100000 in
theorem areas_trod {A : Option Addr} {n c : Nat} (h : DataW.Trod enc Tryz.prog w base' spare held 24 (.slice A n c) d p) (hnc : n ≤ c) :
    ∃ (l : List Ar), l.length = n ∧ Areas w.heap.size w A l := by
  by_cases hn : 0 < n
  · obtain ⟨b, off, rfl, hb, hc, hcm, hx⟩ := structs_came Tryz.underlying24 Tryz.underlying52 (by kernel_rfl) (by kernel_rfl) (by decide) h hn
    have key : ∀ k, k < n → ∃ a : Ar, AreaAt w b (off + k * 6) a := fun k hk => by
      obtain ⟨x0, n0, y0, e0, g0⟩ := hx k hk 0 _ rfl
      obtain ⟨x1, n1, y1, e1, g1⟩ := hx k hk 1 _ rfl
      obtain ⟨x2, n2, y2, e2, g2⟩ := hx k hk 2 _ rfl
      obtain ⟨x3, n3, y3, e3, g3⟩ := hx k hk 3 _ rfl
      obtain ⟨x4, n4, y4, e4, g4⟩ := hx k hk 4 _ rfl
      obtain ⟨x5, n5, y5, e5, g5⟩ := hx k hk 5 _ rfl
      obtain ⟨z0, k0, _, b0⟩ := DataW.trod_int Tryz.underlying2 g0
      obtain ⟨z1, k1, _, b1⟩ := DataW.trod_int Tryz.underlying2 g1
      obtain ⟨z2, k2, _, b2⟩ := DataW.trod_int Tryz.underlying3 g2
      obtain ⟨z3, k3, _⟩ := DataW.trod_bool Tryz.underlying4 g3
      obtain ⟨z4, k4, _, b4⟩ := DataW.trod_int Tryz.underlying3 g4
      obtain ⟨z5, k5, _, b5⟩ := DataW.trod_int Tryz.underlying2 g5
      simp only [List.cons.injEq, and_true] at k0 k1 k2 k3 k4 k5
      subst k0 k1 k2 k3 k4 k5
      exact ⟨⟨z0, z1, z2, z3, z4, z5⟩, ⟨e0, e1, e2, e3, e4, e5⟩⟩
    let f : Nat → Ar := fun k => if hk : k < n then Classical.choose (key k hk) else Ar.nil
    refine ⟨(List.range n).map f, by simp, .inr ⟨b, off, rfl, hb, fun j hj => ?_⟩⟩
    have hjn : j < n := by simpa using hj
    have e : ((List.range n).map f)[j] = Classical.choose (key j hjn) := by simp [f, hjn]
    rw [e]
    exact Classical.choose_spec (key j hjn)
  · obtain rfl : n = 0 := by omega
    exact ⟨[], rfl, .inl rfl⟩
set_option maxRecDepth 100000 in
theorem space_came (ok : Value.okWide Tryz.prog w .any base 26 v) (h : DataW.Trod enc Tryz.prog w base' spare held 26 v d p) :
    ∃ (u : Value) (s : Sc), v = scV u s ∧ Holds w u s.l := by
  obtain ⟨cs, rfl, hs, hx⟩ := struct_came Tryz.underlying26 (by kernel_rfl) (by kernel_rfl) ok h
  obtain ⟨x0, n0, y0, e0, g0⟩ := hx 0 _ rfl
  obtain ⟨x1, n1, y1, e1, g1⟩ := hx 1 _ rfl
  obtain ⟨z1, k1, _, b1⟩ := DataW.trod_int Tryz.underlying2 g1
  simp only [List.cons.injEq, and_true] at k1
  subst k1
  have hcs : cs = #[x0, .int .i64 z1] := by
    apply Array.ext
    · exact hs
    · intro i h1 h2
      have hi : i < 2 := h2
      match i, hi with
      | 0, _ => exact Option.some.inj ((Array.getElem?_eq_getElem h1).symm.trans e0)
      | 1, _ => exact Option.some.inj ((Array.getElem?_eq_getElem h1).symm.trans e1)
  subst hcs
  rcases DataW.trod_slice Tryz.underlying24 g0 with ⟨k0, _⟩ | ⟨a, len, cap, _, _, _, _, k0, _, _, hlc, _⟩
  · simp only [List.cons.injEq, and_true] at k0
    subst k0
    exact ⟨_, ⟨[], z1⟩, rfl, Holds.nil _⟩
  · simp only [List.cons.injEq, and_true] at k0
    subst k0
    obtain ⟨l, hl, hA⟩ := areas_trod (A := some a) (n := len) (c := cap) (d := y0.1) (p := y0.2) ⟨n0, g0⟩ hlc
    exact ⟨_, ⟨l, z1⟩, rfl, ⟨some a, cap, by simp only; rw [hl], by simp only; rw [hl]; exact hlc, hA⟩⟩
end
end Go.Proofs.YtholpgcghpikgaaGreat
