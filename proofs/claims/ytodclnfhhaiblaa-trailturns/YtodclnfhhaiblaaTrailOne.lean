/-
  Layer 3: one program, whose trail and memory are new.
-/
import Derived.Test.YtodclnfhhaiblaaTrailLaw
namespace Go.Proofs.Ytodclnfhhaiblaa
open Go.ChangeShapes Go.WideShapes Go.ChangeAt Go.RowKit
set_option linter.unusedVariables false

/-- A trail between steps, its memory, and its program. -/
structure One (w0 : World) (b g tb pb : Nat) (A : Option Addr) (n c lb lo : Nat) (l : List Pop) (tv mv : Value) (T : Tr) (m : Mm) (w : World) : Prop where
  st : St w b g tb tv mv T m
  ph : T.ph = 0
  len : n = l.length
  box : Whole w pb 40 #[.slice A n c, .pointer none]
  ops : OpsIn w A lb lo l
  nlb : 0 < l.length → ¬ All b g tb tv mv lb
  bel : Below w0.heap.size w0 w
  new : ∀ k, All b g tb tv mv k → w0.heap.size ≤ k

section
variable {w0 w w' : World} {b g tb pb : Nat} {A : Option Addr} {n c lb lo : Nat} {l : List Pop} {tv mv tv' mv' : Value} {T : Tr} {m m' : Mm}

theorem One.fine (O : One w0 b g tb pb A n c lb lo l tv mv T m w) : Fine T := ⟨.inl O.ph, fun h => absurd (O.ph.symm.trans h) (by decide), fun h => absurd O.ph h⟩
theorem One.still (O : One w0 b g tb pb A n c lb lo l tv mv T m w) (hb : Below w.heap.size w w') : One w0 b g tb pb A n c lb lo l tv mv T m w' :=
  ⟨O.st.still hb, O.ph, O.len, O.box.below hb O.box.lt, ⟨O.ops.at_, fun h => Nat.lt_of_lt_of_le (O.ops.lt h) hb.size, fun k o hk => (O.ops.ops k o hk).only (Only.of_below hb (fun _ => False)) id⟩, O.nlb, O.bel.trans (hb.mono O.bel.size), O.new⟩
theorem One.boxed (O : One w0 b g tb pb A n c lb lo l tv mv T m w) : ¬ All b g tb tv mv pb := not_all O.st O.box (by decide) (by decide) (by decide) (by decide)
theorem One.stepped {R : Pst × Bool} (O : One w0 b g tb pb A n c lb lo l tv mv T m w) (h : Stepped w b g tb tv mv none R tv' mv' w') : One w0 b g tb pb A n c lb lo l tv' mv' (ended R.1.T) R.1.m w' := by
  have ho : Only (All b g tb tv mv) w w' := h.only.mono (fun k _ hk => hk.elim id (fun ⟨p, hp, _⟩ => by cases hp))
  have hm : Moved w b g tb tv mv w' tv' mv' := ⟨ho, h.t, h.m⟩
  refine ⟨h.st, rfl, O.len, O.box.only ho O.boxed, ⟨O.ops.at_, fun h => Nat.lt_of_lt_of_le (O.ops.lt h) ho.size, fun k o hk => (O.ops.ops k o hk).only ho (O.nlb ?_)⟩, fun h0 ha => ?_, ?_, fun k hk => ?_⟩
  · have := (List.getElem?_eq_some_iff.1 hk).1
    omega
  · exact O.nlb h0 (hm.all (O.ops.lt h0) ha)
  · exact O.bel.trans (ho.below O.new O.bel.size)
  · by_cases hlt : k < w.heap.size
    · exact O.new k (hm.all hlt hk)
    · have := O.bel.size; omega
/-- Behind an access of the memory's own. -/
theorem One.told (O : One w0 b g tb pb A n c lb lo l tv mv T m w) (hm : MemAt w' b g m'.cs m'.cnt) (ho : Only (Two b g) w w') : One w0 b g tb pb A n c lb lo l tv mv T m' w' := by
  have hd := O.st.done (n := 0) hm ho
  have ho' := hd.2.only
  refine ⟨hd.1, O.ph, O.len, O.box.only ho' O.boxed, ⟨O.ops.at_, fun h => Nat.lt_of_lt_of_le (O.ops.lt h) ho'.size, fun k o hk => (O.ops.ops k o hk).only ho' (O.nlb ?_)⟩, O.nlb, O.bel.trans (ho'.below O.new O.bel.size), O.new⟩
  have := (List.getElem?_eq_some_iff.1 hk).1
  omega

theorem one_step (time : Int) (O : One w0 b g tb pb A n c lb lo l tv mv T m w) (ho : T.over = false) (ht : T.told.length + l.length ≤ 900) (hmk : T.marks.length + l.length ≤ 900) (hc : m.cnt + l.length ≤ 1000000) :
    Calls Try.prog 13 #[.pointer (some ⟨tb, 0, none⟩), .int .i64 time, .func (.func 14) #[.agg #[.slice A n c, .pointer none]] #[]] w fun e w' =>
      e = .returned (.bool (!dry (stepR l time T m).1.T)) ∧ ∃ tv' mv', One w0 b g tb pb A n c lb lo l tv' mv' (ended (stepR l time T m).1.T) (stepR l time T m).1.m w' := by
  refine (prog_step time A n c lb lo none l O.st ho O.ph O.len O.ops O.nlb (fun p hp => by cases hp) ht hmk hc).mono ?_
  rintro e w' ⟨rfl, tv', mv', hs⟩
  exact ⟨rfl, tv', mv', O.stepped hs⟩
end

theorem ops_two (w : World) (o p : Pop) (lb : Nat) (h0 : 0 ≤ o.kd) (h1 : o.kd ≤ 255) (h2 : 0 ≤ p.kd) (h3 : p.kd ≤ 255) (h : Whole w lb 53 #[.int .u8 o.kd, .int .i64 o.i, .int .i64 o.v, .int .i64 o.old, .bool o.use, .int .u8 p.kd, .int .i64 p.i, .int .i64 p.v, .int .i64 p.old, .bool p.use]) : OpsIn w (some ⟨lb, 0, none⟩) lb 0 [o, p] := by
  refine ⟨fun _ => rfl, fun _ => h.lt, fun k o' hk => ?_⟩
  match k, hk with
  | 0, hk =>
    simp at hk
    subst hk
    exact ⟨h.cell 0, h.cell 1, h.cell 2, h.cell 3, h.cell 4, h0, h1⟩
  | 1, hk =>
    simp at hk
    subst hk
    exact ⟨h.cell 5, h.cell 6, h.cell 7, h.cell 8, h.cell 9, h2, h3⟩
end Go.Proofs.Ytodclnfhhaiblaa
