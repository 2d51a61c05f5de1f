/-
  Layer 3: marks and cells are held against the reference's.
-/
import Derived.Test.YtodclnfhhaiblaaTrailMark
import Derived.Test.YtodclnfhhaiblaaTrailThreadStep
import Derived.Test.YtodclnfhhaiblaaCellRefNew
namespace Go.Proofs.Ytodclnfhhaiblaa
open Go.ChangeShapes Go.WideShapes Go.ChangeAt Go.RowKit
set_option linter.unusedVariables false

theorem markCells_len (l : List (Int × Int)) : (markCells l).length = l.length * 2 := by
  induction l with
  | nil => rfl
  | cons a l ih => simp [markCells, ih, Nat.add_mul]
theorem markCells_one (l : List (Int × Int)) : ∀ u ∈ markCells l, u.oneCell' = true := by
  induction l with
  | nil => intro u h; simp [markCells] at h
  | cons a l ih =>
    intro u h
    simp only [markCells, List.mem_cons] at h
    rcases h with rfl | rfl | h
    · rfl
    · rfl
    · exact ih u h
/-- The k-th mark. -/
def mth (l : List (Int × Int)) (k : Nat) : Int × Int := l.getD k (0, 0)
theorem markCells_at (l : List (Int × Int)) (k : Nat) (h : k < l.length) : (markCells l)[k * 2]? = some (.int .i64 (mth l k).1) ∧ (markCells l)[k * 2 + 1]? = some (.int .i64 (mth l k).2) := by
  induction l generalizing k with
  | nil => simp at h
  | cons a l ih =>
    cases k with
    | zero => simp [markCells, mth]
    | succ k =>
      have := ih k (by simpa using h)
      rw [show (k + 1) * 2 = k * 2 + 1 + 1 from by omega]
      simpa [markCells, mth] using this

theorem nil_marks (w : World) : (binOp .eql 66 (.slice none 0 0) (.slice none 0 0)).run Try.prog w = .ok (.bool true) w := by kernel_rfl
theorem some_marks (w : World) (a : Addr) (n c : Nat) : (binOp .eql 66 (.slice (some a) n c) (.slice none 0 0)).run Try.prog w = .ok (.bool false) w := by kernel_rfl

/-- What is told of marks. -/
def MarksTold (w : World) (l : List (Int × Int)) (e : Ending) (w' : World) : Prop :=
  ∃ v, e = .returned v ∧ w'.ownsRow w.heap.size 86 2 v l.length (markCells l) ∧ Below w.heap.size w w'

set_option maxHeartbeats 2000000 in
set_option maxRecDepth 100000 in
theorem clone_any {w : World} (v : Value) (l : List (Int × Int)) (h : w.ownsRow 0 86 2 v l.length (markCells l)) (hl : l.length ≤ 1000) :
    Calls Try.prog 47 #[v] w (MarksTold w l) := by
  obtain ⟨i0, hi0, hz0, hz1, hz2⟩ := mark_info'
  rcases h.2 with ⟨rfl, h0⟩ | ⟨g, cap, cur, rfl, _, hh, hnc, hcm, _, _⟩
  · have e : Hid (MarksTold w l (.returned (.slice none 0 0)) w) := by
      refine ⟨_, rfl, ?_, Below.refl _ _⟩
      have : l = [] := List.eq_nil_of_length_eq_zero h0
      subst this
      exact World.ownsRow_nil _ _ _ _
    clear h
    have hnil := nil_marks
    go_enter Try.func47, Try.ntmps47
    go_wp2_with fail
    go_ret
    exact e.out
  · have HC : Hid (∀ j u, (markCells l)[j]? = some u → (w.alloc (.cells #[] 86)).cell? ((⟨g, 0, none⟩ : Addr).add j) = some u) := fun j u hu => (h.alloc _).cells (g := g) rfl j u hu
    have HO : Hid ((w.alloc (.cells #[] 86)).ownsRow w.heap.size 86 2 (.slice (some ⟨w.heap.size, 0, none⟩) 0 0) 0 []) := World.ownsRow_made w #[] 0 (Nat.le_refl _) (by simp [maxLen]) (by simp)
    have HL := Lib.hid (markCells_len l)
    have H1 := Lib.hid (markCells_one l)
    generalize hk : l.length = k at *
    have HK := Lib.hid hk
    clear h hh hk
    have hsome := some_marks
    go_enter Try.func47, Try.ntmps47
    go_wp2_with (at_builtin; refine wpList_append_own _ rfl (.tmp 5) (.tmp 6) _ rfl w.heap.size 86 i0 _ 2 16 Try.underlying66 hi0 hz0 hz1 hz2 rfl (by omega) _ 0 _ rfl HO.out ⟨g, 0, none⟩ k cap (markCells l) rfl HL.out HC.out H1.out (by simp only [maxLen]; omega) (by omega) (by simp) ?_; intro v' w' hown' hg' _hnil)
    go_ret
    refine ⟨_, rfl, ?_, ?_⟩
    · have := hown'
      rw [Nat.zero_add, List.nil_append] at this
      rw [HK.out]
      exact this
    · exact (((Below.refl _ _).alloc (Nat.le_refl _) _).grown hg' (by simp) (fun j hj => (HO.out.lt j hj).1))

theorem marks_any {w : World} {b tb : Nat} {tv mv : Value} {T : Tr} (h : TrAt w b tb tv mv T) :
    Calls Try.prog 35 #[.pointer (some ⟨tb, 0, none⟩)] w (MarksTold w T.marks) := by
  have c2 : w.cell? ⟨tb, 2, none⟩ = some mv := by rw [h.top.cell]; rfl
  have C := Lib.hid (clone_any mv T.marks h.marks h.fm)
  clear h
  go_enter Try.func35, Try.ntmps35
  go_wp2_with (go_at_call 47; refine C.out.mono ?_; rintro e w' ⟨v, rfl, h1, h2⟩)
  go_ret
  exact ⟨_, rfl, h1, h2⟩

/-- The trails and the threads, as far as marks go. -/
structure Likes (w : World) (b ab hb P : Nat) (tbf : Nat → Nat) (tvf mvf rvf : Nat → Value) (Tf : Nat → Tr) : Prop where
  all : ∀ i, i < P → w.cell? ⟨ab, i, none⟩ = some (.pointer (some ⟨tbf i, 0, none⟩))
  tr : ∀ i, i < P → TrAt w b (tbf i) (tvf i) (mvf i) (Tf i)
  cell : ∀ i, i < P → w.cell? ⟨hb, i * 4 + 3, none⟩ = some (rvf i)
  own : ∀ i, i < P → w.ownsRow 0 84 2 (rvf i) (Tf i).marks.length (markCells (Tf i).marks)
  new : ∀ i, i < P → (Tf i).marks.length ≤ 1000

section
variable {w w' : World} {b ab hb P : Nat} {tbf : Nat → Nat} {tvf mvf rvf : Nat → Value} {Tf : Nat → Tr}
theorem Likes.still (L : Likes w b ab hb P tbf tvf mvf rvf Tf) (h : Below w.heap.size w w') : Likes w' b ab hb P tbf tvf mvf rvf Tf := by
  have ho := Only.of_below h (fun _ => False)
  have key : ∀ p u, w.cell? p = some u → w'.cell? p = some u := fun p u hc => (h.cell (World.block_lt_of_cell? w _ hc)).trans hc
  exact ⟨fun i hi => key _ _ (L.all i hi), fun i hi => (L.tr i hi).only ho id (fun _ _ => id) (fun _ _ => id), fun i hi => key _ _ (L.cell i hi), fun i hi => own_still (L.own i hi) h, L.new⟩

def LikeRel (w0 : World) (P : Nat) (iv : Value) (wr : World) : Prop := ∃ i : Nat, i ≤ P ∧ iv = .int .i64 i ∧ Below w0.heap.size w0 wr
def LikeRel2 (w1 : World) (n : Nat) (iv : Value) (wr : World) : Prop := ∃ k : Nat, k ≤ n ∧ iv = .int .i64 k ∧ Below w1.heap.size w1 wr

set_option maxHeartbeats 8000000 in
set_option maxRecDepth 100000 in
theorem alike_any (ac hc : Nat) (hP : P ≤ 100) (L : Likes w b ab hb P tbf tvf mvf rvf Tf) :
    Calls Try.prog 20 #[.slice (some ⟨ab, 0, none⟩) P ac, .slice (some ⟨hb, 0, none⟩) P hc] w fun e w' => e = .returned (.bool true) ∧ Below w.heap.size w w' := by
  have HL := Lib.hid L
  clear L
  go_enter Try.func20, Try.ntmps20
  go_wp2_with fail
  go_loopw [5] (fun iv wr => LikeRel w P iv wr) (fun iv _ => P - (intOf iv).toNat)
  case atStart => exact ⟨0, by omega, by go_num, Below.refl _ _⟩
  case round =>
    obtain ⟨i, hi, rfl, hb0⟩ := hrel
    have B0 := Lib.hid hb0
    clear hb0
    by_cases hlt : i < P
    · have L1 := Lib.hid (HL.out.still B0.out)
      have a0 := L1.out.all i hlt
      have c3 := L1.out.cell i hlt
      have MK := Lib.hid (marks_any (L1.out.tr i hlt))
      obtain ⟨rA, rc, hrv⟩ := own_slice (L1.out.own i hlt)
      rw [hrv] at c3
      have OW := Lib.hid (L1.out.own i hlt)
      rw [hrv] at OW
      have hlen := L1.out.new i hlt
      generalize (Tf i).marks = mk at *
      generalize hkk : mk.length = K at *
      have HK := Lib.hid hkk
      clear hkk hrv
      go_upto_region 4 with (fail)
      go_wp2_with fail
      refine MK.out.mono ?_
      rintro e w2 ⟨v, rfl, ho2, hb2⟩
      obtain ⟨vA, vc, rfl⟩ := own_slice ho2
      have c3' : w2.cell? ⟨hb, i * 4 + 3, none⟩ = some (.slice rA K rc) := (hb2.cell (p := ⟨hb, i * 4 + 3, none⟩) (World.block_lt_of_cell? _ _ c3)).trans c3
      have OW2 := Lib.hid (own_still OW.out hb2)
      rw [HK.out] at ho2
      have OV := Lib.hid ho2
      have B2 := Lib.hid (B0.out.trans (hb2.mono B0.out.size))
      rw [HK.out]
      clear ho2 hb2 MK OW a0 c3
      have hkk : ((K : Int) != (K : Int)) = false := by simp
      go_wp2_with fail
      go_loopw [7] (fun iv wr => LikeRel2 w2 K iv wr) (fun iv _ => K - (intOf iv).toNat)
      case atStart => exact ⟨0, by omega, by go_num, Below.refl _ _⟩
      case round =>
        obtain ⟨k, hk, rfl, hb3⟩ := hrel
        have B3 := Lib.hid hb3
        clear hb3
        by_cases hlk : k < K
        · obtain ⟨vg, rfl, _, _⟩ := own_form OV.out (by omega)
          obtain ⟨rg, rfl, _, _⟩ := own_form OW2.out (by omega)
          have hma := markCells_at mk k (by rw [HK.out]; exact hlk)
          have hv3 := own_still OV.out B3.out
          have hr3 := own_still OW2.out B3.out
          have d3 : wr.cell? ⟨hb, i * 4 + 3, none⟩ = some (.slice (some ⟨rg, 0, none⟩) K rc) := (B3.out.cell (p := ⟨hb, i * 4 + 3, none⟩) (World.block_lt_of_cell? _ _ c3')).trans c3'
          have v0 : wr.cell? ⟨vg, k * 2, none⟩ = some (.int .i64 (mth mk k).1) := by rw [hv3.cellAt (k * 2) (by omega)]; exact hma.1
          have v1 : wr.cell? ⟨vg, k * 2 + 1, none⟩ = some (.int .i64 (mth mk k).2) := by rw [hv3.cellAt (k * 2 + 1) (by omega)]; exact hma.2
          have r0 : wr.cell? ⟨rg, k * 2, none⟩ = some (.int .i64 (mth mk k).1) := by rw [hr3.cellAt (k * 2) (by omega)]; exact hma.1
          have r1 : wr.cell? ⟨rg, k * 2 + 1, none⟩ = some (.int .i64 (mth mk k).2) := by rw [hr3.cellAt (k * 2 + 1) (by omega)]; exact hma.2
          generalize (mth mk k).1 = x at *
          generalize (mth mk k).2 = y at *
          have hx : (x != x) = false := by simp
          have hy : (y != y) = false := by simp
          have i1 : (0 : Int) ≤ (k : Int) := by omega
          have i2 : (k : Int) < (K : Int) := by omega
          have i3 : (0 : Int) ≤ (i : Int) := by omega
          have i4 : (i : Int) < (P : Int) := by omega
          clear hma hv3 hr3 c3'
          go_upto_region 10 with (fail)
          go_quiet (fail)
          go_wp2_with fail
          go_roundw
          case rel => exact ⟨k + 1, by omega, by go_num, B3.out.trans (below_drewN (Below.refl _ _) _)⟩
          case measure => simp [intOf]; omega
        · go_wp2_with fail
          go_roundw
          case rel => exact ⟨i + 1, by omega, by go_num, B2.out.trans (B3.out.mono B2.out.size)⟩
          case measure => simp [intOf]; omega
    · go_wp2_with fail
      go_ret
      exact ⟨rfl, B0.out⟩
end

def CellsRel (w1 : World) (n : Nat) (iv : Value) (wr : World) : Prop := ∃ k : Nat, k ≤ n ∧ iv = .int .i64 k ∧ Below w1.heap.size w1 wr

set_option maxHeartbeats 4000000 in
set_option maxRecDepth 100000 in
theorem cells_any {w : World} {b g rb base : Nat} {A : Option Addr} {c : Nat} {m : Mm} (h : MemAt w b g m.cs m.cnt) (hr : RefAt w rb base A c m.cs m.cnt) (hl : m.cs.length ≤ 100) :
    Calls Try.prog 21 #[.pointer (some ⟨b, 0, none⟩), .pointer (some ⟨rb, 0, none⟩)] w fun e w' => e = .returned (.bool true) ∧ Below w.heap.size w w' := by
  have H := Lib.hid h
  have HR := Lib.hid hr
  have hseen : Hid (seen m.cs 0 100 = m.cs) := by
    simp only [Hid, seen]
    simp
    exact List.take_of_length_le hl
  clear h hr
  generalize hcs : m.cs = cs at *
  have HCS := Lib.hid hcs
  clear hcs
  go_enter Try.func21, Try.ntmps21
  go_wp2_with fail
  refine (look_any _ _ H.out).mono ?_
  rw [hseen.out]
  rintro e w1 ⟨v, rfl, hown, hb⟩
  obtain ⟨lA, lc, rfl⟩ := own_slice hown
  have HO := Lib.hid hown
  have HB := Lib.hid hb
  have HR1 := Lib.hid (HR.out.only (Only.of_below hb (fun _ => False)) (fun _ _ => id))
  clear hown hb
  go_wp2_with fail
  go_loopw [6] (fun iv wr => CellsRel w1 cs.length iv wr) (fun iv _ => cs.length - (intOf iv).toNat)
  case atStart => exact ⟨0, by omega, by go_num, Below.refl _ _⟩
  case round =>
    obtain ⟨k, hk, rfl, hb2⟩ := hrel
    have B2 := Lib.hid hb2
    clear hb2
    have hr2 := HR1.out.only (Only.of_below B2.out (fun _ => False)) (fun _ _ => id)
    have g0 := hr2.c0
    by_cases hlt : k < cs.length
    · obtain ⟨lg, rfl, _, hlg⟩ := own_form HO.out (by omega)
      obtain ⟨rg, rfl, _, _, _⟩ := hr2.form (by omega)
      have g1 := hr2.at_ k hlt
      have g2 := own_int (own_still HO.out B2.out) k hlt
      generalize nth cs k = x at *
      have hne : (x != x) = false := by simp
      have i1 : (0 : Int) ≤ (k : Int) := by omega
      have i2 : (k : Int) < (cs.length : Int) := by omega
      clear hr2
      go_upto_region 5 with (fail)
      go_quiet (fail)
      go_wp2_with fail
      go_roundw
      case rel => exact ⟨k + 1, by omega, by go_num, B2.out.trans (below_drewN (Below.refl _ _) _)⟩
      case measure => simp [intOf]; omega
    · clear hr2
      have hee : ((cs.length : Int) == (cs.length : Int)) = true := by simp
      go_wp2_with fail
      go_ret
      exact ⟨rfl, HB.out.trans (B2.out.mono HB.out.size)⟩
end Go.Proofs.Ytodclnfhhaiblaa
