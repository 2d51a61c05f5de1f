/-
  Texts of our own, one behind the other (ChAns, ChPlay): what the laws' proofs rest on; each says at its head what it holds. No conditions.
-/
import Derived.Test.YtholpgcghpikgaaGreatPkCc
import Derived.Deep.LoopGhost
/-
  Layer 14: a row of answers, and a row of calls that came in.
-/
namespace Go.Proofs.YtholpgcghpikgaaGreat
open Go.ChangeShapes Go.WideShapes Go.ChangeAt Go.RowKit Go.Shelf
set_option linter.unusedVariables false

/-- An answer's j-th cell. -/
def An.cell (a : An) (j : Nat) : Value := a.cells.getD j (.bool false)
/-- n answers, as cells. -/
def ansA (f : Nat → An) (n : Nat) : Array Value := Array.ofFn (n := n * 6) fun i => (f (i.val / 6)).cell (i.val % 6)
theorem ansA_size (f : Nat → An) (n : Nat) : (ansA f n).size = n * 6 := by unfold ansA; simp
theorem ansA_at (f : Nat → An) {n k j : Nat} (hk : k < n) (hj : j < 6) : (ansA f n)[k * 6 + j]? = some ((f k).cell j) := by
  unfold ansA
  rw [Array.getElem?_ofFn, dif_pos (by omega)]
  simp only
  rw [show (k * 6 + j) / 6 = k by omega, show (k * 6 + j) % 6 = j by omega]
theorem ansA_get (f : Nat → An) (n i : Nat) (h : i < (ansA f n).size) : (ansA f n)[i] = (f (i / 6)).cell (i % 6) := by
  have e : (ansA f n)[i]? = some ((f (i / 6)).cell (i % 6)) := by
    rw [ansA_size] at h
    have := ansA_at f (n := n) (k := i / 6) (j := i % 6) (by omega) (Nat.mod_lt _ (by omega))
    rwa [show i / 6 * 6 + i % 6 = i by omega] at this
  rw [Array.getElem?_eq_getElem h] at e
  exact Option.some.inj e
theorem ansA_congr {f g : Nat → An} {n : Nat} (h : ∀ k, k < n → f k = g k) : ansA f n = ansA g n := by
  apply Array.ext
  · rw [ansA_size, ansA_size]
  · intro i h1 h2
    rw [ansA_get, ansA_get, h (i / 6) (by rw [ansA_size] at h1; omega)]
theorem ansA_made (n : Nat) : madeCells #[.int .i64 0, .int .i64 0, .int .i64 0, .bool false, .int .i64 0, .int .i64 0] (n * 6) = ansA (fun _ => An.nil) n := by
  apply Array.ext
  · rw [ansA_size]; simp [size_madeCells]
  · intro i h1 h2
    rw [ansA_get]
    have : i % 6 < 6 := Nat.mod_lt _ (by omega)
    simp only [madeCells, Array.getElem_map, Array.getElem_range]
    rw [show (#[.int .i64 0, .int .i64 0, .int .i64 0, .bool false, .int .i64 0, .int .i64 0] : Array Value).size = 6 from rfl]
    rcases (by omega : i % 6 = 0 ∨ i % 6 = 1 ∨ i % 6 = 2 ∨ i % 6 = 3 ∨ i % 6 = 4 ∨ i % 6 = 5) with h | h | h | h | h | h <;> rw [h] <;> rfl
theorem wpList_make6 {P : Program} (w : World) {ops : Array Oper} {rest : List Oper} {o : Oper} {a : Act} {Q : Exit → Act → World → Prop}
    (hg : o.guard = none) (l c : Operand) (t : TypeId) (hop : o.op = Op.makeSlice t l c)
    (e : TypeId) (i : TypeInfo) (z : Value) (ht : P.underlying t = some (.slice e)) (hi : P.info? e = some i) (hz : i.zero = some z) (hsize : i.size = 6) (hz1 : z.cells = #[.int .i64 0, .int .i64 0, .int .i64 0, .bool false, .int .i64 0, .int .i64 0])
    (kl kc : IntKind) (n : Nat) (hl : a.eval l = .int kl (n : Int)) (hc : a.eval c = .int kc (n : Int)) (hb' : (i.bytes : Int) * (n : Int) ≤ 281474976710656) (h63 : n ≤ 9223372036854775807)
    (hK : wpList P ops Q rest (a.put o.dst (.slice (some ⟨w.heap.size, 0, none⟩) n n)) (w.alloc (.cells (ansA (fun _ => An.nil) n) e))) :
    wpList P ops Q (o :: rest) a w := by
  refine wpList_plain hg fun K hK' => ?_
  have hrun := run_make (P := P) w t e i z ht hi hz kl kc n n (by omega) (Int.le_refl _) hb' (by omega)
  simp only [Int.toNat_natCast, hsize, hz1, ansA_made] at hrun
  unfold Oper.wp
  simp [execOp, hop, hl, hc, hrun, Result.andThen]
  exact hK' _ _ hK
/-- f, with a at k. -/
def updA (f : Nat → An) (k : Nat) (a : An) : Nat → An := fun j => if j = k then a else f j
theorem ansA_put (f : Nat → An) (n k : Nat) (a : An) : ((((((ansA f n).setIfInBounds (k * 6) (.int .i64 a.e)).setIfInBounds (k * 6 + 1) (.int .i64 a.x)).setIfInBounds (k * 6 + 2) (.int .i64 a.t.p)).setIfInBounds (k * 6 + 3) (.bool a.t.sh)).setIfInBounds (k * 6 + 4) (.int .i64 a.t.bk)).setIfInBounds (k * 6 + 5) (.int .i64 a.t.off) = ansA (updA f k a) n := by
  apply Array.ext
  · simp only [Array.size_setIfInBounds, ansA_size]
  · intro i h1 h2
    rw [ansA_get]
    have hs : i < (ansA f n).size := by rw [ansA_size] at h2 ⊢; exact h2
    have key : ∀ (x0 x1 x2 x3 x4 x5 : Value), (((((((ansA f n).setIfInBounds (k * 6) x0).setIfInBounds (k * 6 + 1) x1).setIfInBounds (k * 6 + 2) x2).setIfInBounds (k * 6 + 3) x3).setIfInBounds (k * 6 + 4) x4).setIfInBounds (k * 6 + 5) x5)[i]? = some (if i = k * 6 + 5 then x5 else if i = k * 6 + 4 then x4 else if i = k * 6 + 3 then x3 else if i = k * 6 + 2 then x2 else if i = k * 6 + 1 then x1 else if i = k * 6 then x0 else (f (i / 6)).cell (i % 6)) := by
      intro x0 x1 x2 x3 x4 x5
      have h0 : (ansA f n)[i]? = some ((f (i / 6)).cell (i % 6)) := by rw [Array.getElem?_eq_getElem hs, ansA_get]
      simp only [Array.getElem?_setIfInBounds, Array.size_setIfInBounds, h0]
      by_cases e5 : i = k * 6 + 5
      · rw [if_pos e5.symm, if_pos (by omega), if_pos e5]
      rw [if_neg (fun q => e5 q.symm), if_neg e5]
      by_cases e4 : i = k * 6 + 4
      · rw [if_pos e4.symm, if_pos (by omega), if_pos e4]
      rw [if_neg (fun q => e4 q.symm), if_neg e4]
      by_cases e3 : i = k * 6 + 3
      · rw [if_pos e3.symm, if_pos (by omega), if_pos e3]
      rw [if_neg (fun q => e3 q.symm), if_neg e3]
      by_cases e2 : i = k * 6 + 2
      · rw [if_pos e2.symm, if_pos (by omega), if_pos e2]
      rw [if_neg (fun q => e2 q.symm), if_neg e2]
      by_cases e1 : i = k * 6 + 1
      · rw [if_pos e1.symm, if_pos (by omega), if_pos e1]
      rw [if_neg (fun q => e1 q.symm), if_neg e1]
      by_cases e0 : i = k * 6
      · rw [if_pos e0.symm, if_pos (by omega), if_pos e0]
      rw [if_neg (fun q => e0 q.symm), if_neg e0]
    have kk := key (.int .i64 a.e) (.int .i64 a.x) (.int .i64 a.t.p) (.bool a.t.sh) (.int .i64 a.t.bk) (.int .i64 a.t.off)
    rw [Array.getElem?_eq_getElem h1] at kk
    rw [Option.some.inj kk]
    unfold updA
    by_cases h : i / 6 = k
    · rw [if_pos h]
      have hi : i = k * 6 + i % 6 := by omega
      have : i % 6 < 6 := Nat.mod_lt _ (by omega)
      rcases (by omega : i % 6 = 0 ∨ i % 6 = 1 ∨ i % 6 = 2 ∨ i % 6 = 3 ∨ i % 6 = 4 ∨ i % 6 = 5) with e | e | e | e | e | e
      · rw [if_neg (by omega), if_neg (by omega), if_neg (by omega), if_neg (by omega), if_neg (by omega), if_pos (by omega), e]; rfl
      · rw [if_neg (by omega), if_neg (by omega), if_neg (by omega), if_neg (by omega), if_pos (by omega), e]; rfl
      · rw [if_neg (by omega), if_neg (by omega), if_neg (by omega), if_pos (by omega), e]; rfl
      · rw [if_neg (by omega), if_neg (by omega), if_pos (by omega), e]; rfl
      · rw [if_neg (by omega), if_pos (by omega), e]; rfl
      · rw [if_pos (by omega), e]; rfl
    · rw [if_neg h]
      rw [if_neg (by omega), if_neg (by omega), if_neg (by omega), if_neg (by omega), if_neg (by omega), if_neg (by omega)]
/-- Six cells from o on are written. -/
def six6 (w : World) (q o : Nat) (a : An) : World := (((((w.setCell ⟨q, o, none⟩ (.int .i64 a.e)).setCell ⟨q, o + 1, none⟩ (.int .i64 a.x)).setCell ⟨q, o + 2, none⟩ (.int .i64 a.t.p)).setCell ⟨q, o + 3, none⟩ (.bool a.t.sh)).setCell ⟨q, o + 4, none⟩ (.int .i64 a.t.bk)).setCell ⟨q, o + 5, none⟩ (.int .i64 a.t.off)
theorem six6_only (w : World) (q o : Nat) (a : An) : Only (fun k => k = q) w (six6 w q o a) :=
  ((((((Only.refl (fun k => k = q) w).setCell (p := ⟨q, o, none⟩) (.inl rfl) _).setCell (p := ⟨q, o + 1, none⟩) (.inl rfl) _).setCell (p := ⟨q, o + 2, none⟩) (.inl rfl) _).setCell (p := ⟨q, o + 3, none⟩) (.inl rfl) _).setCell (p := ⟨q, o + 4, none⟩) (.inl rfl) _).setCell (p := ⟨q, o + 5, none⟩) (.inl rfl) _
theorem six6_put {w : World} {q n k : Nat} {t : TypeId} {f : Nat → An} (h : Whole w q t (ansA f n)) (a : An) : Whole (six6 w q (k * 6) a) q t (ansA (updA f k a) n) := by
  rw [← ansA_put]
  exact (((((Whole.put h _ _).put _ _).put _ _).put _ _).put _ _).put _ _
theorem row_an {w : World} {q n k : Nat} {t : TypeId} {f : Nat → An} (h : Whole w q t (ansA f n)) (hk : k < n) : w.cell? ⟨q, k * 6, none⟩ = some (.int .i64 (f k).e) ∧ w.cell? ⟨q, k * 6 + 1, none⟩ = some (.int .i64 (f k).x) ∧ w.cell? ⟨q, k * 6 + 2, none⟩ = some (.int .i64 (f k).t.p) ∧ w.cell? ⟨q, k * 6 + 3, none⟩ = some (.bool (f k).t.sh) ∧ w.cell? ⟨q, k * 6 + 4, none⟩ = some (.int .i64 (f k).t.bk) ∧ w.cell? ⟨q, k * 6 + 5, none⟩ = some (.int .i64 (f k).t.off) :=
  ⟨(h.cell _).trans (ansA_at f hk (j := 0) (by omega)), (h.cell _).trans (ansA_at f hk (j := 1) (by omega)), (h.cell _).trans (ansA_at f hk (j := 2) (by omega)), (h.cell _).trans (ansA_at f hk (j := 3) (by omega)), (h.cell _).trans (ansA_at f hk (j := 4) (by omega)), (h.cell _).trans (ansA_at f hk (j := 5) (by omega))⟩
theorem row_anf {w : World} {q : Nat} {t : TypeId} {cs : Array Value} (h : Whole w q t cs) (o : Nat) : w.frozen? ⟨q, o, none⟩ = false ∧ w.frozen? ⟨q, o + 1, none⟩ = false ∧ w.frozen? ⟨q, o + 2, none⟩ = false ∧ w.frozen? ⟨q, o + 3, none⟩ = false ∧ w.frozen? ⟨q, o + 4, none⟩ = false ∧ w.frozen? ⟨q, o + 5, none⟩ = false :=
  ⟨h.frozen _, h.frozen _, h.frozen _, h.frozen _, h.frozen _, h.frozen _⟩

/-! Calls that came in. -/
/-- A call's cells. -/
structure CallAt (w : World) (b o : Nat) (c : Cl) : Prop where
  c0 : w.cell? ⟨b, o, none⟩ = some (.int .i64 c.k)
  c1 : w.cell? ⟨b, o + 1, none⟩ = some (.int .i64 c.a)
  c2 : w.cell? ⟨b, o + 2, none⟩ = some (.int .i64 c.n)
  c3 : w.cell? ⟨b, o + 3, none⟩ = some (.int .i64 c.nw)
  c4 : w.cell? ⟨b, o + 4, none⟩ = some (.int .i64 c.tw)
  c5 : w.cell? ⟨b, o + 5, none⟩ = some (.int .i64 c.p)
  c6 : w.cell? ⟨b, o + 6, none⟩ = some (.int .i64 c.f)
  c7 : w.cell? ⟨b, o + 7, none⟩ = some (.int .i64 c.b)
  c8 : w.cell? ⟨b, o + 8, none⟩ = some (.int .i64 c.o)
theorem CallAt.below {w w' : World} {B b o : Nat} {c : Cl} (h : CallAt w b o c) (hb : Below B w w') (hlt : b < B) : CallAt w' b o c :=
  ⟨(hb.cell (p := ⟨b, o, none⟩) hlt).trans h.c0, (hb.cell (p := ⟨b, o + 1, none⟩) hlt).trans h.c1, (hb.cell (p := ⟨b, o + 2, none⟩) hlt).trans h.c2, (hb.cell (p := ⟨b, o + 3, none⟩) hlt).trans h.c3, (hb.cell (p := ⟨b, o + 4, none⟩) hlt).trans h.c4, (hb.cell (p := ⟨b, o + 5, none⟩) hlt).trans h.c5, (hb.cell (p := ⟨b, o + 6, none⟩) hlt).trans h.c6, (hb.cell (p := ⟨b, o + 7, none⟩) hlt).trans h.c7, (hb.cell (p := ⟨b, o + 8, none⟩) hlt).trans h.c8⟩
/-- A slice of calls. -/
def CallsAt (w : World) (A : Option Addr) (l : List Cl) : Prop := l = [] ∨ ∃ b off, A = some ⟨b, off, none⟩ ∧ b < w.heap.size ∧ ∀ (j : Nat) (h : j < l.length), CallAt w b (off + j * 9) l[j]
theorem CallsAt.below {w w' : World} {A : Option Addr} {l : List Cl} (h : CallsAt w A l) (hb : Below w.heap.size w w') : CallsAt w' A l := by
  rcases h with h | ⟨b, off, e, hlt, hc⟩
  · exact .inl h
  · exact .inr ⟨b, off, e, Nat.lt_of_lt_of_le hlt hb.size, fun j hj => (hc j hj).below hb hlt⟩
theorem CallsAt.at {w : World} {A : Option Addr} {l : List Cl} (h : CallsAt w A l) {k : Nat} (hk : k < l.length) : ∃ b off, A = some ⟨b, off, none⟩ ∧ b < w.heap.size ∧ CallAt w b (off + k * 9) (nthC l k) := by
  rcases h with h | ⟨b, off, e, hlt, hc⟩
  · rw [h] at hk; simp at hk
  · refine ⟨b, off, e, hlt, ?_⟩
    have : nthC l k = l[k] := by unfold nthC; rw [List.getD_eq_getElem?_getD, List.getElem?_eq_getElem hk]; rfl
    rw [this]; exact hc k hk
/-- The space's and the answers' variables, when a call has been done. -/
theorem lay_play {w wr : World} {L : List (Nat × TypeId × Array Value)} {q4 q5 n k B : Nat} {f : Nat → An} {a b v : Value} {Y : List Ar} (G : Bag w wr ((q5, 34, ansA f n) :: (q4, 26, #[a, b]) :: L)) (M : Mine B wr v Y) (hne : q4 ≠ q5) (hL : ∀ x ∈ L, x.1 ≠ q4 ∧ x.1 ≠ q5) (h4 : w.heap.size ≤ q4) (h5 : w.heap.size ≤ q5) (x x' : Value) (an : An) {W1 W2 : World} (e1 : W1 = setTwo wr q4 x x') (e2 : W2 = six6 W1 q5 (k * 6) an) :
    Bag w W2 ((q5, 34, ansA (updA f k an) n) :: (q4, 26, #[x, x']) :: L) ∧ Mine B W2 v Y := by
  have o1 : Only (fun k => k = q4) wr W1 := by rw [e1]; exact two_only wr q4 x x'
  have g4 : Whole W1 q4 26 #[x, x'] := by rw [e1]; exact two_put G.v1 x x'
  have g5 : Whole W1 q5 34 (ansA f n) := G.v0.only o1 (by show ¬ q5 = q4; omega)
  have m1 : Mine B W1 v Y := by rw [e1]; exact mine_two M G.v1 (by decide) x x'
  have o2 : Only (fun k => k = q5) W1 W2 := by rw [e2]; exact six6_only W1 q5 _ _
  have g6 : Whole W2 q5 34 (ansA (updA f k an) n) := by rw [e2]; exact six6_put g5 an
  refine ⟨⟨fun y hy => ?_, (G.bel.trans (o1.below (fun k hk => by omega) G.bel.size)).trans (o2.below (fun k hk => by omega) (Nat.le_trans G.bel.size o1.size))⟩, m1.only o2 (fun k hk e => own_apart m1 g5 (by decide) (by rw [hk, e]))⟩
  rcases List.mem_cons.1 hy with rfl | hy
  · exact g6
  rcases List.mem_cons.1 hy with rfl | hy
  · exact g4.only o2 (by show ¬ q4 = q5; omega)
  · have := hL y hy
    exact ((G.tail.tail.all y hy).only o1 this.1).only o2 this.2
end Go.Proofs.YtholpgcghpikgaaGreat

/-
  Layer 14: calls, one behind the other: the contract.
-/
namespace Go.Proofs.YtholpgcghpikgaaGreat
open Go.ChangeShapes Go.WideShapes Go.ChangeAt Go.RowKit Go.Shelf
set_option linter.unusedVariables false

/-- The space behind all calls, and what each was told. -/
def GivesP (w : World) (l : List Cl) (r : Ending) (w' : World) : Prop :=
  ∃ v' q, r = .returned (.tuple #[scV v' (plS l l.length), .slice (some ⟨q, 0, none⟩) l.length l.length]) ∧ w.heap.size ≤ q ∧ Whole w' q 34 (ansA (plA l) l.length) ∧ Mine w.heap.size w' v' (plS l l.length).l ∧ Below w.heap.size w w'
/-- What has been told of the first k calls. -/
noncomputable def toldA (l : List Cl) (k : Nat) : Nat → An := fun j => if j < k then plA l j else An.nil
theorem told_0 (l : List Cl) : toldA l 0 = fun _ => An.nil := by funext j; unfold toldA; rw [if_neg (by omega)]
theorem told_up (l : List Cl) (k : Nat) : updA (toldA l k) k (plA l k) = toldA l (k + 1) := by
  funext j
  unfold updA toldA
  by_cases h : j = k
  · rw [if_pos h, if_pos (by omega), h]
  · rw [if_neg h]
    by_cases h2 : j < k
    · rw [if_pos h2, if_pos (by omega)]
    · rw [if_neg h2, if_neg (by omega)]
theorem told_all (l : List Cl) (n : Nat) : ansA (toldA l n) n = ansA (plA l) n := ansA_congr fun k hk => by unfold toldA; rw [if_pos hk]
/-- What the loop holds. -/
def PlRel (w : World) (l : List Cl) (n q4 q5 k : Nat) (wr : World) : Prop :=
  ∃ v' : Value, Bag w wr [(q5, 34, ansA (toldA l k) n), (q4, 26, #[v', .int .i64 (plS l k).n]), (w.heap.size, 26, #[.slice none 0 0, .int .i64 0])] ∧ Mine w.heap.size wr v' (plS l k).l

set_option maxRecDepth 4000 in
set_option maxHeartbeats 8000000 in
theorem play_c (l : List Cl) (A : Option Addr) (cc : Nat) (w : World) (hl : l.length ≤ 1000) (hA : CallsAt w A l) (ho : ∀ k, k < l.length → i64 (nthC l k).o) : Calls Tryz.prog 9 #[.slice A l.length cc] w (GivesP w l) := by
  have S0 : Hid (∀ W, Calls Tryz.prog 13 #[] W fun e w' => e = .returned (.agg #[.slice none 0 0, .int .i64 65536]) ∧ Below W.heap.size W w') := Lib.hid scStart_c
  have HA := Lib.hid hA
  have HO := Lib.hid ho
  have HG : Hid (GivesP w l = fun r w' => ∃ v' q, r = .returned (.tuple #[scV v' (plS l l.length), .slice (some ⟨q, 0, none⟩) l.length l.length]) ∧ w.heap.size ≤ q ∧ Whole w' q 34 (ansA (plA l) l.length) ∧ Mine w.heap.size w' v' (plS l l.length).l ∧ Below w.heap.size w w') := Lib.hid rfl
  obtain ⟨i0, hi0, hz0, hz1, hz2⟩ : ∃ i0, Tryz.prog.info? 34 = some i0 ∧ i0.zero = some (.agg #[.int .i64 0, .int .i64 0, .int .i64 0, .bool false, .int .i64 0, .int .i64 0]) ∧ i0.size = 6 ∧ i0.bytes = 48 := ⟨_, rfl, by kernel_rfl, by kernel_rfl, by kernel_rfl⟩
  clear hA ho
  generalize hn : l.length = n at *
  have HN := Lib.hid hn
  clear hn
  have MS : ∀ W : World, (Instr.makeSlice 27 (.int .i64 (n : Int)) (.int .i64 (n : Int))).run Tryz.prog W = .ok (.slice (some ⟨W.heap.size, 0, none⟩) n n) (W.alloc (.cells (ansA (fun _ => An.nil) n) 34)) := fun W => by
    have hrun := run_make (P := Tryz.prog) W 27 34 i0 _ Tryz.underlying27 hi0 hz0 .i64 .i64 n n (by omega) (Int.le_refl _) (by rw [hz2]; omega) (by omega)
    rw [Int.toNat_natCast, hz1, show (Value.agg #[.int .i64 0, .int .i64 0, .int .i64 0, .bool false, .int .i64 0, .int .i64 0]).cells = #[.int .i64 0, .int .i64 0, .int .i64 0, .bool false, .int .i64 0, .int .i64 0] from rfl, ansA_made] at hrun
    exact hrun
  clear hi0 hz0 hz1 hz2
  have G := Lib.hid ((Bag.new w).add 26 #[.slice none 0 0, .int .i64 0])
  go_enter Tryz.func9, Tryz.ntmps9
  go_wp2_with fail
  refine (S0.out _).mono ?_
  rintro e w1 ⟨rfl, hb⟩
  have hB1 := Lib.hid hb.size
  have G := Lib.hid (G.out.still hb)
  have G := Lib.hid (G.out.add 26 #[.slice none 0 0, .int .i64 65536])
  clear hb S0
  have L4 : Hid (w.heap.size < w1.heap.size) := Lib.hid (G.out.v1 |> fun h => by have := G.out.tail.v0; exact Nat.lt_of_lt_of_le (Nat.lt_succ_self _) (by have := hB1.out; simpa using this))
  have G := Lib.hid (G.out.add 34 (ansA (fun _ => An.nil) n))
  simp only [World.size_alloc] at G
  go_wp2_with fail
  generalize World.alloc (World.alloc w1 _) _ = w2 at *
  generalize w1.heap.size = q4 at *
  go_loopg [6, 7, 14] n (fun g s6 s7 s14 wr => ∃ k : Nat, k ≤ n ∧ n - k ≤ g ∧ s14 = .int .i64 k ∧ Hid (PlRel w l n q4 (q4 + 1) k wr))
  case atStart => exact ⟨0, by omega, by omega, rfl, Lib.hid ⟨_, by rw [told_0]; exact G.out, Mine.nil _ _⟩⟩
  case round =>
    obtain ⟨k, hk, hg, rfl, HR⟩ := hrel
    obtain ⟨vs, GB, MM⟩ := HR.out
    obtain ⟨A1, c1, rfl⟩ := MM.is
    have M := Lib.hid MM
    clear G HR MM
    have G := Lib.hid GB
    clear GB
    by_cases hlt : k < n
    · have hltz : (k : Int) < (n : Int) := by omega
      have hz0 : (0 : Int) ≤ (k : Int) := by omega
      obtain ⟨b, off, rfl, hb, hc⟩ := (HA.out.below G.out.bel).at (k := k) (by rw [HN.out]; exact hlt)
      obtain ⟨c0, c1, c2, c3, c4, c5, c6, c7, c8⟩ := hc
      have HD := Lib.hid (HO.out k hlt)
      obtain ⟨ae, ax, ⟨tp, tsh, tbk, toff⟩, han⟩ : ∃ ae ax t, plA l k = ⟨ae, ax, t⟩ := ⟨_, _, _, rfl⟩
      obtain ⟨n1, hn1⟩ : ∃ n1, (plS l (k + 1)).n = n1 := ⟨_, rfl⟩
      obtain ⟨ck, ca, cn, cnw, ctw, cp, cf, cb, co, hcl⟩ : ∃ ck ca cn cnw ctw cp cf cb co, nthC l k = ⟨ck, ca, cn, cnw, ctw, cp, cf, cb, co⟩ := ⟨_, _, _, _, _, _, _, _, _, rfl⟩
      rw [hcl] at c0 c1 c2 c3 c4 c5 c6 c7 c8 HD
      simp only at c0 c1 c2 c3 c4 c5 c6 c7 c8
      have C1 : Hid (∀ W u, Holds W u (plS l k).l → Calls Tryz.prog 10 #[.agg #[u, .int .i64 (plS l k).n], .agg #[.int .i64 ck, .int .i64 ca, .int .i64 cn, .int .i64 cnw, .int .i64 ctw, .int .i64 cp, .int .i64 cf, .int .i64 cb, .int .i64 co]] W fun e w' => ∃ v', e = .returned (.tuple #[.agg #[v', .int .i64 n1], .agg #[.int .i64 ae, .int .i64 ax, .int .i64 tp, .bool tsh, .int .i64 tbk, .int .i64 toff]]) ∧ Mine W.heap.size w' v' (plS l (k + 1)).l ∧ Below W.heap.size W w') := Lib.hid (fun W u h => by
        have := do_c (s := plS l k) h (sc_len (pl_right l k)) (nthC l k) (by rw [hcl]; exact HD.out)
        rw [show (chR (plS l k) (nthC l k)).2 = plA l k from rfl, show (chR (plS l k) (nthC l k)).1 = plS l (k + 1) from rfl, han, hcl] at this
        unfold GivesS scV at this
        rw [hn1] at this
        exact this)
      have HAN := Lib.hid han
      have HN1 := Lib.hid hn1
      clear han hn1 hcl
      have G := Lib.hid (G.out.add 38 #[.int .i64 ck, .int .i64 ca, .int .i64 cn, .int .i64 cnw, .int .i64 ctw, .int .i64 cp, .int .i64 cf, .int .i64 cb, .int .i64 co])
      have M := Lib.hid (M.out.still (below_new wr (.cells #[.int .i64 ck, .int .i64 ca, .int .i64 cn, .int .i64 cnw, .int .i64 ctw, .int .i64 cp, .int .i64 cf, .int .i64 cb, .int .i64 co] 38)))
      go_upto_region 6 with (fail)
      clear c0 c1 c2 c3 c4 c5 c6 c7 c8
      generalize World.alloc wr _ = w3 at *
      generalize wr.heap.size = qc at *
      generalize (plS l k).l.length = ln at *
      generalize (plS l k).n = n0 at *
      obtain ⟨c0, c1, c2, c3, c4, c5, c6, c7, c8⟩ := nine G.out.v0
      obtain ⟨d0, d1⟩ := row2c G.out.v2
      go_wp2_with fail
      refine (C1.out _ _ M.out.holds).mono ?_
      rintro e w4 ⟨v4, rfl, hm, hb⟩
      obtain ⟨A4, c4x, rfl⟩ := hm.is
      have SZ := Lib.hid G.out.bel.size
      have G := Lib.hid (G.out.still hb).tail
      have M := Lib.hid (hm.base SZ.out)
      clear hm hb C1 c0 c1 c2 c3 c4 c5 c6 c7 c8 d0 d1
      obtain ⟨d0, d1⟩ := row2c G.out.v1
      obtain ⟨f0, f1⟩ := row2f G.out.v1
      obtain ⟨e0, e1, e2, e3, e4, e5⟩ := row_an G.out.v0 hlt
      obtain ⟨g0, g1, g2, g3, g4, g5⟩ := row_anf G.out.v0 (k * 6)
      have hne : q4 ≠ q4 + 1 := by omega
      have hne' : q4 + 1 ≠ q4 := by omega
      generalize (plS l (k + 1)).l.length = ln4 at *
      have HL4 := L4.out
      go_upto_region 7 with (fail)
      obtain ⟨GL, ML⟩ := lay_play (k := k) G.out M.out hne (fun x hx => by
        simp only [List.mem_cons, List.not_mem_nil, or_false] at hx
        subst hx
        simp only
        omega) (by omega) (by omega) (.slice A4 ln4 c4x) (.int .i64 n1) ⟨ae, ax, ⟨tp, tsh, tbk, toff⟩⟩ rfl rfl
      have key : updA (toldA l k) k ⟨ae, ax, ⟨tp, tsh, tbk, toff⟩⟩ = toldA l (k + 1) := by rw [← HAN.out, told_up]
      rw [key] at GL
      have HR : Hid (PlRel w l n q4 (q4 + 1) (k + 1) (six6 (setTwo w4 q4 (.slice A4 ln4 c4x) (.int .i64 n1)) (q4 + 1) (k * 6) ⟨ae, ax, ⟨tp, tsh, tbk, toff⟩⟩)) := Lib.hid ⟨.slice A4 ln4 c4x, by rw [HN1.out]; exact GL, ML⟩
      clear key
      unfold six6 setTwo at HR
      dsimp only at HR
      clear GL ML G M d0 d1 f0 f1 e0 e1 e2 e3 e4 e5 g0 g1 g2 g3 g4 g5 hne hne' HL4 HAN HN1 HD
      generalize World.setCell _ _ _ = W5 at *
      go_wp2_with fail
      go_roundg (n - (k + 1))
      case measure => omega
      case rel => exact ⟨k + 1, by omega, by omega, by go_num, HR⟩
    · obtain rfl : k = n := by omega
      clear hk hg hlt HO
      have hz : ¬ (k : Int) < (k : Int) := by omega
      generalize hln : (plS l k).l.length = ln at *
      generalize hn0 : (plS l k).n = n0 at *
      obtain ⟨d0, d1⟩ := row2c G.out.v1
      obtain ⟨h0, h1⟩ := row2c G.out.v2
      obtain ⟨f0, f1⟩ := row2f G.out.v2
      have HLN := Lib.hid hln
      have HN0 := Lib.hid hn0
      clear hln hn0
      go_wp2_with fail
      have HL4 := L4.out
      have o1 := two_only wr w.heap.size (.slice A1 ln c1) (.int .i64 n0)
      have E2 : Whole (setTwo wr w.heap.size (.slice A1 ln c1) (.int .i64 n0)) w.heap.size 26 #[.slice A1 ln c1, .int .i64 n0] := two_put G.out.v2 _ _
      have E5 : Whole (setTwo wr w.heap.size (.slice A1 ln c1) (.int .i64 n0)) (q4 + 1) 34 (ansA (toldA l k) k) := G.out.v0.only o1 (by show ¬ q4 + 1 = w.heap.size; omega)
      have EM := mine_two M.out G.out.v2 (by decide) (.slice A1 ln c1) (.int .i64 n0)
      have EB := G.out.bel.trans (o1.below (fun k hk => Nat.le_of_eq hk.symm) G.out.bel.size)
      refine bodyPost_ret (results_row_tmp rfl _ _ w.heap.size 26 #[.slice A1 ln c1, .int .i64 n0] (0, 0) _ rfl E2 Tryz.underlying26 rfl (by kernel_rfl)) rfl ?_
      rw [HG.out]
      refine ⟨.slice A1 ln c1, q4 + 1, ?_, ?_, ?_, EM, EB⟩
      · unfold scV
        rw [HN0.out]
        rfl
      · omega
      · rw [← told_all]; exact E5
end Go.Proofs.YtholpgcghpikgaaGreat
