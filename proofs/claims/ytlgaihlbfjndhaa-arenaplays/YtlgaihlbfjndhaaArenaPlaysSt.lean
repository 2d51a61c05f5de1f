/-
  Layer 2: what the statement on plays keeps from call to call.
-/
import Derived.Test.YtlgaihlbfjndhaaArenaSame
namespace Go.Proofs.Ytlgaihlbfjndhaa
open Go.ChangeShapes Go.WideShapes Go.ChangeAt Go.RowKit
set_option linter.unusedVariables false

/-- Where both arenas lie: between the world w of the call and the world wc behind their making. -/
structure Lies (w wc : World) (ab ag rb base : Nat) (A B : Option Addr) : Prop where
  a1 : w.heap.size ≤ ab
  a2 : w.heap.size ≤ ag
  a3 : ab < base
  a4 : ag < base
  b1 : base ≤ rb
  b2 : w.heap.size ≤ base
  hi : ∀ k, RfTwo rb A B k → k < wc.heap.size
  le : base ≤ wc.heap.size

/-- Both arenas, and the handles that were born, behind k calls. -/
structure PlaySt (w wc : World) (ab ag rb base : Nat) (A : Option Addr) (c : Nat) (B : Option Addr) (d : Nat) (k : Nat) (bv : Value) (wr : World) (l : Slots) (st db : Bool) (bl : List Int) : Prop where
  ar : ArAt wr ab ag 7 l st db
  rf : RfAt wr rb base A c B d 7 l st db
  gens : Gens l k
  own : wr.ownsRow wc.heap.size 2 1 bv bl.length (bl.map (Value.int .i64))
  few : bl.length ≤ k
  all : ∀ y ∈ bl, y ≤ 9223372036854775807
  bel : Below w.heap.size w wr
  size : wc.heap.size ≤ wr.heap.size

section
variable {w wc wr w' : World} {ab ag rb base : Nat} {A B : Option Addr} {c d k : Nat} {bv : Value} {l l' : Slots} {st db st' db' : Bool} {bl : List Int}

theorem Lies.not_ar (L : Lies w wc ab ag rb base A B) {j : Nat} (hj : base ≤ j) : ¬ ArTwo ab ag j := by
  have := L.a3; have := L.a4
  rintro (h | h) <;> omega
theorem PlaySt.not_rf (P : PlaySt w wc ab ag rb base A c B d k bv wr l st db bl) (L : Lies w wc ab ag rb base A B) {j : Nat} (hj : j < base) : ¬ RfTwo rb A B j := by
  intro h
  have := P.rf.lo' L.b1 j h
  omega

/-- Nothing has turned but new memory. -/
theorem PlaySt.still (P : PlaySt w wc ab ag rb base A c B d k bv wr l st db bl) (hb : Below wr.heap.size wr w') : PlaySt w wc ab ag rb base A c B d k bv w' l st db bl :=
  ⟨P.ar.still hb, P.rf.still hb, P.gens, own_still P.own hb, P.few, P.all, P.bel.trans (hb.mono P.bel.size), Nat.le_trans P.size hb.size⟩
theorem PlaySt.drew (P : PlaySt w wc ab ag rb base A c B d k bv wr l st db bl) : PlaySt w wc ab ag rb base A c B d k bv wr.drew l st db bl := P.still (below_drew (Below.refl _ _))
theorem PlaySt.more (P : PlaySt w wc ab ag rb base A c B d k bv wr l st db bl) : PlaySt w wc ab ag rb base A c B d (k + 1) bv wr l st db bl :=
  ⟨P.ar, P.rf, gens_mono P.gens (by omega), P.own, by have := P.few; omega, P.all, P.bel, P.size⟩

/-- Behind a call on the arena alone: the reference is as it was. -/
theorem PlaySt.first (P : PlaySt w wc ab ag rb base A c B d k bv wr l st db bl) (L : Lies w wc ab ag rb base A B) (ho : Only (ArTwo ab ag) wr w') :
    RfAt w' rb base A c B d 7 l st db ∧ w'.ownsRow wc.heap.size 2 1 bv bl.length (bl.map (Value.int .i64)) ∧ Below w.heap.size w w' ∧ wc.heap.size ≤ w'.heap.size := by
  refine ⟨P.rf.only ho (fun j hj => L.not_ar (P.rf.lo' L.b1 j hj)), own_only P.own ho (fun j hj => L.not_ar (Nat.le_trans L.le (P.own.lt j hj).1)), ?_, Nat.le_trans P.size ho.size⟩
  exact P.bel.trans (ho.below (fun j hj => by have := L.a1; have := L.a2; rcases hj with h | h <;> omega) P.bel.size)

/-- Behind the same call on both. -/
theorem PlaySt.both {w2 w3 : World} (P : PlaySt w wc ab ag rb base A c B d k bv wr l st db bl) (L : Lies w wc ab ag rb base A B) (ho : Only (ArTwo ab ag) wr w2) (ha : ArAt w2 ab ag 7 l' st' db')
    (ho' : Only (RfTwo rb A B) w2 w3) (hr : RfAt w3 rb base A c B d 7 l' st' db') (hg : Gens l' ((k : Int) + 1)) : PlaySt w wc ab ag rb base A c B d (k + 1) bv w3 l' st' db' bl := by
  obtain ⟨_, h2, h3, h4⟩ := P.first L ho
  have n1 : ∀ j, j < base → ¬ RfTwo rb A B j := fun j hj => P.not_rf L hj
  refine ⟨ha.only ho' (n1 _ L.a3) (n1 _ L.a4), hr, by simpa using hg, own_only h2 ho' (fun j hj hr' => ?_), by have := P.few; omega, P.all, ?_, Nat.le_trans h4 ho'.size⟩
  · have := L.hi j hr'; have := (h2.lt j hj).1; omega
  · exact h3.trans (ho'.below (fun j hj => by have := P.rf.lo' L.b1 j hj; have := L.b2; omega) h3.size)

/-- One handle more was born. -/
theorem PlaySt.append {o : Obj} {bv' : Value} {y : Int} (P : PlaySt w wc ab ag rb base A c B d (k + 1) bv wr l st db bl) (L : Lies w wc ab ag rb base A B) (hk : bl.length ≤ k) (hg : (wr.alloc o).grownBy w' bv.ownBlock)
    (hown : w'.ownsRow wc.heap.size 2 1 bv' (bl.length + 1) (bl.map (Value.int .i64) ++ [.int .i64 y])) (hy : y ≤ 9223372036854775807) : PlaySt w wc ab ag rb base A c B d (k + 1) bv' w' l st db (bl ++ [y]) := by
  have hlt : ∀ j, bv.ownBlock = some j → wc.heap.size ≤ j := fun j hj => (P.own.lt j hj).1
  have ho : Only (fun j => bv.ownBlock = some j) wr w' := ((Only.refl _ wr).alloc o).grown hg (fun j hj => .inl hj)
  have n1 : ∀ j, j < wc.heap.size → ¬ bv.ownBlock = some j := fun j hj h => by have := hlt j h; omega
  have h3 := L.a3; have h4 := L.a4; have h5 := L.le
  refine ⟨P.ar.only ho (n1 _ (by omega)) (n1 _ (by omega)), P.rf.only ho (fun j hj => n1 _ (L.hi j hj)), P.gens, ?_, by simp; omega, ?_, ?_, Nat.le_trans P.size ho.size⟩
  · rw [List.length_append, List.map_append]; exact hown
  · intro z hz
    rcases List.mem_append.1 hz with hz | hz
    · exact P.all z hz
    · rw [List.mem_singleton.1 hz]; exact hy
  · exact P.bel.trans (ho.below (fun j hj => by have := hlt j hj; have := L.b2; omega) P.bel.size)
end

theorem rfBirth_in {w : World} {b base : Nat} {A B : Option Addr} {c d : Nat} {fst : Int} {l : Slots} {st db : Bool} (s G : Int) (H : RfAt w b base A c B d fst l st db) (hG : Gens l G) (hG0 : 0 ≤ G) (hG1 : G + 1 ≤ 1099511627776) (h1 : 1 ≤ s) (h2 : s ≤ l.length) :
    Calls Try.prog 11 #[.pointer (some ⟨b, 0, none⟩), .int .i64 s] w (RfDid w b base A c B d (.int .i64 (hndAt (bornAt l (s - 1).toNat) (s - 1).toNat)) fst (bornAt l (s - 1).toNat) st (db || liveAt l (s - 1).toNat)) := by
  obtain ⟨i, rfl⟩ : ∃ i : Nat, s = (i : Int) + 1 := ⟨(s - 1).toNat, by omega⟩
  have e : ((i : Int) + 1 - 1).toNat = i := by omega
  rw [e]
  exact rfBirth_yes i G H hG hG0 hG1 (by omega)
theorem right_slot {l : Slots} {G h : Int} (hg : Gens l G) (hG0 : 0 ≤ G) (hn : l.length ≤ 1000) (hr : rightB l h = true) : ∃ i : Nat, slotOf h = (i : Int) + 1 ∧ i < l.length := by
  obtain ⟨⟨h1, h2⟩, _⟩ := (right_iff hg hG0 hn).1 hr
  exact ⟨(slotOf h - 1).toNat, by omega, by omega⟩
theorem hnd_born_le {l : Slots} {G : Int} {i : Nat} (hg : Gens l G) (hG0 : 0 ≤ G) (hG1 : G ≤ 1000000) (hi : i < l.length) (hn : l.length ≤ 1000) : hndAt (bornAt l i) i ≤ 9223372036854775807 := by
  unfold hndAt
  rw [genAt_born hi]
  have := gen_mem hg i hG0
  omega

/-- The loop's relation. -/
def ArPlayRel (w wc : World) (ab ag rb base : Nat) (A : Option Addr) (c : Nat) (B : Option Addr) (d len : Nat) (bv iv : Value) (wr : World) : Prop :=
  ∃ k : Nat, k ≤ len ∧ iv = .int .i64 k ∧ ∃ l st db bl, PlaySt w wc ab ag rb base A c B d k bv wr l st db bl

/-- An op: its kind, its slot, its handle, and how many births ago. -/
structure AOp where
  kd : Int
  sl : Int
  h : Int
  fr : Int
/-- The op at place k of the list that came in, in memory. -/
def AOpIn (w : World) (b off : Nat) (o : AOp) (k : Nat) : Prop :=
  w.cell? ⟨b, off + k * 4, none⟩ = some (.int .u8 o.kd) ∧ w.cell? ⟨b, off + k * 4 + 1, none⟩ = some (.int .i64 o.sl) ∧ w.cell? ⟨b, off + k * 4 + 2, none⟩ = some (.int .i64 o.h) ∧ w.cell? ⟨b, off + k * 4 + 3, none⟩ = some (.int .u8 o.fr) ∧
    (0 ≤ o.kd ∧ o.kd ≤ 255) ∧ (0 ≤ o.fr ∧ o.fr ≤ 255) ∧ o.h ≤ 9223372036854775807
/-- A list of ops that came in. -/
def AOpsCame (w : World) (A : Option Addr) (n : Nat) : Prop :=
  0 < n → ∃ b off, A = some ⟨b, off, none⟩ ∧ b < w.heap.size ∧ ∀ k, k < n → ∃ o, AOpIn w b off o k
end Go.Proofs.Ytlgaihlbfjndhaa
