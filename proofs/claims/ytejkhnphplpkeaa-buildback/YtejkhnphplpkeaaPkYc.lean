/-
  Texts of our own, one behind the other (SeekAll, SeekSlots, SeekLaw, SeekAwake): what the laws' proofs rest on; each says at its head what it holds. No conditions.
-/
import Derived.Test.YtejkhnphplpkeaaPkYb
import Derived.Test.YtejkhnphplpkeaaPkXb
import Derived.Test.YtejkhnphplpkeaaPkWf
/-
  Layer 16: what comes of a looker that is alone.
-/
namespace Go.Proofs.Ytejkhnphplpkeaa
open Go.ChangeShapes Go.WideShapes Go.ChangeAt Go.RowKit
set_option linter.unusedVariables false

/-- The cells of what is told, as a value. -/
def Rs.val (r : Rs) (e s g : Value) : Value := .agg #[.int .i64 r.V, .bool r.I, .bool r.O, .int .i64 r.A.s, .int .i64 r.A.e, .int .i64 r.A.p, .bool r.A.sh, .int .i64 r.A.bk, .int .i64 r.A.off, .bool r.N.inner, .int .i64 r.N.lo, e, s, g]
/-- What all leaves. -/
def AllPost (w : World) (b g ab ag : Nat) (m : Mm) (x : Wi) (p : Sk Rs) (e : Ending) (w' : World) : Prop :=
  ∃ (A1 : Option Addr) (c1 : Nat) (A2 : Option Addr) (c2 : Nat) (A3 : Option Addr) (c3 : Nat), e = .returned (.tuple #[(p.ans m).val (.slice A1 (p.ans m).N.ends.length c1) (.slice A2 (p.ans m).N.slots.length c2) (.slice A3 (p.ans m).N.gaps.length c3), .int .i64 ((p.reads m).length : Int), .bool true]) ∧
    NdMine w.heap.size w' (p.ans m).N (.slice A1 (p.ans m).N.ends.length c1) (.slice A2 (p.ans m).N.slots.length c2) (.slice A3 (p.ans m).N.gaps.length c3) ∧
    MemAt w' b g m.cs (m.cnt + inbs m (p.reads m)) ∧ ArAt w' ab ag x.fst x.l (evsW x ((p.reads m).map fun q => .touch q.2)).st x.db ∧ Only (fun k => CTwo b g k ∨ ArTwo ab ag k) w w'

theorem NdMine.still' {base q : Nat} {w w' w'' : World} {n : Nd} {e s g : Value} (h : NdMine base w n e s g) (ho : Only (fun k => k = q) w w') (hn : ∀ (v : Value) (l : List Int), Mw base w v l → ∀ k, v.ownBlock = some k → ¬ k = q) (hb : Below w'.heap.size w' w'') : NdMine base w'' n e s g :=
  NdMine.still ⟨h.me.only ho (hn _ _ h.me), h.ms.only ho (hn _ _ h.ms), h.mg.only ho (hn _ _ h.mg), h.es, h.eg, h.sg⟩ hb
section
variable {w : World} {b g ab ag : Nat} {m : Mm} {x : Wi} {G : Int} {h addr kind : Int} {p : Sk Rs}
theorem after_over (p : Sk Rs) (m : Mm) (x : Wi) : (p.after some m x none (p.reads m).length) = ⟨((p.reads m).map fun q => rdv m q.1), true, ⟨m.cs, m.cnt + inbs m (p.reads m)⟩, evsW x ((p.reads m).map fun q => .touch q.2), some (p.ans m)⟩ := by
  unfold Sk.after
  simp
end
end Go.Proofs.Ytejkhnphplpkeaa

/-
  Layer 16: slots that have given words: the memory and the arena that the laws begin with.
-/
namespace Go.Proofs.Ytejkhnphplpkeaa
open Go.ChangeShapes Go.WideShapes Go.ChangeAt Go.RowKit
set_option linter.unusedVariables false

/-! Rows of 28 words, one behind the other. -/
def All28 (ls : List (List Int)) : Prop := ∀ i, i < ls.length → (ls.getD i []).length = 28
theorem all28_tail {l : List Int} {ls : List (List Int)} (h : All28 (l :: ls)) : l.length = 28 ∧ All28 ls := by
  refine ⟨h 0 (by simp), fun i hi => ?_⟩
  have := h (i + 1) (by simp; omega)
  simpa using this
theorem flat_len {ls : List (List Int)} (h : All28 ls) : ls.flatten.length = 28 * ls.length := by
  induction ls with
  | nil => rfl
  | cons l ls ih =>
    obtain ⟨h1, h2⟩ := all28_tail h
    simp only [List.flatten_cons, List.length_append, List.length_cons]
    rw [ih h2, h1]
    omega
theorem nth_flat {ls : List (List Int)} (h : All28 ls) (i k : Nat) (hi : i < ls.length) (hk : k < 28) : nth ls.flatten (28 * i + k) = nth (ls.getD i []) k := by
  induction ls generalizing i with
  | nil => simp at hi
  | cons l ls ih =>
    obtain ⟨h1, h2⟩ := all28_tail h
    simp only [List.flatten_cons]
    match i with
    | 0 => rw [nth_app_lt (by omega)]; simp
    | i + 1 =>
      rw [nth_app_ge (by omega), h1, show 28 * (i + 1) + k - 28 = 28 * i + k by omega, ih h2 i (by simpa using hi)]
      simp
/-- The cells, when c words are stored. -/
def fillTo (flat : List Int) (c : Nat) : List Int := [0, 0, 0] ++ (flat.take c ++ List.replicate (flat.length - c) 0)
theorem fillTo_len (flat : List Int) {c : Nat} (h : c ≤ flat.length) : (fillTo flat c).length = 3 + flat.length := by
  simp [fillTo]
  omega
theorem nth_fillTo (flat : List Int) {c : Nat} (h : c ≤ flat.length) (i : Nat) : nth (fillTo flat c) i = if i < 3 then 0 else if i - 3 < c then nth flat (i - 3) else 0 := by
  unfold fillTo
  rw [nth_app]
  split
  · rename_i h1
    have h1 : i < 3 := h1
    rw [if_pos h1]
    match i, h1 with
    | 0, _ => rfl
    | 1, _ => rfl
    | 2, _ => rfl
  · rename_i h1
    have h1 : ¬ i < 3 := h1
    rw [if_neg h1, nth_app]
    have e : ([0, 0, 0] : List Int).length = 3 := rfl
    have e2 : (flat.take c).length = c := by simp; omega
    rw [e, e2]
    split
    · rename_i h2
      rw [nth_take, if_pos h2]
    · rw [nth_zeros]
theorem fillTo_step (flat : List Int) {c : Nat} (h : c < flat.length) : (fillTo flat c).set (3 + c) (nth flat c) = fillTo flat (c + 1) := by
  apply ext_nth
  · rw [List.length_set, fillTo_len _ (by omega), fillTo_len _ (by omega)]
  · intro i hi
    rw [List.length_set] at hi
    rw [nth_set _ _ _ _ hi, nth_fillTo _ (by omega), nth_fillTo _ (by omega)]
    by_cases h1 : i = 3 + c
    · subst h1
      rw [if_pos rfl, if_neg (by omega), if_pos (by omega), show 3 + c - 3 = c by omega]
    · rw [if_neg h1]
      by_cases h2 : i < 3
      · rw [if_pos h2, if_pos h2]
      · rw [if_neg h2, if_neg h2]
        by_cases h3 : i - 3 < c
        · rw [if_pos h3, if_pos (by omega)]
        · rw [if_neg h3, if_neg (by omega)]
theorem fillTo_zero (flat : List Int) : fillTo flat 0 = List.replicate (3 + flat.length) 0 := by
  apply ext_nth
  · rw [fillTo_len _ (by omega)]; simp
  · intro i hi
    rw [nth_fillTo _ (by omega), nth_zeros]
    split <;> simp
/-- The slots, when i are born. -/
def bornTo (n i : Nat) : Slots := List.replicate i (1, true) ++ List.replicate (n - i) (0, false)
theorem bornTo_len {n i : Nat} (h : i ≤ n) : (bornTo n i).length = n := by simp [bornTo]; omega
theorem bornTo_at {n i : Nat} (h : i ≤ n) (j : Nat) : (bornTo n i).getD j (0, false) = if j < i then (1, true) else (0, false) := by
  unfold bornTo
  rw [List.getD_eq_getElem?_getD]
  by_cases hj : j < i
  · rw [List.getElem?_append_left (by simpa using hj), if_pos hj]
    simp [hj]
  · rw [List.getElem?_append_right (by simpa using hj), if_neg hj]
    simp only [List.length_replicate, List.getElem?_replicate]
    split <;> rfl
theorem bornTo_step {n i : Nat} (h : i < n) : bornAt (bornTo n i) i = bornTo n (i + 1) := by
  have g : genAt (bornTo n i) i = 0 := by unfold genAt; rw [bornTo_at (by omega), if_neg (by omega)]
  unfold bornAt
  rw [g]
  apply List.ext_getElem
  · rw [List.length_set, bornTo_len (by omega), bornTo_len (by omega)]
  · intro j h1 h2
    have hj : j < n := by rw [bornTo_len (by omega)] at h2; exact h2
    have a := bornTo_at (n := n) (i := i) (by omega) j
    have b := bornTo_at (n := n) (i := i + 1) (by omega) j
    rw [List.getD_eq_getElem?_getD, List.getElem?_eq_getElem h2] at b
    rw [List.length_set] at h1
    rw [List.getD_eq_getElem?_getD, List.getElem?_eq_getElem h1] at a
    simp only [Option.getD_some] at a b
    rw [List.getElem_set, b, a]
    by_cases c1 : i = j
    · subst c1; rw [if_pos rfl, if_pos (by omega)]; rfl
    · rw [if_neg c1]
      by_cases c2 : j < i
      · rw [if_pos c2, if_pos (by omega)]
      · rw [if_neg c2, if_neg (by omega)]
theorem bornTo_live {n i : Nat} (h : i < n) : liveAt (bornTo n i) i = false := by unfold liveAt; rw [bornTo_at (by omega), if_neg (by omega)]
theorem bornTo_gens {n i : Nat} (h : i ≤ n) : Gens (bornTo n i) 1 := by
  intro p hp
  unfold bornTo at hp
  rcases List.mem_append.1 hp with h1 | h1
  · rw [(List.mem_replicate.1 h1).2]; omega
  · rw [(List.mem_replicate.1 h1).2]; omega
theorem bornTo_zero (n : Nat) : bornTo n 0 = freshS n := by simp [bornTo, freshS]

/-- A slice of slices of numbers, as it reads. -/
def Wss (w : World) (v : Value) (ls : List (List Int)) : Prop := ∃ A c, v = .slice A ls.length c ∧ ls.length ≤ c ∧ (0 < ls.length → ∃ b off, A = some ⟨b, off, none⟩ ∧ ∀ i, i < ls.length → ∃ u, w.cell? ⟨b, off + i, none⟩ = some u ∧ Wds w u (ls.getD i []))
/-- What Slots leaves. -/
def SlotsPost (w : World) (ls : List (List Int)) (e : Ending) (w' : World) : Prop :=
  ∃ mb mg ab ag : Nat, e = .returned (.tuple #[.pointer (some ⟨mb, 0, none⟩), .pointer (some ⟨ab, 0, none⟩)]) ∧ MemAt w' mb mg (fillTo ls.flatten (28 * ls.length)) (28 * ls.length : Nat) ∧ ArAt w' ab ag 3 (bornTo ls.length ls.length) false false ∧
    w.heap.size ≤ mb ∧ w.heap.size ≤ mg ∧ w.heap.size ≤ ab ∧ w.heap.size ≤ ag ∧ Below w.heap.size w w'
/-- While they are laid. -/
structure SlAt (w : World) (mb mg ab ag : Nat) (flat : List Int) (n c i : Nat) (wr : World) : Prop where
  m : MemAt wr mb mg (fillTo flat c) (c : Nat)
  a : ArAt wr ab ag 3 (bornTo n i) false false
  bel : Below w.heap.size w wr
theorem mem_ar {w : World} {b g ab ag k : Nat} {cs : List Int} {cnt fst : Int} {l : Slots} {st db : Bool} (h : MemAt w b g cs cnt) (h' : ArAt w ab ag fst l st db) (hk : CTwo b g k) (hk' : ArTwo ab ag k) : False := by
  rcases hk with rfl | rfl <;> rcases hk' with rfl | rfl
  · exact h.top.apart h'.top (by decide) rfl
  · exact h.top.apart h'.row (by decide) rfl
  · exact h.row.apart h'.top (by decide) rfl
  · exact h.row.apart h'.row (by decide) rfl
theorem SlAt.store {w wr w' : World} {mb mg ab ag n c i : Nat} {flat : List Int} {v : Value} {e : Ending} (h : SlAt w mb mg ab ag flat n c i wr) (hb : w.heap.size ≤ mb) (hg : w.heap.size ≤ mg) (hc : c < flat.length) (hd : Did wr mb mg v ((fillTo flat c).set (3 + c) (nth flat c)) ((c : Nat) + 1) e w') : e = .returned v ∧ SlAt w mb mg ab ag flat n (c + 1) i w' := by
  obtain ⟨he, hm, ho⟩ := hd
  rw [fillTo_step _ hc] at hm
  refine ⟨he, ?_, h.a.only ho (fun hk => mem_ar h.m h.a hk (.inl rfl)) (fun hk => mem_ar h.m h.a hk (.inr rfl)), h.bel.trans (ho.below (fun k hk => by rcases hk with rfl | rfl <;> assumption) h.bel.size)⟩
  rw [show ((c + 1 : Nat) : Int) = (c : Int) + 1 by omega]
  exact hm
theorem SlAt.born {w wr w' : World} {mb mg ab ag n c i : Nat} {flat : List Int} {v : Value} {e : Ending} (h : SlAt w mb mg ab ag flat n c i wr) (hb : w.heap.size ≤ ab) (hg : w.heap.size ≤ ag) (hi : i < n) (hd : ArDid wr ab ag v 3 (bornAt (bornTo n i) i) false (false || liveAt (bornTo n i) i) e w') : e = .returned v ∧ SlAt w mb mg ab ag flat n c (i + 1) w' := by
  obtain ⟨he, ha, ho⟩ := hd
  rw [bornTo_step hi, bornTo_live hi] at ha
  exact ⟨he, h.m.only ho (fun hk => mem_ar h.m h.a (.inl rfl) hk) (fun hk => mem_ar h.m h.a (.inr rfl) hk), ha, h.bel.trans (ho.below (fun k hk => by rcases hk with rfl | rfl <;> assumption) h.bel.size)⟩

end Go.Proofs.Ytejkhnphplpkeaa

/-
  Layer 16: what the laws are told, in words; words, and what a program that does nothing does not answer.
-/
namespace Go.Proofs.Ytejkhnphplpkeaa
open Go.ChangeShapes Go.WideShapes Go.ChangeAt Go.RowKit
set_option linter.unusedVariables false

/-! What comes of a slot's words. -/
def lookFromW (x : List Int) (addr : Int) (inn : Bool) : Nat → Nat → (Int × Bool × Bool) × Nat
  | 0, i => ((0, false, false), 1 + i)
  | n + 1, i => if nth x (2 + i) ≤ addr then lookFromW x addr inn n (i + 1) else ((nth x (10 + i), inn, true), 3 + i)
def lookW (x : List Int) (addr : Int) : (Int × Bool × Bool) × Nat := if entOk (nth x 0) then lookFromW x addr (entI (nth x 0)) (entK (nth x 0)) 0 else ((0, false, false), 1)
/-- The first eight words, and noughts. -/
def eight (x : List Int) : List Int := fill (x.take 8) 28
open Classical in
noncomputable def nodeW (x : List Int) : Option Nd × Nat := if entOk (nth x 0) then (if NdF (unN x (entK (nth x 0))) then some (unN x (entK (nth x 0))) else none, 2 + 3 * entK (nth x 0)) else (none, 1)

/-- A memory in which c tells where the words x lie. -/
structure Words (m : Mm) (c : Int → Int) (x : List Int) : Prop where
  at_ : ∀ k : Nat, k < 28 → rdv m (c (k : Int)) = nth x k
  inb : ∀ k : Nat, k < 28 → inb (c (k : Int)) m = true
  len : x.length = 28
section
variable {m : Mm} {c : Int → Int} {x : List Int} {h : Int}
theorem look_from (W : Words m c x) (addr : Int) (inn : Bool) (n i : Nat) (hn : i + n ≤ 8) : (lookFrom c h addr inn n i).ans m = (lookFromW x addr inn n i).1 ∧ ((lookFrom c h addr inn n i).reads m).length + 1 + i = (lookFromW x addr inn n i).2 ∧ ∀ q ∈ (lookFrom c h addr inn n i).reads m, inb q.1 m = true ∧ q.2 = h := by
  induction n generalizing i with
  | zero => exact ⟨rfl, by simp [lookFrom, lookFromW, Sk.reads], fun q hq => by simp [lookFrom, Sk.reads] at hq⟩
  | succ n ih =>
    have e1 := W.at_ (2 + i) (by omega)
    have e2 := W.at_ (10 + i) (by omega)
    have i1 := W.inb (2 + i) (by omega)
    have i2 := W.inb (10 + i) (by omega)
    rw [show ((2 + i : Nat) : Int) = 2 + (i : Int) by omega] at e1 i1
    rw [show ((10 + i : Nat) : Int) = 10 + (i : Int) by omega] at e2 i2
    unfold lookFrom lookFromW
    simp only [Sk.ans, Sk.reads, e1]
    by_cases hle : nth x (2 + i) ≤ addr
    · rw [if_pos hle, if_pos hle]
      obtain ⟨h1, h2, h3⟩ := ih (i + 1) (by omega)
      refine ⟨h1, by rw [← h2]; simp only [List.length_cons]; omega, fun q hq => ?_⟩
      rcases List.mem_cons.1 hq with rfl | hq
      · exact ⟨i1, rfl⟩
      · exact h3 q hq
    · rw [if_neg hle, if_neg hle]
      simp only [Sk.ans, Sk.reads, e2]
      refine ⟨rfl, by simp only [List.length_cons, List.length_nil] <;> omega, fun q hq => ?_⟩
      simp only [List.mem_cons, List.not_mem_nil, or_false] at hq
      rcases hq with rfl | rfl
      · exact ⟨i1, rfl⟩
      · exact ⟨i2, rfl⟩
theorem look_ans (W : Words m c x) (addr : Int) : (lookP c h addr).ans m = (lookW x addr).1 ∧ ((lookP c h addr).reads m).length = (lookW x addr).2 ∧ ∀ q ∈ (lookP c h addr).reads m, inb q.1 m = true ∧ q.2 = h := by
  have e0 : rdv m (c 0) = nth x 0 := W.at_ 0 (by omega)
  have i0 : inb (c 0) m = true := W.inb 0 (by omega)
  unfold lookP lookW
  simp only [Sk.ans, Sk.reads, e0]
  cases hk : entOk (nth x 0) with
  | false => exact ⟨rfl, rfl, fun q hq => by simp [Sk.reads] at hq; rw [hq]; exact ⟨i0, rfl⟩⟩
  | true =>
    simp only [if_true]
    have := entK_hi (nth x 0)
    obtain ⟨h1, h2, h3⟩ := look_from (h := h) W addr (entI (nth x 0)) (entK (nth x 0)) 0 (by omega)
    refine ⟨h1, by rw [← h2]; simp, fun q hq => ?_⟩
    rcases List.mem_cons.1 hq with rfl | hq
    · exact ⟨i0, rfl⟩
    · exact h3 q hq
theorem area_from (W : Words m c x) (n i : Nat) (hn : i + n = 8) (l : List Int) (hl : l = fill (x.take i) 28) : (areaFrom c h n i l).ans m = areaOf (eight x) ∧ ((areaFrom c h n i l).reads m).length = n := by
  induction n generalizing i l with
  | zero =>
    have : i = 8 := by omega
    subst this
    subst hl
    exact ⟨rfl, rfl⟩
  | succ n ih =>
    have e1 := W.at_ i (by omega)
    have hw := W.len
    rw [areaFrom_next]
    simp only [Sk.ans, Sk.reads, e1]
    obtain ⟨h1, h2⟩ := ih (i + 1) (by omega) (l.set i (nth x i)) (by
      subst hl
      have l1 : (fill (x.take i) 28).length = 28 := fill_len (by simp; omega)
      have l2 : (fill (x.take (i + 1)) 28).length = 28 := fill_len (by simp; omega)
      apply ext_nth
      · rw [List.length_set, l1, l2]
      · intro k hk
        rw [List.length_set, l1] at hk
        rw [nth_set _ _ _ _ (by omega), nth_fill, nth_fill, nth_take, nth_take]
        by_cases h3 : k = i
        · subst h3; rw [if_pos rfl, if_pos (by omega)]
        · rw [if_neg h3]
          by_cases h4 : k < i
          · rw [if_pos h4, if_pos (by omega)]
          · rw [if_neg h4, if_neg (by omega)])
    exact ⟨h1, by simp only [List.length_cons]; rw [h2]⟩
theorem area_ans (W : Words m c x) : (areaP c h).ans m = areaOf (eight x) ∧ ((areaP c h).reads m).length = 8 := area_from W 8 0 rfl _ rfl
theorem unN_counted {x : List Int} (hl : x.length = 28) (hk : entOk (nth x 0) = true) : (unN x (entK (nth x 0))).Counted ∧ (unN x (entK (nth x 0))).first = nth x 0 ∧ (unN x (entK (nth x 0))).ends.length = entK (nth x 0) := by
  obtain ⟨h1, h2⟩ := entK_is hk
  have h3 := entK_hi (nth x 0)
  have hd := of_decide_eq_true hk
  have hm := Int.mul_tdiv_add_tmod (nth x 0) 16
  generalize entK (nth x 0) = K at *
  have hl1 : (unN x K).ends.length = K := by simp [unN]; omega
  refine ⟨⟨by omega, by omega, by simp [unN]; omega, by simp [unN]; omega⟩, ?_, hl1⟩
  unfold Nd.first
  rw [hl1]
  unfold unN
  rcases hd.2.2 with h4 | h4
  · rw [h4]
    simp only [show ((1 : Int) == 2) = false from rfl, Bool.false_eq_true, if_false]
    omega
  · rw [h4]
    simp only [show ((2 : Int) == 2) = true from rfl, if_true]
    omega
theorem node_from (W : Words m c x) (n i : Nat) (hn : i + n = entK (nth x 0)) (hk : entOk (nth x 0) = true) : (nodeFrom c h n i (refL (unN x (entK (nth x 0))) i)).ans m = nodeOf (packN (unN x (entK (nth x 0)))) ∧ ((nodeFrom c h n i (refL (unN x (entK (nth x 0))) i)).reads m).length = 3 * n := by
  obtain ⟨hc, hf, hl⟩ := unN_counted W.len hk
  have h8 := entK_hi (nth x 0)
  induction n generalizing i with
  | zero =>
    have : i = entK (nth x 0) := by omega
    subst this
    have e := refL_end hc
    rw [hl] at e
    rw [e]
    exact ⟨rfl, rfl⟩
  | succ n ih =>
    have e1 := W.at_ (2 + i) (by omega)
    have e2 := W.at_ (10 + i) (by omega)
    have e3 := W.at_ (18 + i) (by omega)
    rw [show ((2 + i : Nat) : Int) = 2 + (i : Int) by omega] at e1
    rw [show ((10 + i : Nat) : Int) = 10 + (i : Int) by omega] at e2
    rw [show ((18 + i : Nat) : Int) = 18 + (i : Int) by omega] at e3
    rw [nodeFrom_next]
    simp only [Sk.ans, Sk.reads, e1, e2, e3]
    have st := refL_step (unN x (entK (nth x 0))) i (by omega)
    have g1 : nth (unN x (entK (nth x 0))).ends i = nth x (2 + i) := by unfold unN; rw [nth_take, if_pos (by omega), nth_drop]
    have g2 : nth (unN x (entK (nth x 0))).slots i = nth x (10 + i) := by unfold unN; rw [nth_take, if_pos (by omega), nth_drop]
    have g3 : nth (unN x (entK (nth x 0))).gaps i = nth x (18 + i) := by unfold unN; rw [nth_take, if_pos (by omega), nth_drop]
    rw [g1, g2, g3] at st
    rw [st]
    obtain ⟨h1, h2⟩ := ih (i + 1) (by omega)
    exact ⟨h1, by simp only [List.length_cons]; rw [h2]; omega⟩
theorem node_ans (W : Words m c x) : (nodeP c h).ans m = (nodeW x).1 ∧ ((nodeP c h).reads m).length = (nodeW x).2 := by
  have e0 : rdv m (c 0) = nth x 0 := W.at_ 0 (by omega)
  have e1 : rdv m (c 1) = nth x 1 := W.at_ 1 (by omega)
  unfold nodeP nodeW
  simp only [Sk.ans, Sk.reads, e0]
  cases hk : entOk (nth x 0) with
  | false => exact ⟨rfl, rfl⟩
  | true =>
    simp only [if_true, Sk.ans, Sk.reads, e1]
    obtain ⟨hc, hf, hl⟩ := unN_counted W.len hk
    have z := refL_zero (unN x (entK (nth x 0)))
    rw [hf] at z
    have z' : ((List.replicate 28 0).set 0 (nth x 0)).set 1 (nth x 1) = refL (unN x (entK (nth x 0))) 0 := z
    rw [z']
    obtain ⟨h1, h2⟩ := node_from (h := h) W (entK (nth x 0)) 0 (by omega) hk
    refine ⟨?_, by simp only [List.length_cons]; rw [h2]; omega⟩
    rw [h1]
    by_cases hF : NdF (unN x (entK (nth x 0)))
    · rw [if_pos hF]
      exact nodeOf_some hF rfl
    · rw [if_neg hF]
      exact nodeOf_none (fun n hn e => hF (by rw [← pack_inj hn.cnt hc e]; exact hn))
end

/-! The laws' slots: one slot, whose handle is 65537. -/
def wiOf (n : Nat) (st : Bool) : Wi := ⟨3, bornTo n n, st, false⟩
theorem wiOf_ok (n : Nat) (st : Bool) : WiOk (wiOf n st) 1 := ⟨bornTo_gens (Nat.le_refl _), by omega, by omega⟩
theorem wiOf_right {n : Nat} (st : Bool) (i : Nat) (h : i < n) : rightB (wiOf n st).l (65537 + (i : Int)) = true := by
  have g : (wiOf n st).l.getD i (0, false) = (1, true) := by unfold wiOf; rw [bornTo_at (Nat.le_refl _), if_pos h]
  refine right_yes (i := i) (by unfold wiOf; rw [bornTo_len (Nat.le_refl _)]; exact h) ?_ ?_
  · unfold liveAt; rw [g]
  · unfold hndAt genAt; rw [g]; omega
theorem one_cell (st : Bool) (k : Nat) (hk : k < 28) : cellOf (wiOf 1 st).fst (wiOf 1 st).l.length 65537 (k : Int) = 3 + (k : Int) := by
  have e : slotOf 65537 = 1 := by decide
  unfold cellOf
  rw [e, if_pos]
  · show (3 : Int) + 28 * (1 - 1) + (k : Int) = _
    omega
  · have : (wiOf 1 st).l.length = 1 := bornTo_len (Nat.le_refl _)
    rw [this]
    omega
def oneM (x : List Int) (c : Int) : Mm := ⟨fillTo x 28, c⟩
theorem one_words {x : List Int} (hx : x.length = 28) (c : Int) (st : Bool) : Words (oneM x c) (cellOf (wiOf 1 st).fst (wiOf 1 st).l.length 65537) x := by
  have hl : (fillTo x 28).length = 31 := by rw [fillTo_len _ (by omega), hx]
  have hi : ∀ k : Nat, k < 28 → inb (3 + (k : Int)) (oneM x c) = true := fun k hk => by
    unfold inb oneM
    simp only [hl]
    simp
    omega
  refine ⟨fun k hk => ?_, fun k hk => by rw [one_cell st k hk]; exact hi k hk, hx⟩
  rw [one_cell st k hk]
  unfold rdv
  rw [hi k hk, if_pos rfl]
  show nth (fillTo x 28) _ = _
  rw [show (3 + (k : Int)).toNat = 3 + k by omega, nth_fillTo _ (by omega), if_neg (by omega), if_pos (by omega), show 3 + k - 3 = k by omega]
theorem one_fits {x : List Int} (hx : x.length = 28) (hf : Fits x) (c : Int) : Fits (oneM x c).cs := by
  intro i hi
  show -9223372036854775808 ≤ nth (fillTo x 28) i ∧ _
  have e : nth (oneM x c).cs i = nth (fillTo x 28) i := rfl
  rw [e, nth_fillTo _ (by omega)]
  split
  · omega
  · split
    · exact fits_nth hf _
    · omega
theorem rs_ans {α : Type} (q : Sk α) (f : α → Rs) (m : Mm) : (q.bind fun r => .ret (f r)).ans m = f (q.ans m) ∧ (q.bind fun r => .ret (f r)).reads m = q.reads m := by
  rw [Sk.ans_bind, Sk.reads_bind]
  exact ⟨rfl, by simp [Sk.reads]⟩
theorem wss_one {w : World} {x : List Int} {A : Option Addr} {n c : Nat} (h : Wds w (.slice A n c) x) : Wss (w.alloc (.cells #[.slice A n c] 27)) (.slice (some ⟨w.heap.size, 0, none⟩) 1 1) [x] := by
  refine ⟨_, 1, rfl, by simp, fun _ => ⟨w.heap.size, 0, rfl, fun i hi => ?_⟩⟩
  have : i = 0 := by simp at hi; omega
  subst this
  exact ⟨_, (Whole.new w 27 #[.slice A n c]).cell 0, h.still (below_new _ _)⟩
theorem one_below {w0 w w' : World} {mb mg ab ag : Nat} (hb : Below w0.heap.size w0 w) (ho : Only (fun k => CTwo mb mg k ∨ ArTwo ab ag k) w w') (h1 : w0.heap.size ≤ mb) (h2 : w0.heap.size ≤ mg) (h3 : w0.heap.size ≤ ab) (h4 : w0.heap.size ≤ ag) : Below w0.heap.size w0 w' :=
  hb.trans (ho.below (fun k hk => by rcases hk with (rfl | rfl) | (rfl | rfl) <;> assumption) hb.size)
theorem inbs_all (m : Mm) (l : List (Int × Int)) (h : ∀ q ∈ l, inb q.1 m = true) : inbs m l = (l.length : Int) := by
  unfold inbs
  rw [List.filter_eq_self.2 h]
end Go.Proofs.Ytejkhnphplpkeaa

/-
  Layer 16: words of whatever came, and what a program that does nothing does not answer.
-/
namespace Go.Proofs.Ytejkhnphplpkeaa
open Go.ChangeShapes Go.WideShapes Go.ChangeAt Go.RowKit
set_option linter.unusedVariables false

/-- The first 28 words, with noughts behind them. -/
def w28 (l : List Int) : List Int := fill (l.take 28) 28
theorem w28_len (l : List Int) : (w28 l).length = 28 := fill_len (by simp; omega)
theorem w28_fits {l : List Int} (h : Fits l) : Fits (w28 l) := by
  intro i hi
  unfold w28
  rw [nth_fill, nth_take]
  split
  · exact fits_nth h i
  · omega
def wTo (l : List Int) (k : Nat) : List Int := fill (l.take k) 28
theorem wTo_len (l : List Int) {k : Nat} (h : k ≤ 28) : (wTo l k).length = 28 := fill_len (by simp; omega)
theorem wTo_step (l : List Int) {k : Nat} (h : k < 28) (hl : k < l.length) : (wTo l k).set k (nth l k) = wTo l (k + 1) := by
  apply ext_nth
  · rw [List.length_set, wTo_len _ (by omega), wTo_len _ (by omega)]
  · intro i hi
    rw [List.length_set] at hi
    rw [nth_set _ _ _ _ hi]
    unfold wTo
    rw [nth_fill, nth_fill, nth_take, nth_take]
    by_cases h1 : i = k
    · subst h1; rw [if_pos rfl, if_pos (by omega)]
    · rw [if_neg h1]
      by_cases h2 : i < k
      · rw [if_pos h2, if_pos (by omega)]
      · rw [if_neg h2, if_neg (by omega)]
theorem wTo_end (l : List Int) {k : Nat} (h : k = 28 ∨ k = l.length ∧ k ≤ 28) : wTo l k = w28 l := by
  rcases h with rfl | ⟨rfl, h⟩
  · rfl
  · unfold wTo w28
    rw [List.take_length, List.take_of_length_le h]
theorem wTo_zero (l : List Int) : wTo l 0 = nul28 := rfl

/-- While they are laid. -/
structure WRow (w wr : World) (q : Nat) (L : List Int) : Prop where
  row : Whole wr q 2 (nums L)
  bel : Below w.heap.size w wr
theorem WRow.put {w wr : World} {q : Nat} {L : List Int} (h : WRow w wr q L) (hq : w.heap.size ≤ q) (i : Nat) (v : Int) : WRow w (wr.setCell ⟨q, i, none⟩ (.int .i64 v)) q (L.set i v) :=
  ⟨nums_put h.row i v, h.bel.setCell (p := ⟨q, i, none⟩) hq _⟩
/-- The area of the laws' first question. -/
def arWake : Ar := ⟨65536, 69632, 1, false, 0, 0⟩
theorem arWake_formed : Formed arWake := by decide
theorem arWake_words : areaOf (eight (packA arWake false)) = some (arWake, false) := by
  refine areaOf_some arWake_formed ?_
  apply ext_nth
  · rw [packA_len]; exact (fill_len (by simp [packA_len])).symm
  · intro k _
    unfold eight
    rw [nth_fill, nth_take]
    split
    · rfl
    · unfold packA
      rw [nth_fill, nth_out (by simp [listA]; omega)]
end Go.Proofs.Ytejkhnphplpkeaa
