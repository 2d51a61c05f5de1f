/-
  Texts of our own, one behind the other (WkSeen, WkFind): what the laws' proofs rest on; each says at its head what it holds. No conditions.
-/
import Derived.Test.YtejkhnphplpkeaaPkZa
import Derived.Test.YtejkhnphplpkeaaPkWj
import Derived.Test.YtejkhnphplpkeaaPkYa
/-
  Layer 17: what was gone through so far, in memory: a block of two rows that grow, beside a trail, its memory and an arena; and how a program that reads keeps within 64 bits.
-/
namespace Go.Proofs.Ytejkhnphplpkeaa
open Go.ChangeShapes Go.WideShapes Go.ChangeAt Go.RowKit
set_option linter.unusedVariables false

/-! Programs that read: the arena's frame stays; what they find is of 64 bits. -/
theorem wend_same {α : Type} (p : Sk α) (T : Tr) (m : Mm) (x : Wi) : (wend p T m x).x.fst = x.fst ∧ (wend p T m x).x.l = x.l := by
  induction p generalizing T m x with
  | ret a => exact ⟨rfl, rfl⟩
  | read c h f ih =>
    rw [wend_read]
    obtain ⟨h1, h2⟩ := ih (accV 0 c 0 T m) (accT 0 c 0 T m) (accM 0 c 0 0 T m) (rdX x h (accT 0 c 0 T m))
    have h3 := rdX_fst x h (accT 0 c 0 T m)
    exact ⟨h1.trans h3.1, h2.trans h3.2⟩
  | ask f ih => rw [wend_ask]; exact ih _ _ _ _
theorem lookFrom_fit (c : Int → Int) (h addr : Int) (inn : Bool) (n i : Nat) {T : Tr} {m : Mm} {x : Wi} (ht : Fits T.told) (hm : Fits m.cs) : -9223372036854775808 ≤ (wend (lookFrom c h addr inn n i) T m x).a.1 ∧ (wend (lookFrom c h addr inn n i) T m x).a.1 ≤ 9223372036854775807 := by
  induction n generalizing i T m x with
  | zero => unfold lookFrom; rw [wend_ret]; simp
  | succ n ih =>
    unfold lookFrom
    rw [wend_read]
    have h1 := accT_fits ht hm (c (2 + (i : Int)))
    have h2 : Fits (accM 0 (c (2 + (i : Int))) 0 0 T m).cs := by rw [accM_cs]; exact hm
    split
    · exact ih _ h1 h2
    · rw [wend_read, wend_ask, wend_ret]
      split
      · simp
      · exact accV_fits h1 h2 _
theorem look_fit (c : Int → Int) (h addr : Int) {T : Tr} {m : Mm} {x : Wi} (ht : Fits T.told) (hm : Fits m.cs) : -9223372036854775808 ≤ (wend (lookP c h addr) T m x).a.1 ∧ (wend (lookP c h addr) T m x).a.1 ≤ 9223372036854775807 := by
  unfold lookP
  rw [wend_read]
  split
  · exact lookFrom_fit _ _ _ _ _ _ (accT_fits ht hm _) (by rw [accM_cs]; exact hm)
  · rw [wend_ret]; simp
theorem wordN_slot {n : Nd} (i : Nat) (hi : i < n.slots.length) (h8 : n.slots.length ≤ 8) : wordN n (10 + i) = nth n.slots i := by
  unfold wordN
  rw [if_neg (by omega), if_neg (by omega), if_neg (by omega), if_pos (by omega)]
  congr 1
  omega
/-- A node that is read. -/
structure NdFit (n : Nd) : Prop where
  f : NdF n
  s : Fits n.slots
theorem nodeOf_fit {L : List Int} (hL : Fits L) {n : Nd} (h : nodeOf L = some n) : NdFit n := by
  obtain ⟨h1, h2⟩ := nodeOf_is h
  refine ⟨h1, fun i hi => ?_⟩
  have h8 := h1.cnt.few
  have hs := h1.cnt.sl
  have e := wordN_slot i hi (by omega)
  rw [← nth_pack h1.cnt, h2] at e
  rw [← e]
  exact fits_nth hL _
theorem nodeFrom_fit (c : Int → Int) (h : Int) (n i : Nat) (L : List Int) {T : Tr} {m : Mm} {x : Wi} (ht : Fits T.told) (hm : Fits m.cs) (hL : Fits L) : ∀ nd, (wend (nodeFrom c h n i L) T m x).a = some nd → NdFit nd := by
  induction n generalizing i L T m x with
  | zero =>
    intro nd hn
    rw [nodeFrom_end, wend_ask, wend_ret] at hn
    by_cases hd : dry T = true
    · simp only [hd, if_true] at hn; cases hn
    · simp only [hd] at hn; exact nodeOf_fit hL hn
  | succ n ih =>
    intro nd hn
    rw [nodeFrom_next, wend_read, wend_read, wend_read] at hn
    have a1 := accT_fits ht hm (c (2 + (i : Int)))
    have b1 : Fits (accM 0 (c (2 + (i : Int))) 0 0 T m).cs := by rw [accM_cs]; exact hm
    have a2 := accT_fits a1 b1 (c (10 + (i : Int)))
    have b2 : Fits (accM 0 (c (10 + (i : Int))) 0 0 (accT 0 (c (2 + (i : Int))) 0 T m) (accM 0 (c (2 + (i : Int))) 0 0 T m)).cs := by rw [accM_cs]; exact b1
    refine ih _ _ (accT_fits a2 b2 _) (by rw [accM_cs]; exact b2) ?_ nd hn
    exact fits_put (fits_put (fits_put hL _ (accV_fits ht hm _)) _ (accV_fits a1 b1 _)) _ (accV_fits a2 b2 _)
theorem node_fit (c : Int → Int) (h : Int) {T : Tr} {m : Mm} {x : Wi} (ht : Fits T.told) (hm : Fits m.cs) : ∀ nd, (wend (nodeP c h) T m x).a = some nd → NdFit nd := by
  intro nd hn
  unfold nodeP at hn
  rw [wend_read] at hn
  have a1 := accT_fits ht hm (c 0)
  have b1 : Fits (accM 0 (c 0) 0 0 T m).cs := by rw [accM_cs]; exact hm
  split at hn
  · rw [wend_read] at hn
    refine nodeFrom_fit _ _ _ _ _ (accT_fits a1 b1 _) (by rw [accM_cs]; exact b1) ?_ nd hn
    exact fits_put (fits_put fits_nul _ (accV_fits ht hm _)) _ (accV_fits a1 b1 _)
  · rw [wend_ret] at hn; cases hn

/-! Entries, as they lie. -/
def enCells (l : List En) : List Value := l.flatMap fun e => [.int .i64 e.lo, .int .i64 e.hi, .int .i64 e.h]
theorem enCells_len (l : List En) : (enCells l).length = l.length * 3 := by
  induction l with
  | nil => rfl
  | cons e l ih => show (_ ++ enCells l).length = _; rw [List.length_append, ih, List.length_cons]; simp; omega
theorem enCells_app (l l' : List En) : enCells (l ++ l') = enCells l ++ enCells l' := by unfold enCells; rw [List.flatMap_append]
theorem enCells_at (l : List En) (i : Nat) (hi : i < l.length) : (enCells l)[i * 3]? = some (.int .i64 (l.getD i ⟨0, 0, 0⟩).lo) ∧ (enCells l)[i * 3 + 1]? = some (.int .i64 (l.getD i ⟨0, 0, 0⟩).hi) ∧ (enCells l)[i * 3 + 2]? = some (.int .i64 (l.getD i ⟨0, 0, 0⟩).h) := by
  induction l generalizing i with
  | nil => simp at hi
  | cons e l ih =>
    have ec : enCells (e :: l) = [.int .i64 e.lo, .int .i64 e.hi, .int .i64 e.h] ++ enCells l := rfl
    match i with
    | 0 => rw [ec]; exact ⟨rfl, rfl, rfl⟩
    | i + 1 =>
      obtain ⟨h1, h2, h3⟩ := ih i (by simpa using hi)
      rw [ec]
      refine ⟨?_, ?_, ?_⟩
      · rw [List.getElem?_append_right (by simp; omega), show (i + 1) * 3 - ([Value.int .i64 e.lo, .int .i64 e.hi, .int .i64 e.h] : List Value).length = i * 3 by simp; omega]; exact h1
      · rw [List.getElem?_append_right (by simp; omega), show (i + 1) * 3 + 1 - ([Value.int .i64 e.lo, .int .i64 e.hi, .int .i64 e.h] : List Value).length = i * 3 + 1 by simp; omega]; exact h2
      · rw [List.getElem?_append_right (by simp; omega), show (i + 1) * 3 + 2 - ([Value.int .i64 e.lo, .int .i64 e.hi, .int .i64 e.h] : List Value).length = i * 3 + 2 by simp; omega]; exact h3
/-- A slice of entries that a call has made. -/
def Mes (base : Nat) (w : World) (v : Value) (l : List En) : Prop := w.ownsRow base 44 3 v l.length (enCells l)
section
variable {w w' : World} {v : Value} {l : List En} {base : Nat}
theorem Mes.nil (w : World) (base : Nat) : Mes base w (.slice none 0 0) [] := World.ownsRow_nil w base _ _
theorem Mes.only {S : Nat → Prop} (h : Mes base w v l) (ho : Only S w w') (hS : ∀ k, v.ownBlock = some k → ¬ S k) : Mes base w' v l := own_only h ho hS
theorem Mes.still (h : Mes base w v l) (hb : Below w.heap.size w w') : Mes base w' v l := own_still h hb
theorem Mes.base' {b' : Nat} (h : Mes base w v l) (hb : b' ≤ base) : Mes b' w v l := own_base h hb
theorem Mes.is (h : Mes base w v l) : ∃ A c, v = .slice A l.length c := own_slice h
/-- Its cells. -/
theorem Mes.at (h : Mes base w v l) (i : Nat) (hi : i < l.length) : ∃ g c, v = .slice (some ⟨g, 0, none⟩) l.length c ∧ w.cell? ⟨g, i * 3, none⟩ = some (.int .i64 (l.getD i ⟨0, 0, 0⟩).lo) ∧ w.cell? ⟨g, i * 3 + 1, none⟩ = some (.int .i64 (l.getD i ⟨0, 0, 0⟩).hi) ∧ w.cell? ⟨g, i * 3 + 2, none⟩ = some (.int .i64 (l.getD i ⟨0, 0, 0⟩).h) := by
  obtain ⟨A, c, rfl⟩ := own_slice h
  obtain ⟨g, rfl, _, _⟩ := own_form h (by omega)
  obtain ⟨h1, h2, h3⟩ := enCells_at l i hi
  unfold Mes at h
  refine ⟨g, c, rfl, ?_, ?_, ?_⟩
  · rw [h.cellAt (i * 3) (by omega)]; exact h1
  · rw [h.cellAt (i * 3 + 1) (by omega)]; exact h2
  · rw [h.cellAt (i * 3 + 2) (by omega)]; exact h3
end

/-! The block of both rows, beside the others. -/
def SnAll (sb : Nat) (ev nv : Value) (k : Nat) : Prop := k = sb ∨ ev.ownBlock = some k ∨ nv.ownBlock = some k
def SAll (b g tb ab ag : Nat) (tv mv : Value) (sb : Nat) (ev nv : Value) (k : Nat) : Prop := WAll b g tb ab ag tv mv k ∨ SnAll sb ev nv k
structure SeenAt (w : World) (b g tb ab ag : Nat) (tv mv : Value) (base sb : Nat) (ev nv : Value) (s : Thru) : Prop where
  top : Whole w sb 136 #[ev, nv]
  es : Mes base w ev s.es
  ns : Mw base w nv s.ns
  far : ∀ k, SnAll sb ev nv k → ¬ WAll b g tb ab ag tv mv k
structure SMoved (w : World) (b g tb ab ag : Nat) (tv mv : Value) (sb : Nat) (ev nv : Value) (w' : World) (tv' mv' ev' nv' : Value) : Prop where
  only : Only (SAll b g tb ab ag tv mv sb ev nv) w w'
  t : ∀ k, tv'.ownBlock = some k → tv.ownBlock = some k ∨ w.heap.size ≤ k
  m : ∀ k, mv'.ownBlock = some k → mv.ownBlock = some k ∨ w.heap.size ≤ k
  e : ∀ k, ev'.ownBlock = some k → ev.ownBlock = some k ∨ w.heap.size ≤ k
  n : ∀ k, nv'.ownBlock = some k → nv.ownBlock = some k ∨ w.heap.size ≤ k
section
variable {w w' w'' : World} {b g tb ab ag sb k base : Nat} {tv mv ev nv tv' mv' ev' nv' tv'' mv'' ev'' nv'' : Value} {T : Tr} {m : Mm} {x : Wi} {G : Int} {N : Nat} {s : Thru} {t : TypeId} {cs : Array Value}
theorem SMoved.refl (w : World) (b g tb ab ag : Nat) (tv mv : Value) (sb : Nat) (ev nv : Value) : SMoved w b g tb ab ag tv mv sb ev nv w tv mv ev nv := ⟨Only.refl _ _, fun _ h => .inl h, fun _ h => .inl h, fun _ h => .inl h, fun _ h => .inl h⟩
theorem SMoved.all (h : SMoved w b g tb ab ag tv mv sb ev nv w' tv' mv' ev' nv') (hk : k < w.heap.size) (ha : SAll b g tb ab ag tv' mv' sb ev' nv' k) : SAll b g tb ab ag tv mv sb ev nv k := by
  rcases ha with ((h1 | h1 | h1 | h1 | h1) | h1) | h1 | h1 | h1
  · exact .inl (.inl (.inl h1))
  · exact .inl (.inl (.inr (.inl h1)))
  · exact .inl (.inl (.inr (.inr (.inl h1))))
  · rcases h.t k h1 with h2 | h2
    · exact .inl (.inl (.inr (.inr (.inr (.inl h2)))))
    · omega
  · rcases h.m k h1 with h2 | h2
    · exact .inl (.inl (.inr (.inr (.inr (.inr h2)))))
    · omega
  · exact .inl (.inr h1)
  · exact .inr (.inl h1)
  · rcases h.e k h1 with h2 | h2
    · exact .inr (.inr (.inl h2))
    · omega
  · rcases h.n k h1 with h2 | h2
    · exact .inr (.inr (.inr h2))
    · omega
theorem SMoved.trans (h : SMoved w b g tb ab ag tv mv sb ev nv w' tv' mv' ev' nv') (k : SMoved w' b g tb ab ag tv' mv' sb ev' nv' w'' tv'' mv'' ev'' nv'') : SMoved w b g tb ab ag tv mv sb ev nv w'' tv'' mv'' ev'' nv'' := by
  have up : ∀ (v v' v'' : Value), (∀ k, v'.ownBlock = some k → v.ownBlock = some k ∨ w.heap.size ≤ k) → (∀ k, v''.ownBlock = some k → v'.ownBlock = some k ∨ w'.heap.size ≤ k) → ∀ k, v''.ownBlock = some k → v.ownBlock = some k ∨ w.heap.size ≤ k := by
    intro v v' v'' h1 h2 j hj
    rcases h2 j hj with h3 | h3
    · exact h1 j h3
    · exact .inr (Nat.le_trans h.only.size h3)
  refine ⟨⟨k.only.os.trans h.only.os, k.only.tape.trans h.only.tape, k.only.output.trans h.only.output, Nat.le_trans h.only.size k.only.size, fun i hi hn => ?_⟩, up _ _ _ h.t k.t, up _ _ _ h.m k.m, up _ _ _ h.e k.e, up _ _ _ h.n k.n⟩
  exact (k.only.block i (Nat.lt_of_lt_of_le hi h.only.size) (fun ha => hn (h.all hi ha))).trans (h.only.block i hi hn)
theorem SMoved.of_w (h : WMoved w b g tb ab ag tv mv w' tv' mv') : SMoved w b g tb ab ag tv mv sb ev nv w' tv' mv' ev nv := ⟨h.only.mono (fun _ _ h => .inl h), h.t, h.m, fun _ h => .inl h, fun _ h => .inl h⟩
theorem SMoved.still (h : Below w.heap.size w w') (b g tb ab ag : Nat) (tv mv : Value) (sb : Nat) (ev nv : Value) : SMoved w b g tb ab ag tv mv sb ev nv w' tv mv ev nv := ⟨Only.of_below h _, fun _ h => .inl h, fun _ h => .inl h, fun _ h => .inl h, fun _ h => .inl h⟩
/-- What lies beside both, behind a move. -/
theorem Whole.smoved (h : Whole w k t cs) (hn : ¬ SAll b g tb ab ag tv mv sb ev nv k) (hm : SMoved w b g tb ab ag tv mv sb ev nv w' tv' mv' ev' nv') : Whole w' k t cs ∧ ¬ SAll b g tb ab ag tv' mv' sb ev' nv' k := ⟨h.only hm.only hn, fun ha => hn (hm.all h.lt ha)⟩
theorem SeenAt.lt (h : SeenAt w b g tb ab ag tv mv base sb ev nv s) : ∀ k, SnAll sb ev nv k → k < w.heap.size := by
  rintro k (rfl | h1 | h1)
  · exact h.top.lt
  · exact (World.ownsRow.lt h.es k h1).2
  · exact (World.ownsRow.lt h.ns k h1).2
theorem SeenAt.moved_w (h : SeenAt w b g tb ab ag tv mv base sb ev nv s) (hm : WMoved w b g tb ab ag tv mv w' tv' mv') : SeenAt w' b g tb ab ag tv' mv' base sb ev nv s :=
  ⟨h.top.only hm.only (h.far _ (.inl rfl)), h.es.only hm.only (fun k hk => h.far k (.inr (.inl hk))), h.ns.only hm.only (fun k hk => h.far k (.inr (.inr hk))), fun k hk ha => h.far k hk (hm.all (h.lt k hk) ha)⟩
theorem SeenAt.still (h : SeenAt w b g tb ab ag tv mv base sb ev nv s) (hb : Below w.heap.size w w') : SeenAt w' b g tb ab ag tv mv base sb ev nv s := h.moved_w (WMoved.still hb b g tb ab ag tv mv)
/-- The trail, the memory and the arena, where what was gone through is written. -/
theorem WSt.beside_all {S : Nat → Prop} (h : WSt w b g tb ab ag tv mv T m x) (hn : ∀ q, S q → ¬ WAll b g tb ab ag tv mv q) (ho : Only S w w') : WSt w' b g tb ab ag tv mv T m x :=
  ⟨⟨h.st.tr.only ho (fun e => hn _ e (.inl (.inr (.inr (.inl rfl))))) (fun q hq e => hn _ e (.inl (.inr (.inr (.inr (.inl hq)))))) (fun q hq e => hn _ e (.inl (.inr (.inr (.inr (.inr hq)))))), h.st.mem.only ho (fun e => hn _ e (.inl (.inl rfl))) (fun e => hn _ e (.inl (.inr (.inl rfl)))), h.st.apart⟩, h.ar.only ho (fun e => hn _ e (.inr (.inl rfl))) (fun e => hn _ e (.inr (.inr rfl)))⟩
theorem Sat.beside_all {S : Nat → Prop} (h : Sat w b g tb ab ag tv mv T m x G N) (hn : ∀ q, S q → ¬ WAll b g tb ab ag tv mv q) (ho : Only S w w') : Sat w' b g tb ab ag tv mv T m x G N :=
  ⟨h.st.beside_all hn ho, h.fine, h.told, h.cnt, h.wi, h.ft, h.fm⟩
/-- A row grows, behind an append that isn't stored yet. -/
theorem SeenAt.grown {o : Obj} {v : Value} (h : SeenAt w b g tb ab ag tv mv base sb ev nv s) (hv : v = ev ∨ v = nv) (hg : (w.alloc o).grownBy w' v.ownBlock) : Whole w' sb 136 #[ev, nv] := by
  refine (h.top.alloc o).grown hg (fun he => ?_)
  rcases hv with rfl | rfl
  · exact own_apart h.es h.top (by decide) he.symm
  · exact own_apart h.ns h.top (by decide) he.symm
theorem SeenAt.apart (h : SeenAt w b g tb ab ag tv mv base sb ev nv s) : ∀ k, ev.ownBlock = some k → nv.ownBlock ≠ some k := fun k hk => own_rows h.es h.ns (by decide) k hk
/-- A node's handle more. -/
theorem SeenAt.node {o : Obj} {h : Int} (H : SeenAt w b g tb ab ag tv mv base sb ev nv s) (hs : WSt w b g tb ab ag tv mv T m x) (hg : (w.alloc o).grownBy w' nv.ownBlock)
    (hown : w'.ownsRow base 2 1 nv' (s.ns.length + 1) (s.ns.map (Value.int .i64) ++ [.int .i64 h])) (hat : nv.ownBlock = nv'.ownBlock ∨ nv'.ownBlock = some (w.heap.size + 1)) :
    SeenAt (w'.setCell ⟨sb, 1, none⟩ nv') b g tb ab ag tv mv base sb ev nv' ⟨s.es, s.ns ++ [h]⟩ ∧ Only (SnAll sb ev nv) w (w'.setCell ⟨sb, 1, none⟩ nv') ∧ SMoved w b g tb ab ag tv mv sb ev nv (w'.setCell ⟨sb, 1, none⟩ nv') tv mv ev nv' := by
  have ho : Only (fun k => nv.ownBlock = some k) w w' := ((Only.refl _ w).alloc o).grown hg (fun k hk => .inl hk)
  have htop := H.grown (.inr rfl) hg
  have hne : nv'.ownBlock ≠ some sb := own_apart hown htop (by decide)
  have h1 : ∀ k, nv'.ownBlock = some k → nv.ownBlock = some k ∨ w.heap.size ≤ k := by
    intro k hk
    rcases hat with ha | ha
    · rw [ha]; exact .inl hk
    · rw [ha] at hk; injection hk with hk; omega
  have ho2 : Only (SnAll sb ev nv) w (w'.setCell ⟨sb, 1, none⟩ nv') := (ho.mono (fun k _ hk => .inr (.inr hk))).setCell (.inl (.inl rfl)) _
  refine ⟨⟨htop.put 1 nv', ?_, ?_, ?_⟩, ho2, ⟨ho2.mono (fun _ _ h => .inr h), fun _ h => .inl h, fun _ h => .inl h, fun _ h => .inl h, h1⟩⟩
  · exact own_far (p := ⟨sb, 1, none⟩) (H.es.only ho (fun k hk => H.apart k hk)) (own_apart H.es H.top (by decide)) nv'
  · have := own_far (p := ⟨sb, 1, none⟩) hown hne nv'
    unfold Mw
    rw [List.length_append, List.map_append]
    exact this
  · rintro k (rfl | hk | hk)
    · exact H.far _ (.inl rfl)
    · exact H.far _ (.inr (.inl hk))
    · rcases h1 k hk with h2 | h2
      · exact H.far _ (.inr (.inr h2))
      · intro ha; have := wall_lt hs ha; omega
/-- An entry more. -/
theorem SeenAt.entry {o : Obj} {e : En} (H : SeenAt w b g tb ab ag tv mv base sb ev nv s) (hs : WSt w b g tb ab ag tv mv T m x) (hg : (w.alloc o).grownBy w' ev.ownBlock)
    (hown : w'.ownsRow base 44 3 ev' (s.es.length + 1) (enCells s.es ++ [.int .i64 e.lo, .int .i64 e.hi, .int .i64 e.h])) (hat : ev.ownBlock = ev'.ownBlock ∨ ev'.ownBlock = some (w.heap.size + 1)) :
    SeenAt (w'.setCell ⟨sb, 0, none⟩ ev') b g tb ab ag tv mv base sb ev' nv ⟨s.es ++ [e], s.ns⟩ ∧ Only (SnAll sb ev nv) w (w'.setCell ⟨sb, 0, none⟩ ev') ∧ SMoved w b g tb ab ag tv mv sb ev nv (w'.setCell ⟨sb, 0, none⟩ ev') tv mv ev' nv := by
  have ho : Only (fun k => ev.ownBlock = some k) w w' := ((Only.refl _ w).alloc o).grown hg (fun k hk => .inl hk)
  have htop := H.grown (.inl rfl) hg
  have hne : ev'.ownBlock ≠ some sb := own_apart hown htop (by decide)
  have h1 : ∀ k, ev'.ownBlock = some k → ev.ownBlock = some k ∨ w.heap.size ≤ k := by
    intro k hk
    rcases hat with ha | ha
    · rw [ha]; exact .inl hk
    · rw [ha] at hk; injection hk with hk; omega
  have ho2 : Only (SnAll sb ev nv) w (w'.setCell ⟨sb, 0, none⟩ ev') := (ho.mono (fun k _ hk => .inr (.inl hk))).setCell (.inl (.inl rfl)) _
  refine ⟨⟨htop.put 0 ev', ?_, ?_, ?_⟩, ho2, ⟨ho2.mono (fun _ _ h => .inr h), fun _ h => .inl h, fun _ h => .inl h, h1, fun _ h => .inl h⟩⟩
  · have := own_far (p := ⟨sb, 0, none⟩) hown hne ev'
    unfold Mes
    rw [List.length_append, enCells_app]
    exact this
  · exact own_far (p := ⟨sb, 0, none⟩) (H.ns.only ho (fun k hk he => H.apart k he hk)) (own_apart H.ns H.top (by decide)) ev'
  · rintro k (rfl | hk | hk)
    · exact H.far _ (.inl rfl)
    · rcases h1 k hk with h2 | h2
      · exact H.far _ (.inr (.inl h2))
      · intro ha; have := wall_lt hs ha; omega
    · exact H.far _ (.inr (.inr hk))

/-- A node's variable, and its rows, beside all that. -/
structure NdAt (w : World) (b g tb ab ag : Nat) (tv mv : Value) (sb : Nat) (ev nv : Value) (p : Nat) (n : Nd) (x y z : Value) : Prop where
  node : Whole w p 34 (n.cells x y z)
  me : Mw 0 w x n.ends
  ms : Mw 0 w y n.slots
  far : ∀ k, (k = p ∨ x.ownBlock = some k ∨ y.ownBlock = some k) → ¬ SAll b g tb ab ag tv mv sb ev nv k
theorem NdAt.moved {p : Nat} {n : Nd} {u y z : Value} (h : NdAt w b g tb ab ag tv mv sb ev nv p n u y z) (hm : SMoved w b g tb ab ag tv mv sb ev nv w' tv' mv' ev' nv') : NdAt w' b g tb ab ag tv' mv' sb ev' nv' p n u y z := by
  refine ⟨h.node.only hm.only (h.far _ (.inl rfl)), h.me.only hm.only (fun k hk => h.far _ (.inr (.inl hk))), h.ms.only hm.only (fun k hk => h.far _ (.inr (.inr hk))), fun k hk ha => h.far k hk (hm.all ?_ ha)⟩
  rcases hk with rfl | hk | hk
  · exact h.node.lt
  · exact (World.ownsRow.lt h.me k hk).2
  · exact (World.ownsRow.lt h.ms k hk).2
theorem NdAt.fresh {n : Nd} {u y z : Value} {W : World} {tv1 mv1 : Value} {T1 : Tr} {m1 : Mm} {x1 : Wi} (hS : SeenAt W b g tb ab ag tv mv base sb ev nv s) (hW : WSt w b g tb ab ag tv1 mv1 T1 m1 x1) (hap : NdApart b g tb ab ag tv1 mv1 (.tuple #[n.val u y z, .bool true])) (hm : NdMine W.heap.size w n u y z) (hle : W.heap.size ≤ w.heap.size) :
    NdAt (w.alloc (.cells (n.cells u y z) 34)) b g tb ab ag tv1 mv1 sb ev nv w.heap.size n u y z := by
  have hb := below_new w (.cells (n.cells u y z) 34)
  refine ⟨Whole.new _ _ _, (hm.me.still hb).base' (Nat.zero_le _), (hm.ms.still hb).base' (Nat.zero_le _), ?_⟩
  rintro k hk (h1 | h1)
  · rcases hk with rfl | hk
    · have := wall_lt hW h1; omega
    · exact hap n u y z rfl k (hk.imp id .inl) h1
  · have h2 := hS.lt k h1
    rcases hk with rfl | hk | hk
    · omega
    · have := (World.ownsRow.lt hm.me k hk).1; omega
    · have := (World.ownsRow.lt hm.ms k hk).1; omega
end
end Go.Proofs.Ytejkhnphplpkeaa

/-
  Layer 17: finding an address: a contract for the call.
-/
namespace Go.Proofs.Ytejkhnphplpkeaa
open Go.ChangeShapes Go.WideShapes Go.ChangeAt Go.RowKit
set_option linter.unusedVariables false

def findV (r : Int × Bool) : Value := .tuple #[.int .i64 r.1, .bool r.2]
section
variable {w : World} {b g tb ab ag : Nat} {tv mv : Value} {T : Tr} {m : Mm} {x : Wi} {G : Int} {n : Nat}
/-- Where its loop stands. -/
def FindRel (w : World) (b g tb ab ag : Nat) (tv mv : Value) (x : Wi) (G : Int) (n : Nat) (O : WEnd (Int × Bool)) (addr : Int) (hv iv : Value) (wr : World) : Prop :=
  ∃ (r : Nat) (h : Int) (tv' mv' : Value) (T' : Tr) (m' : Mm) (x' : Wi), r ≤ 8 ∧ iv = .int .i64 r ∧ hv = .int .i64 h ∧ h ≤ 9223372036854775807 ∧ Sat wr b g tb ab ag tv' mv' T' m' x' G (n + 10 * (8 - r)) ∧ WMoved w b g tb ab ag tv mv wr tv' mv' ∧ (x'.fst = x.fst ∧ x'.l = x.l) ∧
    O = wend (findFrom (fun h => cellOf x.fst x.l.length h) addr (8 - r) h) T' m' x'
set_option maxHeartbeats 4000000 in
theorem find_c (root addr : Int) (H : Sat w b g tb ab ag tv mv T m x G (n + 80)) (hh : root ≤ 9223372036854775807) :
    Calls Try.prog 53 #[.pointer (some ⟨tb, 0, none⟩), .pointer (some ⟨ab, 0, none⟩), .int .i64 root, .int .i64 addr] w (SkPost w b g tb ab ag tv mv G n (fun r v _ => v = findV r) (wend (findFrom (fun h => cellOf x.fst x.l.length h) addr 8 root) T m x)) := by
  have hnot : ∀ (x : Bool) (w : World), (Op.unary .not (.bool x)).run Try.prog w = .ok (.bool (!x)) w := fun _ _ => rfl
  obtain ⟨O, hO⟩ : ∃ O, wend (findFrom (fun h => cellOf x.fst x.l.length h) addr 8 root) T m x = O := ⟨_, rfl⟩
  rw [hO]
  obtain ⟨R, hR⟩ : ∃ R, SkPost w b g tb ab ag tv mv G n (fun r v _ => v = findV r) O = R := ⟨_, rfl⟩
  rw [hR]
  have FIN : Hid (∀ w1 tv1 mv1 (r : Int × Bool) T1 m1 x1, O = ⟨r, T1, m1, x1⟩ → Sat w1 b g tb ab ag tv1 mv1 T1 m1 x1 G n → WMoved w b g tb ab ag tv mv w1 tv1 mv1 → R (.returned (findV r)) w1) := Lib.hid (by
    intro w1 tv1 mv1 r T1 m1 x1 e s mo
    rw [← hR, e]
    exact ⟨_, tv1, mv1, rfl, rfl, s, mo⟩)
  have L0 : Hid (FindRel w b g tb ab ag tv mv x G n O addr (.int .i64 root) (.int .i64 0) w) := Lib.hid ⟨0, root, tv, mv, T, m, x, by omega, rfl, rfl, hh, H, WMoved.refl .., ⟨rfl, rfl⟩, hO.symm⟩
  clear hO hR H hh
  unfold findV at FIN
  go_enter Try.func53, Try.ntmps53
  go_wp2_with fail
  go_loopw [10, 15] (fun hv iv wr => FindRel w b g tb ab ag tv mv x G n O addr hv iv wr) (fun _ iv _ => 8 - (intOf iv).toNat)
  case atStart => exact L0.out
  case round =>
    obtain ⟨r, h, tv2, mv2, T2, m2, x2, hr, rfl, rfl, hh, s2, mo2, hx2, e2⟩ := hrel
    clear L0
    by_cases hlt : r < 8
    · have hr8 : (r : Int) < 8 := by omega
      rw [show 8 - r = (8 - (r + 1)) + 1 by omega] at e2
      unfold findFrom at e2
      rw [wend_bind] at e2
      have C := Lib.hid (look_c (n := n + 10 * (8 - (r + 1))) h addr (s2.less (by omega)) hh)
      rw [hx2.1, hx2.2] at C
      have ws := wend_same (lookP (cellOf x.fst x.l.length h) h addr) T2 m2 x2
      have fi := look_fit (cellOf x.fst x.l.length h) h addr (x := x2) s2.ft s2.fm
      generalize wend (lookP (cellOf x.fst x.l.length h) h addr) T2 m2 x2 = q at *
      obtain ⟨⟨f, inn, ok⟩, T3, m3, x3⟩ := q
      have E2 := Lib.hid e2
      have M2 := Lib.hid mo2
      have X2 : Hid (x3.fst = x.fst ∧ x3.l = x.l) := Lib.hid ⟨ws.1.trans hx2.1, ws.2.trans hx2.2⟩
      have F2 : Hid (f ≤ 9223372036854775807) := Lib.hid fi.2
      clear e2 s2 mo2 hx2 ws fi hh
      go_wp2_with fail
      refine C.out.mono ?_
      rintro e w3 ⟨v, tv3, mv3, rfl, rfl, s3, mo3⟩
      have S3 := Lib.hid s3
      have M3 := Lib.hid (M2.out.trans mo3)
      clear s3 mo3 C M2
      unfold lookV at *
      simp only at E2 S3
      cases ok with
      | false =>
        have FX := Lib.hid (FIN.out _ _ _ (0, false) _ _ _ E2.out (S3.out.less (by omega)) M3.out)
        clear FIN E2 S3 M3 X2 F2
        go_wp2_with fail
        exact FX.out
      | true =>
        cases inn with
        | false =>
          have FX := Lib.hid (FIN.out _ _ _ (f, true) _ _ _ E2.out (S3.out.less (by omega)) M3.out)
          clear FIN E2 S3 M3 X2 F2
          go_wp2_with fail
          exact FX.out
        | true =>
          go_wp2_with fail
          go_roundw
          case rel => exact ⟨r + 1, f, tv3, mv3, T3, m3, x3, by omega, by go_num, rfl, F2.out, S3.out, M3.out, X2.out, E2.out⟩
          case measure => simp [intOf]; omega
    · have hr8 : r = 8 := by omega
      subst hr8
      have FX := Lib.hid (FIN.out _ _ _ (0, false) _ _ _ e2 (s2.less (by omega)) mo2)
      clear s2 mo2 hx2 e2 FIN
      go_wp2_with fail
      exact FX.out
end
end Go.Proofs.Ytejkhnphplpkeaa
