/-
  Texts of our own, one behind the other (WkDown): what the laws' proofs rest on; each says at its head what it holds. No conditions.
-/
import Derived.Test.YtlhjimkfcchdaaaPkZf
import Derived.Test.YtlhjimkfcchdaaaPkZc
import Derived.Test.YtlhjimkfcchdaaaPkYe
import Derived.Deep.RegionHeldLaw
/-
  Layer 17: the reference: going through, by a method that calls itself.
-/
namespace Go.Proofs.Ytlhjimkfcchdaaa
open Go.ChangeShapes Go.WideShapes Go.ChangeAt Go.RowKit
set_option linter.unusedVariables false
set_option linter.unusedSimpArgs false

theorem nodeW_fit {x : List Int} (hx : Fits x) {n : Nd} (h : (nodeW x).1 = some n) : NdFit n := by
  unfold nodeW at h
  split at h
  · simp only at h
    split at h
    · rename_i h1 h2
      injection h with h
      subst h
      refine ⟨h2, fun i hi => ?_⟩
      unfold unN
      rw [nth_take]
      split
      · rw [nth_drop]; exact fits_nth hx _
      · omega
    · cases h
  · cases h
structure DnAt (w : World) (base sb : Nat) (ev nv : Value) (K : Nat) (s : Thru) : Prop where
  top : Whole w sb 43 #[ev, nv, .int .i64 (K : Int)]
  es : Mes base w ev s.es
  ns : Mw base w nv s.ns
structure DMoved (w : World) (sb : Nat) (ev nv : Value) (w' : World) (ev' nv' : Value) : Prop where
  only : Only (SnAll sb ev nv) w w'
  e : ∀ k, ev'.ownBlock = some k → ev.ownBlock = some k ∨ w.heap.size ≤ k
  n : ∀ k, nv'.ownBlock = some k → nv.ownBlock = some k ∨ w.heap.size ≤ k
section
variable {w w' w'' : World} {sb k base K : Nat} {ev nv ev' nv' ev'' nv'' : Value} {s : Thru} {t : TypeId} {cs : Array Value}
theorem DMoved.refl (w : World) (sb : Nat) (ev nv : Value) : DMoved w sb ev nv w ev nv := ⟨Only.refl _ _, fun _ h => .inl h, fun _ h => .inl h⟩
theorem DMoved.still (h : Below w.heap.size w w') (sb : Nat) (ev nv : Value) : DMoved w sb ev nv w' ev nv := ⟨Only.of_below h _, fun _ h => .inl h, fun _ h => .inl h⟩
theorem DMoved.all (h : DMoved w sb ev nv w' ev' nv') (hk : k < w.heap.size) (ha : SnAll sb ev' nv' k) : SnAll sb ev nv k := by
  rcases ha with h1 | h1 | h1
  · exact .inl h1
  · rcases h.e k h1 with h2 | h2
    · exact .inr (.inl h2)
    · omega
  · rcases h.n k h1 with h2 | h2
    · exact .inr (.inr h2)
    · omega
theorem DMoved.trans (h : DMoved w sb ev nv w' ev' nv') (k : DMoved w' sb ev' nv' w'' ev'' nv'') : DMoved w sb ev nv w'' ev'' nv'' := by
  refine ⟨⟨k.only.os.trans h.only.os, k.only.tape.trans h.only.tape, k.only.output.trans h.only.output, Nat.le_trans h.only.size k.only.size, fun i hi hn => ?_⟩, fun j hj => ?_, fun j hj => ?_⟩
  · exact (k.only.block i (Nat.lt_of_lt_of_le hi h.only.size) (fun ha => hn (h.all hi ha))).trans (h.only.block i hi hn)
  · rcases k.e j hj with h1 | h1
    · exact h.e j h1
    · exact .inr (Nat.le_trans h.only.size h1)
  · rcases k.n j hj with h1 | h1
    · exact h.n j h1
    · exact .inr (Nat.le_trans h.only.size h1)
theorem DnAt.lo (h : DnAt w base sb ev nv K s) (hb : base ≤ sb) : ∀ k, SnAll sb ev nv k → base ≤ k ∧ k < w.heap.size := by
  rintro k (rfl | h1 | h1)
  · exact ⟨hb, h.top.lt⟩
  · exact World.ownsRow.lt h.es k h1
  · exact World.ownsRow.lt h.ns k h1
theorem DMoved.below {w0 : World} (h : DMoved w sb ev nv w' ev' nv') (hb : Below w0.heap.size w0 w) (hl : ∀ k, SnAll sb ev nv k → w0.heap.size ≤ k) : Below w0.heap.size w0 w' := hb.trans (h.only.below hl hb.size)
theorem DnAt.still (h : DnAt w base sb ev nv K s) (hb : Below w.heap.size w w') : DnAt w' base sb ev nv K s := ⟨h.top.below hb h.top.lt, h.es.still hb, h.ns.still hb⟩
theorem DnAt.apart (h : DnAt w base sb ev nv K s) : ∀ k, ev.ownBlock = some k → nv.ownBlock ≠ some k := fun k hk => own_rows h.es h.ns (by decide) k hk
theorem DnAt.grown {o : Obj} {v : Value} (h : DnAt w base sb ev nv K s) (hv : v = ev ∨ v = nv) (hg : (w.alloc o).grownBy w' v.ownBlock) : Whole w' sb 43 #[ev, nv, .int .i64 (K : Int)] := by
  refine (h.top.alloc o).grown hg (fun he => ?_)
  rcases hv with rfl | rfl
  · exact own_apart h.es h.top (by decide) he.symm
  · exact own_apart h.ns h.top (by decide) he.symm
/-- A node's handle more. -/
theorem DnAt.node {o : Obj} {h : Int} (H : DnAt w base sb ev nv K s) (hg : (w.alloc o).grownBy w' nv.ownBlock)
    (hown : w'.ownsRow base 2 1 nv' (s.ns.length + 1) (s.ns.map (Value.int .i64) ++ [.int .i64 h])) (hat : nv.ownBlock = nv'.ownBlock ∨ nv'.ownBlock = some (w.heap.size + 1)) :
    DnAt (w'.setCell ⟨sb, 1, none⟩ nv') base sb ev nv' K ⟨s.es, s.ns ++ [h]⟩ ∧ DMoved w sb ev nv (w'.setCell ⟨sb, 1, none⟩ nv') ev nv' := by
  have ho : Only (fun k => nv.ownBlock = some k) w w' := ((Only.refl _ w).alloc o).grown hg (fun k hk => .inl hk)
  have htop := H.grown (.inr rfl) hg
  have hne : nv'.ownBlock ≠ some sb := own_apart hown htop (by decide)
  have h1 : ∀ k, nv'.ownBlock = some k → nv.ownBlock = some k ∨ w.heap.size ≤ k := by
    intro k hk
    rcases hat with ha | ha
    · rw [ha]; exact .inl hk
    · rw [ha] at hk; injection hk with hk; omega
  have ho2 : Only (SnAll sb ev nv) w (w'.setCell ⟨sb, 1, none⟩ nv') := (ho.mono (fun k _ hk => .inr (.inr hk))).setCell (.inl (.inl rfl)) _
  refine ⟨⟨htop.put 1 nv', ?_, ?_⟩, ⟨ho2, fun _ h => .inl h, h1⟩⟩
  · exact own_far (p := ⟨sb, 1, none⟩) (H.es.only ho (fun k hk => H.apart k hk)) (own_apart H.es H.top (by decide)) nv'
  · have := own_far (p := ⟨sb, 1, none⟩) hown hne nv'
    unfold Mw
    rw [List.length_append, List.map_append]
    exact this
/-- An entry more. -/
theorem DnAt.entry {o : Obj} {e : En} (H : DnAt w base sb ev nv K s) (hg : (w.alloc o).grownBy w' ev.ownBlock)
    (hown : w'.ownsRow base 47 3 ev' (s.es.length + 1) (enCells s.es ++ [.int .i64 e.lo, .int .i64 e.hi, .int .i64 e.h])) (hat : ev.ownBlock = ev'.ownBlock ∨ ev'.ownBlock = some (w.heap.size + 1)) :
    DnAt (w'.setCell ⟨sb, 0, none⟩ ev') base sb ev' nv K ⟨s.es ++ [e], s.ns⟩ ∧ DMoved w sb ev nv (w'.setCell ⟨sb, 0, none⟩ ev') ev' nv := by
  have ho : Only (fun k => ev.ownBlock = some k) w w' := ((Only.refl _ w).alloc o).grown hg (fun k hk => .inl hk)
  have htop := H.grown (.inl rfl) hg
  have hne : ev'.ownBlock ≠ some sb := own_apart hown htop (by decide)
  have h1 : ∀ k, ev'.ownBlock = some k → ev.ownBlock = some k ∨ w.heap.size ≤ k := by
    intro k hk
    rcases hat with ha | ha
    · rw [ha]; exact .inl hk
    · rw [ha] at hk; injection hk with hk; omega
  have ho2 : Only (SnAll sb ev nv) w (w'.setCell ⟨sb, 0, none⟩ ev') := (ho.mono (fun k _ hk => .inr (.inl hk))).setCell (.inl (.inl rfl)) _
  refine ⟨⟨htop.put 0 ev', ?_, ?_⟩, ⟨ho2, h1, fun _ h => .inl h⟩⟩
  · have := own_far (p := ⟨sb, 0, none⟩) hown hne ev'
    unfold Mes
    rw [List.length_append, enCells_app]
    exact this
  · exact own_far (p := ⟨sb, 0, none⟩) (H.ns.only ho (fun k hk he => H.apart k he hk)) (own_apart H.ns H.top (by decide)) ev'
/-- The steps. -/
theorem DnAt.steps (H : DnAt w base sb ev nv K s) (K' : Nat) : DnAt (w.setCell ⟨sb, 2, none⟩ (.int .i64 (K' : Int))) base sb ev nv K' s ∧ DMoved w sb ev nv (w.setCell ⟨sb, 2, none⟩ (.int .i64 (K' : Int))) ev nv := by
  refine ⟨⟨H.top.put 2 _, own_far (p := ⟨sb, 2, none⟩) H.es (own_apart H.es H.top (by decide)) _, own_far (p := ⟨sb, 2, none⟩) H.ns (own_apart H.ns H.top (by decide)) _⟩, ⟨(Only.refl (SnAll sb ev nv) w).setCell (p := ⟨sb, 2, none⟩) (.inl (.inl rfl)) _, fun _ h => .inl h, fun _ h => .inl h⟩⟩
/-- A node's variable, and its rows, beside the tree's. -/
structure NdBy (w : World) (sb : Nat) (ev nv : Value) (p : Nat) (n : Nd) (x y z : Value) : Prop where
  node : Whole w p 50 (n.cells x y z)
  me : Mw 0 w x n.ends
  ms : Mw 0 w y n.slots
  far : ∀ k, (k = p ∨ x.ownBlock = some k ∨ y.ownBlock = some k) → ¬ SnAll sb ev nv k
theorem NdBy.moved {p : Nat} {n : Nd} {u y z : Value} (h : NdBy w sb ev nv p n u y z) (hm : DMoved w sb ev nv w' ev' nv') : NdBy w' sb ev' nv' p n u y z := by
  refine ⟨h.node.only hm.only (h.far _ (.inl rfl)), h.me.only hm.only (fun k hk => h.far _ (.inr (.inl hk))), h.ms.only hm.only (fun k hk => h.far _ (.inr (.inr hk))), fun k hk ha => h.far k hk (hm.all ?_ ha)⟩
  rcases hk with rfl | hk | hk
  · exact h.node.lt
  · exact (World.ownsRow.lt h.me k hk).2
  · exact (World.ownsRow.lt h.ms k hk).2
theorem NdBy.fresh {n : Nd} {u y z : Value} {W : World} (hS : DnAt W base sb ev nv K s) (hb : base ≤ sb) (hm : NdMine W.heap.size w n u y z) (hle : W.heap.size ≤ w.heap.size) :
    NdBy (w.alloc (.cells (n.cells u y z) 50)) sb ev nv w.heap.size n u y z := by
  have hbl := below_new w (.cells (n.cells u y z) 50)
  refine ⟨Whole.new _ _ _, (hm.me.still hbl).base' (Nat.zero_le _), (hm.ms.still hbl).base' (Nat.zero_le _), ?_⟩
  intro k hk h1
  have h2 := (hS.lo hb k h1).2
  rcases hk with rfl | hk | hk
  · omega
  · have := (World.ownsRow.lt hm.me k hk).1; omega
  · have := (World.ownsRow.lt hm.ms k hk).1; omega
end

/-- What the call leaves: the answer, and the steps in all. -/
def DnPost (w : World) (base sb : Nat) (ev nv : Value) (F : Option Thru × Nat) (e : Ending) (w' : World) : Prop :=
  ∃ ev' nv', e = .returned (.bool F.1.isSome) ∧ DMoved w sb ev nv w' ev' nv' ∧ Whole w' sb 43 #[ev', nv', .int .i64 (F.2 : Int)] ∧ ∀ s', F.1 = some s' → DnAt w' base sb ev' nv' F.2 s' ∧ s'.ns.length ≤ 64 ∧ s'.es.length ≤ 8 * s'.ns.length ∧ F.2 ≤ 26 * s'.ns.length
section
variable {w0 : World} {A : Option Addr} {n c sb : Nat} {ls : List (List Int)}
def DnAll (w0 : World) (A : Option Addr) (n c sb : Nat) (ls : List (List Int)) (k : Nat) : Prop := ∀ (w : World) (ev nv : Value) (s : Thru) (K : Nat) (h : Int), Below w0.heap.size w0 w → DnAt w w0.heap.size sb ev nv K s → -9223372036854775808 ≤ h → h ≤ 9223372036854775807 → s.ns.length ≤ 64 → s.es.length ≤ 8 * s.ns.length → K ≤ 26 * s.ns.length →
  Calls Try.prog 13 #[.pointer (some ⟨sb, 0, none⟩), .slice A n c, .int .i64 h, .int .i64 k] w (DnPost w w0.heap.size sb ev nv ((thruW ls k h s).1, K + (thruW ls k h s).2))
/-- Where its loop stands. -/
def DnRel (w0 w : World) (sb : Nat) (ev nv : Value) (ls : List (List Int)) (F : Option Thru × Nat) (k p : Nat) (nd : Nd) (u y z : Value) (lv iv : Value) (wr : World) : Prop :=
  ∃ (r : Nat) (lo : Int) (ev' nv' : Value) (K : Nat) (s' : Thru), r ≤ nd.ends.length ∧ lv = .int .i64 lo ∧ iv = .int .i64 r ∧ Below w0.heap.size w0 wr ∧ DnAt wr w0.heap.size sb ev' nv' K s' ∧ DMoved w sb ev nv wr ev' nv' ∧ NdBy wr sb ev' nv' p nd u y z ∧
    (s'.ns.length ≤ 64 ∧ s'.es.length + (if nd.inner then 0 else nd.ends.length - r) ≤ 8 * s'.ns.length ∧ K ≤ 26 * s'.ns.length) ∧
    F = ((thruEW (thruW ls k) nd.inner lo ((nd.ends.zip nd.slots).drop r) s').1, K + (thruEW (thruW ls k) nd.inner lo ((nd.ends.zip nd.slots).drop r) s').2)
set_option maxHeartbeats 1000000 in
theorem down_zero : DnAll w0 A n c sb ls 0 := by
  intro w ev nv s K h hb D h1 h2 h64 h8 hK
  have FIN : Hid (DnPost w w0.heap.size sb ev nv ((thruW ls 0 h s).1, K + (thruW ls 0 h s).2) (.returned (.bool false)) w) := Lib.hid ⟨ev, nv, rfl, DMoved.refl .., D.top, fun s' e => by cases e⟩
  clear D hb
  generalize DnPost w w0.heap.size sb ev nv ((thruW ls 0 h s).1, K + (thruW ls 0 h s).2) = R at *
  go_enter Try.func13, Try.ntmps13
  go_wp2_with fail
  exact FIN.out
set_option maxRecDepth 100000 in
set_option maxHeartbeats 8000000 in
theorem down_succ (k : Nat) (hk : k < 8) (hn : ls.length = n) (h8n : n ≤ 8) (H : Wss w0 (.slice A n c) ls) (h28 : All28 ls) (hf : ∀ i, i < ls.length → Fits (ls.getD i [])) (hsb : w0.heap.size ≤ sb) (IH : DnAll w0 A n c sb ls k) : DnAll w0 A n c sb ls (k + 1) := by
  intro w ev nv s K h hb D h1 h2 h64 h8 hK
  have hnot : ∀ (x : Bool) (w : World), (Op.unary .not (.bool x)).run Try.prog w = .ok (.bool (!x)) w := fun _ _ => rfl
  have ih := Lib.hid IH
  have OF : Hid (∀ W', Below w0.heap.size w0 W' → Calls Try.prog 28 #[.slice A n c, .int .i64 h] W' fun e w' => ofA ls h W' e ∧ W' = w') := Lib.hid (fun W' hb' => of_c H hn h8n h h1 h2 W' hb')
  have ROW := Lib.hid (fun h x (e : wordsAt ls h = some x) => words_row e h28 hf)
  have HSB := Lib.hid hsb
  clear IH H h28 hf hn h8n hsb
  obtain ⟨FF, hF⟩ : ∃ F, ((thruW ls (k + 1) h s).1, K + (thruW ls (k + 1) h s).2) = F := ⟨_, rfl⟩
  rw [hF]
  unfold thruW at hF
  obtain ⟨R, hR⟩ : ∃ R, DnPost w w0.heap.size sb ev nv FF = R := ⟨_, rfl⟩
  rw [hR]
  have FIN : Hid (∀ w1 ev1 nv1 (r : Option Thru) (K1 : Nat), FF = (r, K1) → DMoved w sb ev nv w1 ev1 nv1 → Whole w1 sb 43 #[ev1, nv1, .int .i64 (K1 : Int)] → (∀ s', r = some s' → DnAt w1 w0.heap.size sb ev1 nv1 K1 s' ∧ s'.ns.length ≤ 64 ∧ s'.es.length ≤ 8 * s'.ns.length ∧ K1 ≤ 26 * s'.ns.length) → R (.returned (.bool r.isSome)) w1) := Lib.hid (by
    intro w1 ev1 nv1 r K1 e mo tp se
    rw [← hR, e]
    exact ⟨ev1, nv1, rfl, mo, tp, se⟩)
  clear hR
  obtain ⟨A2, c2, rfl⟩ := own_slice D.ns
  have d1 : w.cell? ⟨sb, 1, none⟩ = some (.slice A2 s.ns.length c2) := D.top.cell 1
  have k0 : ((k : Int) + 1 == 0) = false := by simp; omega
  have hw1 : IntKind.i64.wrap ((k : Int) + 1 - 1) = (k : Int) := by rw [IntKind.wrap_i64]; omega
  have hw2 : wrap64 ((k : Int) + 1 - 1) = (k : Int) := by unfold wrap64; omega
  have H8 := Lib.hid h8
  have H64 := Lib.hid h64
  have HK := Lib.hid hK
  clear h8 h64 hK
  by_cases hl : s.ns.length = 64
  · rw [if_pos hl] at hF
    have FX := Lib.hid (FIN.out w ev (.slice A2 s.ns.length c2) none K hF.symm (DMoved.refl ..) D.top (fun s' e => by cases e))
    have l64 : ((s.ns.length : Int) == 64) = true := by simp; omega
    clear FIN hF D hb
    go_enter Try.func13, Try.ntmps13
    go_wp2_with fail
    exact FX.out
  · rw [if_neg hl] at hF
    have l64 : ((s.ns.length : Int) == 64) = false := by simp; omega
    have hl63 : s.ns.length < 64 := by have := H64.out; omega
    have HL := Lib.hid hl63
    have HF := Lib.hid hF
    have HD := Lib.hid D
    have HB := Lib.hid hb
    obtain ⟨i0, hi0, hz0, hz1, hz2⟩ := wint_info'
    have O := Lib.hid D.ns
    unfold Mw at O
    have hbw : w0.heap.size ≤ w.heap.size := hb.size
    have BC : Hid (∀ w3, (w.alloc (.cells #[.int .i64 h] 2)).grownBy w3 (Value.slice A2 s.ns.length c2).ownBlock → w3.cell? ⟨sb, 1, none⟩ = some (.slice A2 s.ns.length c2) ∧ w3.frozen? ⟨sb, 1, none⟩ = false) := Lib.hid (fun w3 hg => by
      have := HD.out.grown (.inr rfl) hg
      exact ⟨this.cell 1, this.frozen 1⟩)
    have d1' : (w.alloc (.cells #[.int .i64 h] 2)).cell? ⟨sb, 1, none⟩ = some (.slice A2 s.ns.length c2) := box_cell _ _ _ _ d1
    clear hF hl D hb
    go_enter Try.func13, Try.ntmps13
    go_upto_region 3 with (fail)
    go_upto_region 4 with (at_builtin; refine wpList_append_lies _ rfl (.tmp 30) (.tmp 32) _ rfl w0.heap.size 2 i0 _ 1 8 Try.underlying31 hi0 hz0 hz1 hz2 rfl (by omega) _ s.ns.length _ rfl (O.out.alloc _) ⟨w.heap.size, 0, none⟩ 1 1 [.int .i64 h] rfl rfl (World.news_of_block (cs := #[.int .i64 h]) (t := 2) (fr := (0, 0)) (heap_alloc_new w _)) (by simp [Value.oneCell']) (by omega) (by simp only [maxLen]; omega) (by omega) (by simp; omega) (w.heap.size + 1) (by simp) ?_; intro gg cap w3 hown hgrow hat hlt; have b2 := (BC.out _ hgrow).1; have bf := (BC.out _ hgrow).2)
    obtain ⟨se, mo⟩ := HD.out.node (h := h) (nv' := .slice (some ⟨gg, 0, none⟩) (s.ns.length + 1) cap) hgrow hown (hat.imp id (fun e => by rw [e]; rfl))
    have SE4 := Lib.hid se
    have M4 := Lib.hid mo
    have B4 := Lib.hid (mo.below HB.out (fun k hk => (HD.out.lo HSB.out k hk).1))
    clear se mo hown hgrow hat hlt b2 bf BC d1 d1' O hi0 hz0 hz1 hz2 HD HB
    generalize w3.setCell ⟨sb, 1, none⟩ (.slice (some ⟨gg, 0, none⟩) (s.ns.length + 1) cap) = w4 at *
    generalize Value.slice (some ⟨gg, 0, none⟩) (s.ns.length + 1) cap = nv1 at *
    have C := Lib.hid (OF.out w4 B4.out)
    go_wp2_with fail
    refine C.out.mono ?_
    rintro e w5 ⟨ho, rfl⟩
    clear C OF
    unfold ofA at ho
    cases hw : wordsAt ls h with
    | none =>
      have hF := HF.out
      rw [hw] at ho hF
      simp only at ho hF
      subst ho
      obtain ⟨st, ms⟩ := SE4.out.steps (K + 1)
      have hK1 : (K : Int) ≤ 1664 := by have := HK.out; have := H64.out; omega
      have t2 : w4.cell? ⟨sb, 2, none⟩ = some (.int .i64 (K : Int)) := SE4.out.top.cell 2
      have f2 : w4.frozen? ⟨sb, 2, none⟩ = false := SE4.out.top.frozen 2
      have hs1 : wrap64 ((K : Int) + 1) = (K : Int) + 1 := by unfold wrap64; omega
      have FX := Lib.hid (FIN.out _ ev nv1 none (K + 1) hF.symm (M4.out.trans ms) st.top (fun s' e => by cases e))
      rw [show ((K + 1 : Nat) : Int) = (K : Int) + 1 by omega] at FX
      clear FIN hF st ms SE4 M4 B4 HF ih ROW
      go_wp2_with fail
      exact FX.out
    | some x =>
      have hF := HF.out
      rw [hw] at ho hF
      simp only at ho hF
      obtain ⟨B, d, rfl, hx⟩ := ho
      obtain ⟨hlx, hfx⟩ := ROW.out h x hw
      have hmost := nodeW_most x
      have nf := fun nd => nodeW_fit hfx (n := nd)
      rw [hlx] at hx ⊢
      have CN := Lib.hid (refNodeW_c hx hlx hfx)
      clear hx hlx hfx hw
      generalize nodeW x = q at *
      obtain ⟨nr, kk⟩ := q
      simp only at hF hmost nf
      have NF := Lib.hid nf
      have HQ := Lib.hid hF
      have hK1 : (K : Int) ≤ 1664 := by have := HK.out; have := H64.out; omega
      have hkk : (kk : Int) ≤ 26 := by omega
      have hs1 : wrap64 ((K : Int) + (kk : Int)) = (K : Int) + (kk : Int) := by unfold wrap64; omega
      have HKK := Lib.hid hmost
      clear nf hF hmost HF
      go_wp2_with fail
      refine CN.out.mono ?_
      rintro e w5 ⟨hpost, hb5⟩
      have hpost : NodeWPost w4.heap.size w5 e (nr, kk) := hpost
      unfold NodeWPost at hpost
      simp only at hpost
      have B5 := Lib.hid (below_then B4.out hb5 (Nat.le_refl _))
      have SE5 := Lib.hid (SE4.out.still hb5)
      have M5 := Lib.hid (M4.out.trans (DMoved.still hb5 sb ev nv1))
      have HS45 : Hid (w4.heap.size ≤ w5.heap.size) := Lib.hid hb5.size
      clear hb5 CN B4 M4
      cases nr with
      | none =>
        simp only at hpost
        subst hpost
        unfold nilN at *
        have hb6 := below_new w5 (.cells #[.bool false, .int .i64 0, .slice none 0 0, .slice none 0 0, .slice none 0 0] 50)
        have SE6 := Lib.hid (SE5.out.still hb6)
        have M6 := Lib.hid (M5.out.trans (DMoved.still hb6 sb ev nv1))
        clear hb6 SE5 M5 B5 SE4
        go_upto_region 9 with (fail)
        generalize w5.alloc _ = w6 at *
        obtain ⟨st, ms⟩ := SE6.out.steps (K + kk)
        have t2 : w6.cell? ⟨sb, 2, none⟩ = some (.int .i64 (K : Int)) := SE6.out.top.cell 2
        have f2 : w6.frozen? ⟨sb, 2, none⟩ = false := SE6.out.top.frozen 2
        have FX := Lib.hid (FIN.out _ ev nv1 none (K + kk) HQ.out.symm (M6.out.trans ms) st.top (fun s' e => by cases e))
        rw [show ((K + kk : Nat) : Int) = (K : Int) + (kk : Int) by omega] at FX
        clear FIN HQ st ms SE6 M6 ih ROW NF
        go_wp2_with fail
        exact FX.out
      | some nd =>
        simp only at hpost HQ
        obtain ⟨u, y, z, rfl, hmi⟩ := hpost
        have hnf := NF.out nd rfl
        have hc := hnf.f.cnt
        obtain ⟨g1, g2, g3, c3, c4, c5, rfl, rfl, rfl, _, _, _⟩ := hmi.blocks hc
        have hnd := NdBy.fresh SE4.out HSB.out hmi HS45.out
        have hb6 := below_new w5 (.cells (nd.cells (.slice (some ⟨g1, 0, none⟩) nd.ends.length c3) (.slice (some ⟨g2, 0, none⟩) nd.ends.length c4) (.slice (some ⟨g3, 0, none⟩) nd.ends.length c5)) 50)
        have SE6 := Lib.hid (SE5.out.still hb6)
        have M6 := Lib.hid (M5.out.trans (DMoved.still hb6 sb ev nv1))
        have B6 := Lib.hid (below_then B5.out hb6 (Nat.le_refl _))
        have ND := Lib.hid hnd
        have HC := Lib.hid hc
        have FS := Lib.hid hnf.s
        clear hnf hc hmi hnd hb6 SE5 M5 B5 SE4 NF HS45
        unfold Nd.val Nd.cells at *
        go_upto_region 9 with (fail)
        generalize w5.alloc _ = w6 at *
        generalize w5.heap.size = p at *
        obtain ⟨st, ms⟩ := SE6.out.steps (K + kk)
        have t2 : w6.cell? ⟨sb, 2, none⟩ = some (.int .i64 (K : Int)) := SE6.out.top.cell 2
        have f2 : w6.frozen? ⟨sb, 2, none⟩ = false := SE6.out.top.frozen 2
        rw [show ((K + kk : Nat) : Int) = (K : Int) + (kk : Int) by omega] at st ms
        have M7 := Lib.hid (M6.out.trans ms)
        have ND7 := Lib.hid (ND.out.moved ms)
        have B7 := Lib.hid (ms.below B6.out (fun k hk => (SE6.out.lo HSB.out k hk).1))
        have SE7 := Lib.hid st
        clear st ms M6 ND B6 SE6
        go_upto_region 10 with (fail)
        generalize w6.setCell ⟨sb, 2, none⟩ (.int .i64 ((K : Int) + (kk : Int))) = w7 at *
        have L0 : Hid (DnRel w0 w sb ev (.slice A2 s.ns.length c2) ls FF k p nd (.slice (some ⟨g1, 0, none⟩) nd.ends.length c3) (.slice (some ⟨g2, 0, none⟩) nd.ends.length c4) (.slice (some ⟨g3, 0, none⟩) nd.ends.length c5) (.int .i64 nd.lo) (.int .i64 0) w7) := Lib.hid
          ⟨0, nd.lo, ev, nv1, K + kk, ⟨s.es, s.ns ++ [h]⟩, by omega, rfl, rfl, B7.out, SE7.out, M7.out, ND7.out, ⟨by have := HL.out; simp; omega, by have := H8.out; have := HC.out.few; simp; split <;> omega, by have := HK.out; have := HKK.out; simp; omega⟩, by rw [List.drop_zero, ← HQ.out, Nat.add_assoc]⟩
        have e1 : w7.cell? ⟨p, 1, none⟩ = some (.int .i64 nd.lo) := ND7.out.node.cell 1
        clear SE7 M7 ND7 B7 HQ t2 f2
        go_wp2_with fail
        clear e1 k0 l64 hs1
        go_loopw [14, 15] (fun lv iv wr => DnRel w0 w sb ev (.slice A2 s.ns.length c2) ls FF k p nd (.slice (some ⟨g1, 0, none⟩) nd.ends.length c3) (.slice (some ⟨g2, 0, none⟩) nd.ends.length c4) (.slice (some ⟨g3, 0, none⟩) nd.ends.length c5) lv iv wr) (fun _ iv _ => nd.ends.length - (intOf iv).toNat)
        case atStart => exact L0.out
        case round =>
          obtain ⟨r, lo, ev2, nv2, K2, s2, hr, rfl, rfl, hb, se, mo, na, hbd, e2⟩ := hrel
          clear L0
          have hK8 := HC.out.few
          have hr8 : (r : Int) ≤ 8 := by omega
          have p2 : wr.cell? ⟨p, 2, none⟩ = some (.slice (some ⟨g1, 0, none⟩) nd.ends.length c3) := na.node.cell 2
          by_cases hlt : r < nd.ends.length
          · rw [zip_drop HC.out.sl r hlt] at e2
            have hltI : (r : Int) < (nd.ends.length : Int) := by omega
            have f1 : wr.cell? ⟨g1, r, none⟩ = some (.int .i64 (nth nd.ends r)) := (own_cell na.me rfl r hlt).1
            have f2 : wr.cell? ⟨g2, r, none⟩ = some (.int .i64 (nth nd.slots r)) := (own_cell na.ms HC.out.sl r hlt).1
            have p0 : wr.cell? ⟨p, 0, none⟩ = some (.bool nd.inner) := na.node.cell 0
            have p3 : wr.cell? ⟨p, 3, none⟩ = some (.slice (some ⟨g2, 0, none⟩) nd.ends.length c4) := na.node.cell 3
            have HLT := Lib.hid hlt
            cases hin : nd.inner with
            | true =>
              rw [hin] at p0 hbd e2
              unfold thruEW at e2
              simp only [if_true, Nat.add_zero] at e2 hbd
              have fz := fits_nth FS.out r
              have IC := Lib.hid (ih.out wr ev2 nv2 s2 K2 (nth nd.slots r) hb se fz.1 fz.2 hbd.1 hbd.2.1 hbd.2.2)
              generalize thruW ls k (nth nd.slots r) s2 = q at *
              obtain ⟨qa, qk⟩ := q
              simp only at e2
              have E2 := Lib.hid e2
              have MO := Lib.hid mo
              have NA := Lib.hid na
              have HB := Lib.hid hb
              have SS := Lib.hid (fun k hk => (se.lo HSB.out k hk).1)
              have HIN := Lib.hid hin
              clear e2 hbd hb se mo na hin fz
              go_wp2_with fail
              refine IC.out.mono ?_
              rintro e w8 ⟨ev3, nv3, rfl, mo3, tp3, se3⟩
              have M5 := Lib.hid (MO.out.trans mo3)
              have N5 := Lib.hid (NA.out.moved mo3)
              have B5 := Lib.hid (mo3.below HB.out SS.out)
              have E5 := Lib.hid se3
              have T5 := Lib.hid tp3
              clear mo3 tp3 se3 IC MO NA HB SS f1 f2 p0 p3 p2
              simp only at E5 T5
              cases qa with
              | none =>
                have FX := Lib.hid (FIN.out w8 ev3 nv3 none (K2 + qk) E2.out M5.out T5.out (fun s' e => by cases e))
                clear FIN E2 M5 N5 B5 T5 E5 ih
                go_wp2_with fail
                exact FX.out
              | some s3 =>
                obtain ⟨se5, q1, q2, q3⟩ := E5.out s3 rfl
                have p0 : w8.cell? ⟨p, 0, none⟩ = some (.bool true) := (N5.out.node.cell 0).trans (by show some (Value.bool nd.inner) = _; rw [HIN.out])
                have p2 : w8.cell? ⟨p, 2, none⟩ = some (.slice (some ⟨g1, 0, none⟩) nd.ends.length c3) := N5.out.node.cell 2
                have f1 : w8.cell? ⟨g1, r, none⟩ = some (.int .i64 (nth nd.ends r)) := (own_cell N5.out.me rfl r HLT.out).1
                have NX : Hid (DnRel w0 w sb ev (.slice A2 s.ns.length c2) ls FF k p nd (.slice (some ⟨g1, 0, none⟩) nd.ends.length c3) (.slice (some ⟨g2, 0, none⟩) nd.ends.length c4) (.slice (some ⟨g3, 0, none⟩) nd.ends.length c5) (.int .i64 (nth nd.ends r)) (.int .i64 ((r : Int) + 1)) w8) := Lib.hid
                  ⟨r + 1, nth nd.ends r, ev3, nv3, K2 + qk, s3, by have := HLT.out; omega, rfl, by go_num, B5.out, se5, M5.out, N5.out, ⟨q1, by rw [if_pos HIN.out]; exact q2, q3⟩, by rw [HIN.out, E2.out, Nat.add_assoc]⟩
                clear se5 q1 q2 q3 E5 T5 E2 M5 N5 B5 FIN ih
                generalize nth nd.ends r = en at *
                go_wp2_with fail
                go_roundw
                case rel => exact NX.out
                case measure => simp [intOf]; omega
            | false =>
              rw [hin] at p0 hbd e2
              unfold thruEW at e2
              simp only [Bool.false_eq_true, if_false] at e2 hbd
              obtain ⟨j0, hj0, hjz0, hjz1, hjz2⟩ := wentry_info'
              obtain ⟨en, hen⟩ : ∃ en, nth nd.ends r = en := ⟨_, rfl⟩
              obtain ⟨sn, hsn⟩ : ∃ sn, nth nd.slots r = sn := ⟨_, rfl⟩
              rw [hen] at f1 e2
              rw [hsn] at f2 e2
              have HEN := Lib.hid hen
              have HSN := Lib.hid hsn
              clear hen hsn
              obtain ⟨A3, c6, rfl⟩ := se.es.is
              have hes : s2.es.length ≤ 511 := by omega
              have hbw : w0.heap.size ≤ wr.heap.size := hb.size
              have a0 : wr.cell? ⟨sb, 0, none⟩ = some (.slice A3 s2.es.length c6) := se.top.cell 0
              have a1 : (wr.alloc (.cells #[.int .i64 lo, .int .i64 en, .int .i64 sn] 47)).cell? ⟨sb, 0, none⟩ = some (.slice A3 s2.es.length c6) := box_cell _ _ _ _ a0
              have hd := below_drew (Below.refl wr.heap.size wr)
              have SD := Lib.hid (se.still hd)
              have O : Hid (wr.drew.ownsRow w0.heap.size 47 3 (.slice A3 s2.es.length c6) s2.es.length (enCells s2.es)) := Lib.hid SD.out.es
              have BC : Hid (∀ w3, (wr.drew.alloc (.cells #[.int .i64 lo, .int .i64 en, .int .i64 sn] 47)).grownBy w3 (Value.slice A3 s2.es.length c6).ownBlock → w3.cell? ⟨sb, 0, none⟩ = some (.slice A3 s2.es.length c6) ∧ w3.frozen? ⟨sb, 0, none⟩ = false) := Lib.hid (fun w3 hg => by
                have := SD.out.grown (.inl rfl) hg
                exact ⟨this.cell 0, this.frozen 0⟩)
              have E2 := Lib.hid e2
              have MO := Lib.hid (mo.trans (DMoved.still hd ..))
              have NA := Lib.hid (na.moved (DMoved.still hd ..))
              have HB := Lib.hid (below_then hb hd (Nat.le_refl _))
              have SS := Lib.hid (fun k hk => (SD.out.lo HSB.out k hk).1)
              have HIN := Lib.hid hin
              have LL := Lib.hid hbd
              clear e2 hbd hb se mo na hin ih FIN hd
              go_upto_region 19 with (fail)
              have BD : Hid (∀ w3 u, (wr.drew.alloc (.cells #[.int .i64 lo, .int .i64 en, .int .i64 sn] 47)).grownBy w3 (Value.slice A3 s2.es.length c6).ownBlock → (w3.cell? ⟨p, 2, none⟩ = some (.slice (some ⟨g1, 0, none⟩) nd.ends.length c3) ∧ w3.cell? ⟨p, 3, none⟩ = some (.slice (some ⟨g2, 0, none⟩) nd.ends.length c4) ∧ w3.cell? ⟨g1, r, none⟩ = some (.int .i64 en) ∧ w3.cell? ⟨g2, r, none⟩ = some (.int .i64 sn)) ∧ ((w3.setCell ⟨sb, 0, none⟩ u).cell? ⟨p, 2, none⟩ = some (.slice (some ⟨g1, 0, none⟩) nd.ends.length c3) ∧ (w3.setCell ⟨sb, 0, none⟩ u).cell? ⟨p, 3, none⟩ = some (.slice (some ⟨g2, 0, none⟩) nd.ends.length c4) ∧ (w3.setCell ⟨sb, 0, none⟩ u).cell? ⟨g1, r, none⟩ = some (.int .i64 en) ∧ (w3.setCell ⟨sb, 0, none⟩ u).cell? ⟨g2, r, none⟩ = some (.int .i64 sn))) := Lib.hid (fun w3 u hg => by
                have ho : Only (SnAll sb (.slice A3 s2.es.length c6) nv2) wr.drew w3 := ((Only.refl _ wr.drew).alloc _).grown hg (fun k hk => .inl (.inr (.inl hk)))
                have hm : DMoved wr.drew sb (.slice A3 s2.es.length c6) nv2 w3 (.slice A3 s2.es.length c6) nv2 := ⟨ho, fun _ h => .inl h, fun _ h => .inl h⟩
                have n3 := NA.out.moved hm
                have hm2 : DMoved wr.drew sb (.slice A3 s2.es.length c6) nv2 (w3.setCell ⟨sb, 0, none⟩ u) (.slice A3 s2.es.length c6) nv2 := ⟨ho.setCell (p := ⟨sb, 0, none⟩) (.inl (.inl rfl)) u, fun _ h => .inl h, fun _ h => .inl h⟩
                have n4 := NA.out.moved hm2
                exact ⟨⟨n3.node.cell 2, n3.node.cell 3, by rw [← HEN.out]; exact (own_cell n3.me rfl r HLT.out).1, by rw [← HSN.out]; exact (own_cell n3.ms HC.out.sl r HLT.out).1⟩, n4.node.cell 2, n4.node.cell 3, by rw [← HEN.out]; exact (own_cell n4.me rfl r HLT.out).1, by rw [← HSN.out]; exact (own_cell n4.ms HC.out.sl r HLT.out).1⟩)
              have z1 : (wr.alloc (.cells #[.int .i64 lo, .int .i64 en, .int .i64 sn] 47)).cell? ⟨p, 2, none⟩ = some (.slice (some ⟨g1, 0, none⟩) nd.ends.length c3) ∧ (wr.alloc (.cells #[.int .i64 lo, .int .i64 en, .int .i64 sn] 47)).cell? ⟨p, 3, none⟩ = some (.slice (some ⟨g2, 0, none⟩) nd.ends.length c4) ∧ (wr.alloc (.cells #[.int .i64 lo, .int .i64 en, .int .i64 sn] 47)).cell? ⟨g1, r, none⟩ = some (.int .i64 en) ∧ (wr.alloc (.cells #[.int .i64 lo, .int .i64 en, .int .i64 sn] 47)).cell? ⟨g2, r, none⟩ = some (.int .i64 sn) := ⟨box_cell _ _ _ _ p2, box_cell _ _ _ _ p3, box_cell _ _ _ _ f1, box_cell _ _ _ _ f2⟩
              have Z1 := Lib.hid z1
              have Z0 := Lib.hid (And.intro p2 (And.intro p3 (And.intro f1 f2)))
              clear z1
              refine wp_region_held_drew (S := (fun W : World => W.cell? ⟨p, 2, none⟩ = some (.slice (some ⟨g1, 0, none⟩) nd.ends.length c3) ∧ W.cell? ⟨p, 3, none⟩ = some (.slice (some ⟨g2, 0, none⟩) nd.ends.length c4) ∧ W.cell? ⟨g1, r, none⟩ = some (.int .i64 en) ∧ W.cell? ⟨g2, r, none⟩ = some (.int .i64 sn))) (by kernel_rfl) Z0.out (fun hHeld => ?_)
              refine wpAnyH_take (i := 0) (oi := _) (v := ?_) rfl (by kernel_rfl) (by kernel_rfl) (by kernel_rfl) (fun _ _ _ h => h) (Or.inl ⟨by rfl, ?_⟩) (by assumption) ?_
              rotate_left 1
              · intro w hSw
                (try dsimp only at hSw)
                first | (go_simp; done) | (go_simp; with_reducible rfl)
              try simp only [Act.put, List.setIfInBounds_toArray, List.set_cons_zero, List.set_cons_succ]
              refine wpAnyH_take (i := 1) (oi := _) (v := ?_) rfl (by kernel_rfl) (by kernel_rfl) (by kernel_rfl) (fun _ _ _ h => h) (Or.inl ⟨by rfl, ?_⟩) (by assumption) ?_
              rotate_left 1
              · intro w hSw
                (try dsimp only at hSw)
                first | (go_simp; done) | (go_simp; with_reducible rfl)
              try simp only [Act.put, List.setIfInBounds_toArray, List.set_cons_zero, List.set_cons_succ]
              refine wpAnyH_take (i := 2) (oi := _) (v := ?_) rfl (by kernel_rfl) (by kernel_rfl) (by kernel_rfl) (fun _ _ _ h => h) (Or.inl ⟨by rfl, ?_⟩) (by assumption) ?_
              rotate_left 1
              · intro w hSw
                (try dsimp only at hSw)
                first | (go_simp; done) | (go_simp; with_reducible rfl)
              try simp only [Act.put, List.setIfInBounds_toArray, List.set_cons_zero, List.set_cons_succ]
              refine wpAnyH_take (i := 3) (oi := _) (v := ?_) rfl (by kernel_rfl) (by kernel_rfl) (by kernel_rfl) (fun _ _ _ h => h) (Or.inl ⟨by rfl, ?_⟩) (by assumption) ?_
              rotate_left 1
              · intro w hSw
                (try dsimp only at hSw)
                first | (go_simp; done) | (go_simp; with_reducible rfl)
              try simp only [Act.put, List.setIfInBounds_toArray, List.set_cons_zero, List.set_cons_succ]
              refine wpAnyH_take (i := 5) (oi := _) (v := ?_) rfl (by kernel_rfl) (by kernel_rfl) (by kernel_rfl) (fun _ _ _ h => h) (Or.inl ⟨by rfl, ?_⟩) (by assumption) ?_
              rotate_left 1
              · intro w hSw
                (try dsimp only at hSw)
                first | (go_simp; done) | (go_simp; with_reducible rfl)
              try simp only [Act.put, List.setIfInBounds_toArray, List.set_cons_zero, List.set_cons_succ]
              refine wpAnyH_take (i := 6) (oi := _) (v := ?_) rfl (by kernel_rfl) (by kernel_rfl) (by kernel_rfl) (fun _ _ _ h => h) (Or.inl ⟨by rfl, ?_⟩) (by assumption) ?_
              rotate_left 1
              · intro w hSw
                (try dsimp only at hSw)
                first | (go_simp; done) | (go_simp; with_reducible rfl)
              try simp only [Act.put, List.setIfInBounds_toArray, List.set_cons_zero, List.set_cons_succ]
              refine wpAnyH_take (i := 7) (oi := _) (v := ?_) rfl (by kernel_rfl) (by kernel_rfl) (by kernel_rfl) (fun _ _ _ h => h) (Or.inl ⟨by rfl, ?_⟩) (by assumption) ?_
              rotate_left 1
              · intro w hSw
                (try dsimp only at hSw)
                first | (go_simp; done) | (go_simp; with_reducible rfl)
              try simp only [Act.put, List.setIfInBounds_toArray, List.set_cons_zero, List.set_cons_succ]
              refine wpAnyH_take (i := 8) (oi := _) (v := ?_) rfl (by kernel_rfl) (by kernel_rfl) (by kernel_rfl) (fun _ _ _ h => h) (Or.inl ⟨by rfl, ?_⟩) (by assumption) ?_
              rotate_left 1
              · intro w hSw
                (try dsimp only at hSw)
                first | (go_simp; done) | (go_simp; with_reducible rfl)
              try simp only [Act.put, List.setIfInBounds_toArray, List.set_cons_zero, List.set_cons_succ]
              refine wpAnyH_take (i := 9) (oi := _) (v := ?_) rfl (by kernel_rfl) (by kernel_rfl) (by kernel_rfl) (fun _ _ _ h => h) (Or.inl ⟨by rfl, ?_⟩) (by assumption) ?_
              rotate_left 1
              · intro w hSw
                (try dsimp only at hSw)
                first | (go_simp; done) | (go_simp; with_reducible rfl)
              try simp only [Act.put, List.setIfInBounds_toArray, List.set_cons_zero, List.set_cons_succ]
              refine wpAnyH_take (i := 10) (oi := _) (v := ?_) rfl (by kernel_rfl) (by kernel_rfl) (by kernel_rfl) (fun _ _ _ h => h) (Or.inl ⟨by rfl, ?_⟩) (by assumption) ?_
              rotate_left 1
              · intro w hSw
                (try dsimp only at hSw)
                first | (go_simp; done) | (go_simp; with_reducible rfl)
              try simp only [Act.put, List.setIfInBounds_toArray, List.set_cons_zero, List.set_cons_succ]
              refine wpAnyH_take (i := 11) (oi := _) (v := ?_) rfl (by kernel_rfl) (by kernel_rfl) (by kernel_rfl) (fun _ _ _ h => h) (Or.inl ⟨by rfl, ?_⟩) (by assumption) ?_
              rotate_left 1
              · intro w hSw
                (try dsimp only at hSw)
                first | (go_simp; done) | (go_simp; with_reducible rfl)
              try simp only [Act.put, List.setIfInBounds_toArray, List.set_cons_zero, List.set_cons_succ]
              refine wpAnyH_take (i := 12) (oi := _) (v := ?_) rfl (by kernel_rfl) (by kernel_rfl) (by kernel_rfl) (fun _ _ _ h => h) (Or.inl ⟨by rfl, ?_⟩) (by assumption) ?_
              rotate_left 1
              · intro w hSw
                (try dsimp only at hSw)
                first | (go_simp; done) | (go_simp; with_reducible rfl)
              try simp only [Act.put, List.setIfInBounds_toArray, List.set_cons_zero, List.set_cons_succ]
              refine wpAnyH_take (i := 13) (oi := _) (v := ?_) rfl (by kernel_rfl) (by kernel_rfl) (by kernel_rfl) (fun _ _ _ h => h) (Or.inl ⟨by rfl, ?_⟩) (by assumption) ?_
              rotate_left 1
              · intro w hSw
                (try dsimp only at hSw)
                first | (go_simp; done) | (go_simp; with_reducible rfl)
              try simp only [Act.put, List.setIfInBounds_toArray, List.set_cons_zero, List.set_cons_succ]
              refine wpAnyH_take (i := 14) (oi := _) (v := ?_) rfl (by kernel_rfl) (by kernel_rfl) (by kernel_rfl) (fun _ _ _ h => h) (Or.inl ⟨by rfl, ?_⟩) (by assumption) ?_
              rotate_left 1
              · intro w hSw
                (try dsimp only at hSw)
                first | (go_simp; done) | (go_simp; with_reducible rfl)
              try simp only [Act.put, List.setIfInBounds_toArray, List.set_cons_zero, List.set_cons_succ]
              refine wpAnyH_take (i := 15) (oi := _) (v := ?_) rfl (by kernel_rfl) (by kernel_rfl) (by kernel_rfl) (fun _ _ _ h => h) (Or.inl ⟨by rfl, ?_⟩) (by assumption) ?_
              rotate_left 1
              · intro w hSw
                (try dsimp only at hSw)
                first | (go_simp; done) | (go_simp; with_reducible rfl)
              try simp only [Act.put, List.setIfInBounds_toArray, List.set_cons_zero, List.set_cons_succ]
              refine wpAnyH_take (i := 16) (oi := _) (v := ?_) rfl (by kernel_rfl) (by kernel_rfl) (by kernel_rfl) (fun _ _ _ h => h) (Or.inl ⟨by rfl, ?_⟩) (by assumption) ?_
              rotate_left 1
              · intro w hSw
                (try dsimp only at hSw)
                first | (go_simp; done) | (go_simp; with_reducible rfl)
              try simp only [Act.put, List.setIfInBounds_toArray, List.set_cons_zero, List.set_cons_succ]
              refine wpAnyH_ready (rs := [4, 17]) (by kernel_rfl) (by simp) ?_
              refine AllReadyH.cons rfl (fun K hK => ?_) (AllReadyH.cons rfl (fun K hK => ?_) AllReadyH.nil)
              · go_simp
                refine hK.out _ _ ?_ (fun hHeld => ?_)
                · (try dsimp only)
                  exact Z0.out
                clear hK K
                refine wpAnyH_ready (rs := [17]) (by kernel_rfl) (by simp) ?_
                refine AllReadyH.cons rfl (fun K hK => ?_) AllReadyH.nil
                go_simp
                refine hK.out _ _ ?_ (fun hHeld => ?_)
                · (try dsimp only)
                  exact Z1.out
                clear hK K
                refine wpAnyH_ready (rs := [18]) (by kernel_rfl) (by simp) ?_
                refine AllReadyH.cons rfl (fun K hK => ?_) AllReadyH.nil
                refine step_append_lies _ (by rfl) _ _ _ (by rfl) w0.heap.size 47 j0 _ 3 24 Try.underlying30 hj0 hjz0 hjz1 hjz2 rfl (by omega) _ s2.es.length _ (by rfl) (O.out.alloc _) ⟨wr.heap.size, 0, none⟩ 1 1 [.int .i64 lo, .int .i64 en, .int .i64 sn] (by rfl) (by rfl) (World.news_of_block (cs := #[.int .i64 lo, .int .i64 en, .int .i64 sn]) (t := 47) (fr := (0, 0)) (heap_alloc_new wr _)) (by simp [Value.oneCell']) (by omega) (by simp only [maxLen]; omega) (by omega) (by simp; omega) (wr.heap.size + 1) (by simp) ?_
                intro gg cap w3 hown hgrow hat hlt'
                have b2 := (BC.out _ hgrow).1
                have bf := (BC.out _ hgrow).2
                have Z3 := Lib.hid (BD.out w3 undef hgrow).1
                have Z4 := Lib.hid (fun u => (BD.out w3 u hgrow).2)
                refine hK.out _ _ ?_ (fun hHeld => ?_)
                · (try dsimp only)
                  exact Z3.out
                clear hK K
                refine wpAnyH_take (i := 19) (oi := _) (v := ?_) rfl (by kernel_rfl) (by kernel_rfl) (by kernel_rfl) (fun _ _ _ h => h) (Or.inl ⟨by rfl, ?_⟩) (by assumption) ?_
                rotate_left 1
                · intro w hSw
                  (try dsimp only at hSw)
                  first | (go_simp; done) | (go_simp; with_reducible rfl)
                try simp only [Act.put, List.setIfInBounds_toArray, List.set_cons_zero, List.set_cons_succ]
                refine wpAnyH_take (i := 20) (oi := _) (v := ?_) rfl (by kernel_rfl) (by kernel_rfl) (by kernel_rfl) (fun _ _ _ h => h) (Or.inl ⟨by rfl, ?_⟩) (by assumption) ?_
                rotate_left 1
                · intro w hSw
                  (try dsimp only at hSw)
                  first | (go_simp; done) | (go_simp; with_reducible rfl)
                try simp only [Act.put, List.setIfInBounds_toArray, List.set_cons_zero, List.set_cons_succ]
                refine wpAnyH_ready (rs := [21]) (by kernel_rfl) (by simp) ?_
                refine AllReadyH.cons rfl (fun K hK => ?_) AllReadyH.nil
                go_simp
                refine hK.out _ _ ?_ (fun hHeld => ?_)
                · (try dsimp only)
                  exact Z4.out _
                clear hK K
                refine wpAnyH_done (by kernel_rfl) ?_ _
                obtain ⟨se6, mo6⟩ := SD.out.entry (e := ⟨lo, en, sn⟩) (ev' := .slice (some ⟨gg, 0, none⟩) (s2.es.length + 1) cap) hgrow hown (hat.imp id (fun e => by rw [e]; rfl))
                have na6 := NA.out.moved mo6
                have q2 : (w3.setCell ⟨sb, 0, none⟩ (.slice (some ⟨gg, 0, none⟩) (s2.es.length + 1) cap)).cell? ⟨p, 2, none⟩ = some (.slice (some ⟨g1, 0, none⟩) nd.ends.length c3) := na6.node.cell 2
                have q1 : (w3.setCell ⟨sb, 0, none⟩ (.slice (some ⟨gg, 0, none⟩) (s2.es.length + 1) cap)).cell? ⟨g1, r, none⟩ = some (.int .i64 en) := by rw [← HEN.out]; exact (own_cell na6.me rfl r HLT.out).1
                have FX : Hid (DnRel w0 w sb ev (.slice A2 s.ns.length c2) ls FF k p nd (.slice (some ⟨g1, 0, none⟩) nd.ends.length c3) (.slice (some ⟨g2, 0, none⟩) nd.ends.length c4) (.slice (some ⟨g3, 0, none⟩) nd.ends.length c5) (.int .i64 en) (.int .i64 ((r : Int) + 1)) (w3.setCell ⟨sb, 0, none⟩ (.slice (some ⟨gg, 0, none⟩) (s2.es.length + 1) cap))) := Lib.hid
                  ⟨r + 1, en, .slice (some ⟨gg, 0, none⟩) (s2.es.length + 1) cap, nv2, K2, ⟨s2.es ++ [⟨lo, en, sn⟩], s2.ns⟩, by have := HLT.out; omega, rfl, by go_num, mo6.below HB.out SS.out, se6, MO.out.trans mo6, na6, ⟨LL.out.1, by
                    rw [HIN.out]
                    have := LL.out.2.1
                    have := HLT.out
                    simp only [Bool.false_eq_true, if_false, List.length_append, List.length_cons, List.length_nil]
                    omega, LL.out.2.2⟩, by rw [HIN.out]; exact E2.out⟩
                clear se6 mo6 na6 hown hgrow hat hlt' b2 bf BC BD Z0 Z1 Z3 Z4 SD O MO NA LL HB SS E2 a0 a1 f1 f2 p0 p3 p2
                generalize w3.setCell ⟨sb, 0, none⟩ (.slice (some ⟨gg, 0, none⟩) (s2.es.length + 1) cap) = w9 at *
                go_wp2_with fail
                go_roundw
                case rel => exact FX.out
                case measure => simp [intOf]; omega
              · go_simp
                refine hK.out _ _ ?_ (fun hHeld => ?_)
                · (try dsimp only)
                  exact Z1.out
                clear hK K
                refine wpAnyH_ready (rs := [4]) (by kernel_rfl) (by simp) ?_
                refine AllReadyH.cons rfl (fun K hK => ?_) AllReadyH.nil
                go_simp
                refine hK.out _ _ ?_ (fun hHeld => ?_)
                · (try dsimp only)
                  exact Z1.out
                clear hK K
                refine wpAnyH_ready (rs := [18]) (by kernel_rfl) (by simp) ?_
                refine AllReadyH.cons rfl (fun K hK => ?_) AllReadyH.nil
                refine step_append_lies _ (by rfl) _ _ _ (by rfl) w0.heap.size 47 j0 _ 3 24 Try.underlying30 hj0 hjz0 hjz1 hjz2 rfl (by omega) _ s2.es.length _ (by rfl) (O.out.alloc _) ⟨wr.heap.size, 0, none⟩ 1 1 [.int .i64 lo, .int .i64 en, .int .i64 sn] (by rfl) (by rfl) (World.news_of_block (cs := #[.int .i64 lo, .int .i64 en, .int .i64 sn]) (t := 47) (fr := (0, 0)) (heap_alloc_new wr _)) (by simp [Value.oneCell']) (by omega) (by simp only [maxLen]; omega) (by omega) (by simp; omega) (wr.heap.size + 1) (by simp) ?_
                intro gg cap w3 hown hgrow hat hlt'
                have b2 := (BC.out _ hgrow).1
                have bf := (BC.out _ hgrow).2
                have Z3 := Lib.hid (BD.out w3 undef hgrow).1
                have Z4 := Lib.hid (fun u => (BD.out w3 u hgrow).2)
                refine hK.out _ _ ?_ (fun hHeld => ?_)
                · (try dsimp only)
                  exact Z3.out
                clear hK K
                refine wpAnyH_take (i := 19) (oi := _) (v := ?_) rfl (by kernel_rfl) (by kernel_rfl) (by kernel_rfl) (fun _ _ _ h => h) (Or.inl ⟨by rfl, ?_⟩) (by assumption) ?_
                rotate_left 1
                · intro w hSw
                  (try dsimp only at hSw)
                  first | (go_simp; done) | (go_simp; with_reducible rfl)
                try simp only [Act.put, List.setIfInBounds_toArray, List.set_cons_zero, List.set_cons_succ]
                refine wpAnyH_take (i := 20) (oi := _) (v := ?_) rfl (by kernel_rfl) (by kernel_rfl) (by kernel_rfl) (fun _ _ _ h => h) (Or.inl ⟨by rfl, ?_⟩) (by assumption) ?_
                rotate_left 1
                · intro w hSw
                  (try dsimp only at hSw)
                  first | (go_simp; done) | (go_simp; with_reducible rfl)
                try simp only [Act.put, List.setIfInBounds_toArray, List.set_cons_zero, List.set_cons_succ]
                refine wpAnyH_ready (rs := [21]) (by kernel_rfl) (by simp) ?_
                refine AllReadyH.cons rfl (fun K hK => ?_) AllReadyH.nil
                go_simp
                refine hK.out _ _ ?_ (fun hHeld => ?_)
                · (try dsimp only)
                  exact Z4.out _
                clear hK K
                refine wpAnyH_done (by kernel_rfl) ?_ _
                obtain ⟨se6, mo6⟩ := SD.out.entry (e := ⟨lo, en, sn⟩) (ev' := .slice (some ⟨gg, 0, none⟩) (s2.es.length + 1) cap) hgrow hown (hat.imp id (fun e => by rw [e]; rfl))
                have na6 := NA.out.moved mo6
                have q2 : (w3.setCell ⟨sb, 0, none⟩ (.slice (some ⟨gg, 0, none⟩) (s2.es.length + 1) cap)).cell? ⟨p, 2, none⟩ = some (.slice (some ⟨g1, 0, none⟩) nd.ends.length c3) := na6.node.cell 2
                have q1 : (w3.setCell ⟨sb, 0, none⟩ (.slice (some ⟨gg, 0, none⟩) (s2.es.length + 1) cap)).cell? ⟨g1, r, none⟩ = some (.int .i64 en) := by rw [← HEN.out]; exact (own_cell na6.me rfl r HLT.out).1
                have FX : Hid (DnRel w0 w sb ev (.slice A2 s.ns.length c2) ls FF k p nd (.slice (some ⟨g1, 0, none⟩) nd.ends.length c3) (.slice (some ⟨g2, 0, none⟩) nd.ends.length c4) (.slice (some ⟨g3, 0, none⟩) nd.ends.length c5) (.int .i64 en) (.int .i64 ((r : Int) + 1)) (w3.setCell ⟨sb, 0, none⟩ (.slice (some ⟨gg, 0, none⟩) (s2.es.length + 1) cap))) := Lib.hid
                  ⟨r + 1, en, .slice (some ⟨gg, 0, none⟩) (s2.es.length + 1) cap, nv2, K2, ⟨s2.es ++ [⟨lo, en, sn⟩], s2.ns⟩, by have := HLT.out; omega, rfl, by go_num, mo6.below HB.out SS.out, se6, MO.out.trans mo6, na6, ⟨LL.out.1, by
                    rw [HIN.out]
                    have := LL.out.2.1
                    have := HLT.out
                    simp only [Bool.false_eq_true, if_false, List.length_append, List.length_cons, List.length_nil]
                    omega, LL.out.2.2⟩, by rw [HIN.out]; exact E2.out⟩
                clear se6 mo6 na6 hown hgrow hat hlt' b2 bf BC BD Z0 Z1 Z3 Z4 SD O MO NA LL HB SS E2 a0 a1 f1 f2 p0 p3 p2
                generalize w3.setCell ⟨sb, 0, none⟩ (.slice (some ⟨gg, 0, none⟩) (s2.es.length + 1) cap) = w9 at *
                go_wp2_with fail
                go_roundw
                case rel => exact FX.out
                case measure => simp [intOf]; omega
          · have hrK : r = nd.ends.length := by omega
            have hz : (nd.ends.zip nd.slots).drop r = [] := List.drop_eq_nil_of_le (by simp; omega)
            rw [hz] at e2
            have e3 : FF = (some s2, K2) := by rw [e2]; unfold thruEW; rfl
            have FX := Lib.hid (FIN.out wr ev2 nv2 (some s2) K2 e3 mo se.top (fun s' e => by
              injection e with e
              subst e
              exact ⟨se, hbd.1, by have := hbd.2.1; split at this <;> omega, hbd.2.2⟩))
            have nlt : ¬ (r : Int) < (nd.ends.length : Int) := by omega
            clear FIN e2 e3 se mo na hbd ih hz hb
            go_wp2_with fail
            exact FX.out
theorem down_c (hn : ls.length = n) (h8n : n ≤ 8) (H : Wss w0 (.slice A n c) ls) (h28 : All28 ls) (hf : ∀ i, i < ls.length → Fits (ls.getD i [])) (hsb : w0.heap.size ≤ sb) (k : Nat) (hk : k ≤ 8) : DnAll w0 A n c sb ls k := by
  induction k with
  | zero => exact down_zero
  | succ k ih => exact down_succ k (by omega) hn h8n H h28 hf hsb (ih (by omega))
end
end Go.Proofs.Ytlhjimkfcchdaaa
