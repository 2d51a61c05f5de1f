/-
  Layer 8: all gaps: a contract for each call.
-/
import Derived.Test.YtmppodobgkhojaaGapMost
import Derived.Test.YtmppodobgkhojaaListIn
namespace Go.Proofs.Ytmppodobgkhojaa
open Go.ChangeShapes Go.WideShapes Go.ChangeAt Go.RowKit Go.Shelf
set_option linter.unusedVariables false
attribute [local go_sem] Oper.semAt_some

/-! Lists of gaps of our own. -/
def Gp.cl (g : Gp) : List Value := [.int .i64 g.s, .int .i64 g.e]
def gcls (l : List Gp) : List Value := l.flatMap Gp.cl
theorem gcls_app (l l' : List Gp) : gcls (l ++ l') = gcls l ++ gcls l' := by simp [gcls]
theorem gcls_one (l : List Gp) : ∀ u ∈ gcls l, u.oneCell' = true := by
  intro u hu
  obtain ⟨a, _, hu⟩ := List.mem_flatMap.1 hu
  simp [Gp.cl] at hu
  rcases hu with rfl | rfl <;> rfl
theorem gcls_at : ∀ (l : List Gp) (j : Nat) (h : j < l.length) (i : Nat), i < 2 → (gcls l)[j * 2 + i]? = (Gp.cl l[j])[i]?
  | a :: l, 0, _, i, hi => by
    simp only [gcls, List.flatMap_cons, Nat.zero_mul, Nat.zero_add, List.getElem_cons_zero]
    rw [List.getElem?_append_left (by simp [Gp.cl]; omega)]
  | a :: l, j + 1, h, i, hi => by
    have := gcls_at l j (by simpa using h) i hi
    simp only [gcls, List.flatMap_cons, List.getElem_cons_succ] at *
    rw [List.getElem?_append_right (by simp [Gp.cl]; omega), ← this]
    congr 1
    simp [Gp.cl]; omega
/-- A slice in memory of our own, from B on, that holds gaps. -/
def MineG (B : Nat) (w : World) (v : Value) (l : List Gp) : Prop := w.ownsRow B 29 2 v l.length (gcls l)
/-- A slice that holds gaps. -/
def GapsAt (w : World) (A : Option Addr) (l : List Gp) : Prop :=
  l = [] ∨ ∃ b, A = some ⟨b, 0, none⟩ ∧ b < w.heap.size ∧ ∀ (j : Nat) (h : j < l.length), w.cell? ⟨b, j * 2, none⟩ = some (.int .i64 l[j].s) ∧ w.cell? ⟨b, j * 2 + 1, none⟩ = some (.int .i64 l[j].e)
theorem GapsAt.still {w w' : World} {A : Option Addr} {l : List Gp} (h : GapsAt w A l) (hb : Below w.heap.size w w') : GapsAt w' A l := by
  rcases h with h | ⟨b, e, hlt, hc⟩
  · exact .inl h
  · exact .inr ⟨b, e, Nat.lt_of_lt_of_le hlt hb.size, fun j hj => ⟨(hb.cell (p := ⟨b, j * 2, none⟩) hlt).trans (hc j hj).1, (hb.cell (p := ⟨b, j * 2 + 1, none⟩) hlt).trans (hc j hj).2⟩⟩
section
variable {B : Nat} {w w' : World} {v : Value} {l : List Gp}
theorem MineG.nil (B : Nat) (w : World) : MineG B w (.slice none 0 0) [] := World.ownsRow_nil w B _ _
theorem MineG.is (h : MineG B w v l) : ∃ A c, v = .slice A l.length c := own_slice h
theorem MineG.lt (h : MineG B w v l) : ∀ k, v.ownBlock = some k → B ≤ k ∧ k < w.heap.size := World.ownsRow.lt h
theorem MineG.gaps {A : Option Addr} {n c : Nat} (h : MineG B w (.slice A n c) l) : GapsAt w A l := by
  cases l with
  | nil => exact .inl rfl
  | cons a l =>
    rcases h.2 with ⟨_, h0⟩ | ⟨g, cap, cur, hv, hb, hh, _⟩
    · simp at h0
    · injection hv with h1
      subst h1
      have hc := World.ownsRow.cells h (g := g) (by simp [Value.ownBlock])
      refine .inr ⟨g, rfl, Whole.lt (t := 29) hh, fun j hj => ?_⟩
      have key : ∀ i u, i < 2 → (Gp.cl (a :: l)[j])[i]? = some u → w.cell? ⟨g, j * 2 + i, none⟩ = some u := fun i u hi hu => by
        have := hc (j * 2 + i) u (by rw [gcls_at _ j hj i hi]; exact hu)
        rwa [Addr.add_lit, Nat.zero_add] at this
      exact ⟨key 0 _ (by omega) rfl, key 1 _ (by omega) rfl⟩
end
theorem mineG_grown {B : Nat} {W W' : World} {row : Option Nat} {v : Value} {l : List Gp} (h : MineG B W v l) (hg : W.grownBy W' row) (hr : ∀ r, row = some r → ∃ o : Obj, W.heap[r]? = some o ∧ o.isCells = false) : MineG B W' v l := by
  refine World.ownsRow.kept h hg ?_
  rcases h.2 with ⟨rfl, _⟩ | ⟨g, cap, cur, rfl, _, hgb, _⟩
  · exact .inl rfl
  · refine .inr fun e' => ?_
    obtain ⟨o, ho, hc⟩ := hr g (by simpa [Value.ownBlock] using e'.symm)
    rw [hgb] at ho; cases ho; cases hc
theorem gap_info : (Try.prog.info? 29).map (fun i => (i.zero, i.size, i.bytes)) = some (some Gp.nil.v, 2, 16) := by kernel_rfl
theorem new2 (w : World) (g : Gp) (t : TypeId) : ∀ j u, (Gp.cl g)[j]? = some u → (w.alloc (.cells g.cells t)).cell? ((⟨w.heap.size, 0, none⟩ : Addr).add j) = some u := by
  intro j u hu
  have h := Whole.new w t g.cells
  have := h.cell j
  rw [Addr.add_lit, Nat.zero_add, this]
  simpa [Gp.cells, Gp.cl] using hu
/-- A loop that gathers gaps: the list that it has so far, in the variable q. -/
structure Gathers (w W : World) (q : Nat) (out : List Gp) : Prop where
  bel : Below w.heap.size w W
  out : ∃ v, Whole W q 26 #[v] ∧ MineG w.heap.size W v out
  new : w.heap.size ≤ q
def rawG (l : List GG) : List Gp := l.map (·.1)
theorem rawG_snoc (l : List GG) (x : GG) : rawG (l ++ [x]) = rawG l ++ [x.1] := by simp [rawG]
theorem gathers_own {B : Nat} {w : World} {q : Nat} (hB : w.heap.size ≤ B) : OwnFrom B (fun s W => Gathers w W q (rawG s)) := by
  rintro s X Y row ⟨hbel, ⟨v, hv, hm⟩, hq⟩ hg hr
  have hr' : ∀ r, row = some r → ∃ o : Obj, X.heap[r]? = some o ∧ o.isCells = false := fun r e => (hr r e).2
  exact ⟨hbel.grown hg hbel.size (fun k e => Nat.le_trans hB (hr k e).1), ⟨v, whole_grown hv hg hr', mineG_grown hm hg hr'⟩, hq⟩

/-- A gap is appended, and the list stored back. -/
theorem Gathers.put {w W w1 : World} {q : Nat} {out out' : List Gp} {v v' : Value} {tmp : Obj} (h : Gathers w W q out) (hv : Whole W q 26 #[v]) (hg : (W.alloc tmp).grownBy w1 v.ownBlock) (hm : MineG w.heap.size w1 v' out') :
    Whole w1 q 26 #[v] ∧ Gathers w (w1.setCell ⟨q, 0, none⟩ v') q out' ∧ KeepsOthers W (w1.setCell ⟨q, 0, none⟩ v') ∧ KpA w.heap.size W (w1.setCell ⟨q, 0, none⟩ v') := by
  obtain ⟨hbel, ⟨v2, hv2, hm2⟩, hq⟩ := h
  obtain rfl := whole_eq hv hv2
  obtain ⟨h1, h2, h3, h4, h5⟩ := Boxed.appended (n₀ := w.heap.size) hv (by decide) hm2 hbel.size hq hm hg
  refine ⟨h1, ⟨hbel.trans h5, ⟨v', h2, h3⟩, hq⟩, h4, ⟨h5, fun k cs hk => ?_⟩⟩
  have e1 : k ≠ q := fun e => by
    subst e; unfold Whole at hk hv; rw [hv] at hk; injection hk with hk; injection hk with _ hk; cases hk
  refine (Below.heap_setCell _ _ _ k e1).trans ?_
  refine (hg.block k (by have := hk.lt; simp; omega) ?_).trans ((Below.heap_alloc W tmp k hk.lt).trans hk)
  intro e
  exact own_apart hm2 hk (by decide) e.symm

set_option maxRecDepth 100000 in
set_option maxHeartbeats 4000000 in
theorem appendSeq_in (Bs : Nat) (A : Option Addr) (l : List Ar) (cap : Nat) (hl : l.length ≤ 10000) (w : World) (hBs : Bs < w.heap.size) (hc : w.cell? ⟨Bs, 0, none⟩ = some (.slice A l.length cap)) (hA : Areas w.heap.size w A l) :
    CallsIn Fence.wide 5 Try.prog 40 #[.slice none 0 0, .func (.func 41) #[] #[.pointer (some ⟨Bs, 0, none⟩)]] w fun e w' => ∃ v, e = .returned v ∧ MineG w.heap.size w' v (gapsL l) ∧ Below w.heap.size w w' := by
  have hro : Fence.wide.round = none := rfl
  obtain ⟨i0, hi0, hz0, hz1, hz2⟩ := info_parts gap_info
  have HI0 : Hid (Try.prog.info? 29 = some i0) := Lib.hid hi0
  have H0 : Hid (i0.zero = some Gp.nil.v) := Lib.hid hz0
  have H1 : Hid (i0.size = 2) := Lib.hid hz1
  have H2 : Hid (i0.bytes = 16) := Lib.hid hz2
  clear hi0 hz0 hz1 hz2
  refine callsIn_of_wp_marks Try.func40 rfl trivial ?_ hro
  simp only [Try.ntmps40, List.size_toArray, List.length_cons, List.length_nil, Nat.reduceAdd, Nat.reduceSub, Array.replicate_succ, Array.replicate_zero, List.push_toArray, List.append_toArray, List.nil_append, List.cons_append]
  gi_wp2
  have bS := Whole.new w 26 #[.slice none 0 0]
  have hB0 := below_new w (.cells #[.slice none 0 0] 26)
  have hsz : (w.alloc (.cells #[.slice none 0 0] 26)).heap.size = w.heap.size + 1 := by simp
  generalize w.alloc (.cells #[.slice none 0 0] 26) = W0 at *
  refine wpIn_rangeFunc_ownH hro (by omega) (gf := 41) (lb := #[.pointer (some ⟨Bs, 0, none⟩)]) rfl trivial (enters_of Try.func41 (by kernel_rfl) rfl)
    (each_stops Bs w.heap.size cap A l (by omega) W0 (by omega) (by omega) ((hB0.cell (p := ⟨Bs, 0, none⟩) hBs).trans hc) (hA.below hB0)) KpA.trans (KpA.put (by omega)) (Below.refl _ _) (fun _ => rfl)
    (fun pre W => Gathers w W w.heap.size (rawG pre))
    (fun _ _ _ => False)
    (gathers_own (by omega))
    (fun _ _ _ _ _ hs _ _ => hs)
    ⟨hB0, ⟨_, bS, MineG.nil _ _⟩, Nat.le_refl _⟩
    (fun x a' W => ∃ Bx, Whole W Bx 29 x.1.cells ∧ a' = { tmps := #[.slice none 0 0, .func (.func 41) #[] #[.pointer (some ⟨Bs, 0, none⟩)], .pointer (some ⟨w.heap.size, 0, none⟩), undef, .slice none 0 0, .pointer (some ⟨Bx, 0, none⟩), .func (.func 41) #[] #[.pointer (some ⟨Bs, 0, none⟩)], x.1.v, undef, undef, undef, undef, undef], defers := [] })
    (fun x a' _ X Y row hs hg hr => by obtain ⟨Bx, h2, h3⟩ := hs; exact ⟨Bx, whole_own Bx _ (fun _ : Unit => _) () X Y row h2 hg (fun r e => (hr r e).2), h3⟩)
    ?assign ?body ?done ?stop
  case assign =>
    rintro l2 pre ⟨⟨x0, x1⟩, hx⟩ W K hI hK
    simp only [Gp.v]
    gi_wp2
    exact hK _ _ ((KeepsOthers.alloc _ _).from _) (KpA.still hI.bel.size (below_new W _)) ((gathers_own (Nat.le_refl _)).alloc (s := pre) _ hI) ⟨W.heap.size, Whole.new W _ _, rfl⟩
  case body =>
    rintro l2 pre x a' W hlw hrec hI ⟨Bx, bX, rfl⟩ hlt
    obtain ⟨v, hv, hm⟩ := hI.out
    obtain ⟨A1, k1, rfl⟩ := hm.is
    have cV := hv.cell 0
    have c0 := bX.cell 0
    have c1 := bX.cell 1
    have hlen : (rawG pre).length ≤ 10001 := by simp [rawG]; omega
    have E1 := Lib.hid (rawG_snoc pre x)
    have HI := Lib.hid hI
    have HV := Lib.hid hv
    have HM := Lib.hid hm
    have HS := Lib.hid hI.bel.size
    clear hA hI hv hm bX
    obtain ⟨⟨x0, x1⟩, hx⟩ := x
    simp [Gp.cells] at cV c0 c1
    simp only [Gp.v]
    gi_wp2_with (gi_at_builtin; go_loud (refine wpListIn_append_own _ rfl (.tmp 8) (.tmp 10) _ rfl w.heap.size 29 i0 _ 2 16 Try.underlying26 HI0.out H0.out H1.out H2.out rfl (by omega) _ (rawG pre).length _ rfl (World.ownsRow.alloc HM.out _) ⟨W.heap.size, 0, none⟩ 1 1 (Gp.cl ⟨x0, x1⟩) rfl rfl (new2 W ⟨x0, x1⟩ 29) (by intro u hu; simp [Gp.cl] at hu; rcases hu with rfl | rfl <;> rfl) (by simp only [maxLen]; omega) (by omega) (by have := HS.out; simp only [World.size_alloc] at *; omega) ?_; intro v' W3 hown' hg' _hnil; obtain ⟨A2, k2, rfl⟩ := own_slice hown'; have N := Lib.hid (HI.out.put HV.out hg' (out' := rawG pre ++ [⟨x0, x1⟩]) (by unfold MineG; rw [List.length_append, gcls_app]; simpa [gcls] using hown')); clear hown' hg' _hnil c0 c1 cV; have cV := N.out.1.cell 0; have fV := N.out.1.frozen 0; simp at cV))
    exact ⟨N.out.2.2.1.from _, N.out.2.2.2, (show Gathers _ _ _ _ from (by rw [E1.out]; exact N.out.2.1))⟩
  case done =>
    rintro D ys W hD hys hI hK
    obtain ⟨v, hv, hm⟩ := hI.out
    rw [show rawG ys = gapsL l from hys] at hm
    obtain ⟨A1, c1, rfl⟩ := hm.is
    have cV := hv.cell 0
    simp at cV
    gi_wp2
    refine ⟨by simp, .inl ⟨_, _, rfl, run_takeDeferred hK, ?_⟩⟩
    refine ⟨_, results_tmp rfl _ _ _, ?_⟩
    exact ⟨_, rfl, ownsRow_putObj hm _ hK rfl, hI.bel.trans (belowK_b (w := w) (Nat.le_refl _) W D _ _ (by omega) hK rfl rfl)⟩
  case stop =>
    rintro D c pre W _ _ h _
    exact h.elim

set_option maxHeartbeats 1000000 in
theorem collect_any (Bs : Nat) (A : Option Addr) (l : List Ar) (cap : Nat) (hl : l.length ≤ 10000) (w : World) (hBs : Bs < w.heap.size) (hc : w.cell? ⟨Bs, 0, none⟩ = some (.slice A l.length cap)) (hA : Areas w.heap.size w A l) :
    Calls Try.prog 27 #[.func (.func 41) #[] #[.pointer (some ⟨Bs, 0, none⟩)]] w fun e w' => ∃ v, e = .returned v ∧ MineG w.heap.size w' v (gapsL l) ∧ Below w.heap.size w w' := by
  have X := Lib.hid (callsIn_wide.1 (appendSeq_in Bs A l cap hl w hBs hc hA))
  clear hBs hc hA
  go_enter Try.func27, Try.ntmps27
  go_wp2_with fail
  refine X.out.mono ?_
  rintro e w1 ⟨v, rfl, hm, hb⟩
  have M := Lib.hid hm
  have B := Lib.hid hb
  clear hm hb X
  go_wp2_with fail
  go_ret
  exact ⟨v, rfl, M.out, B.out⟩

set_option maxHeartbeats 1000000 in
theorem gaps_any (A : Option Addr) (l : List Ar) (cap : Nat) (hl : l.length ≤ 10000) (w : World) (hA : Areas w.heap.size w A l) :
    Calls Try.prog 13 #[.slice A l.length cap] w fun e w' => ∃ v, e = .returned v ∧ MineG w.heap.size w' v (gapsL l) ∧ Below w.heap.size w w' := by
  have hb0 := below_new w (.cells #[.slice A l.length cap] 22)
  have X := Lib.hid (collect_any w.heap.size A l cap hl (w.alloc (.cells #[.slice A l.length cap] 22)) (by simp) ((Whole.new w 22 #[.slice A l.length cap]).cell 0) ((hA.below hb0).mono hb0.size))
  have E := Lib.hid (callsIn_wide.1 (each_in A l.length cap w))
  have B0 := Lib.hid hb0
  clear hA hb0
  generalize l.length = n at *
  go_enter Try.func13, Try.ntmps13
  go_wp2_with fail
  refine E.out.mono ?_
  rintro e w1 ⟨rfl, rfl⟩
  clear E
  go_wp2_with fail
  refine X.out.mono ?_
  rintro e w1 ⟨v, rfl, hm, hb⟩
  have M := Lib.hid hm
  have B := Lib.hid hb
  clear hm hb X
  go_wp2_with fail
  go_ret
  exact ⟨v, rfl, own_base M.out B0.out.size, below_then B0.out B.out (Nat.le_refl _)⟩
end Go.Proofs.Ytmppodobgkhojaa
