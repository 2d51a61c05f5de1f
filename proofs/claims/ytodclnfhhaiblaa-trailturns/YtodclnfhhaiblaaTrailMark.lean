/-
  Layer 3: marks.
-/
import Derived.Test.YtodclnfhhaiblaaTrailOps
import Derived.Deep.AppendLies
import Derived.Deep.RegionLaw
namespace Go.Proofs.Ytodclnfhhaiblaa
open Go.ChangeShapes Go.WideShapes Go.ChangeAt Go.RowKit
set_option linter.unusedVariables false

theorem mark_info : (Try.prog.info? 86).map (fun i => (i.zero, i.size, i.bytes)) = some (some (.agg #[.int .i64 0, .int .i64 0]), 2, 16) := by kernel_rfl
theorem mark_info' : ∃ i0, Try.prog.info? 86 = some i0 ∧ i0.zero = some (.agg #[.int .i64 0, .int .i64 0]) ∧ i0.size = 2 ∧ i0.bytes = 16 := by
  obtain ⟨i0, h1, h2⟩ := Option.map_eq_some_iff.1 mark_info
  simp only [Prod.mk.injEq] at h2
  exact ⟨i0, h1, h2.1, h2.2.1, h2.2.2⟩

section
variable {w w' w'' : World} {b g tb : Nat} {tv mv tv' mv' : Value} {T : Tr} {m m' : Mm}

theorem mark_no (kd : Int) (h : St w b g tb tv mv T m) (hf : Fine T) (hp : fresh T = false) :
    Calls Try.prog 32 #[.pointer (some ⟨tb, 0, none⟩), .int .i64 kd] w fun e w' => e = .returned (.tuple #[]) ∧ w = w' := by
  have F := Lib.hid (freshs h hf)
  rw [hp] at F
  clear h hf hp
  go_enter Try.func32, Try.ntmps32
  go_wp2_with (go_at_call 25; refine F.out.mono ?_; rintro e w' ⟨rfl, rfl⟩)
  go_end0
  exact ⟨rfl, rfl⟩

/-- Behind an append to the marks, ahead of the store. -/
theorem St.mappended {o : Obj} (h : St w b g tb tv mv T m) (hg : (w.alloc o).grownBy w' mv.ownBlock) :
    Whole w' tb 69 #[.pointer (some ⟨b, 0, none⟩), tv, mv, .bool T.over, .int .i64 T.ph, .int .i64 T.place, .int .i64 T.time] :=
  (h.tr.top.alloc o).grown hg (fun he => h.nm he.symm)
/-- Behind the store. -/
theorem St.mappend {o : Obj} {x : Int × Int} (h : St w b g tb tv mv T m) (hg : (w.alloc o).grownBy w' mv.ownBlock)
    (hown : w'.ownsRow 0 86 2 mv' (T.marks.length + 1) (markCells T.marks ++ [.int .i64 x.1, .int .i64 x.2])) (hat : mv'.ownBlock = mv.ownBlock ∨ mv'.ownBlock = some (w.alloc o).heap.size) (hl : T.marks.length + 1 ≤ 1000) :
    St (w'.setCell ⟨tb, 2, none⟩ mv') b g tb tv mv' { T with marks := T.marks ++ [x] } m ∧ Moved w b g tb tv mv (w'.setCell ⟨tb, 2, none⟩ mv') tv mv' := by
  have ho : Only (fun k => mv.ownBlock = some k) w w' := ((Only.refl _ w).alloc o).grown hg (fun k hk => .inl hk)
  have htop := h.mappended hg
  have hne : mv'.ownBlock ≠ some tb := own_apart hown htop (by decide)
  have hsz : (w.alloc o).heap.size = w.heap.size + 1 := by simp
  have h1 : ∀ k, k < w.heap.size → mv'.ownBlock = some k → mv.ownBlock = some k := by
    intro k hk he
    rcases hat with ha | ha
    · rw [← ha]; exact he
    · rw [ha, hsz] at he; injection he with he; omega
  refine ⟨⟨⟨?_, ?_, ?_, h.tr.ft, by simpa using hl⟩, ?_, h.apart⟩, ⟨?_, fun _ h => .inl h, ?_⟩⟩
  · exact htop.put 2 mv'
  · refine own_far (p := ⟨tb, 2, none⟩) (own_only h.tr.told ho (fun k hk he => ?_)) h.nt mv'
    exact own_rows h.tr.told h.tr.marks (by decide) k hk he
  · have := own_far (p := ⟨tb, 2, none⟩) hown hne mv'
    simpa [markCells_append] using this
  · have hm := h.mem.only ho h.mb h.mg
    exact ⟨hm.top.far (Ne.symm h.nb) _, hm.row.far (Ne.symm h.ng) _, hm.few, hm.lo, hm.hi⟩
  · have ho2 : Only (All b g tb tv mv) w w' := ho.mono (fun k _ hk => .inr (.inr (.inr (.inr hk))))
    exact ho2.setCell (.inl (.inr (.inr (.inl rfl)))) _
  · intro k hk
    by_cases hlt : k < w.heap.size
    · exact .inl (h1 k hlt hk)
    · exact .inr (by omega)

set_option maxHeartbeats 1000000 in
theorem mark_yes (kd : Int) (h : St w b g tb tv mv T m) (hf : Fine T) (hp : fresh T = true) (hr : T.marks.length + 1 ≤ 1000) :
    Calls Try.prog 32 #[.pointer (some ⟨tb, 0, none⟩), .int .i64 kd] w (Goes w b g tb tv mv (.tuple #[]) { T with marks := T.marks ++ [(kd, T.time)] } m) := by
  obtain ⟨i0, hi0, hz0, hz1, hz2⟩ := mark_info'
  have F := Lib.hid (freshs h hf)
  rw [hp] at F
  have H := Lib.hid h.drew
  have M := Lib.hid (Moved.still (below_drew (Below.refl w.heap.size w)) b g tb tv mv)
  have c2 := h.c2
  have c6 := h.c6
  have hm := h.tr.marks
  obtain ⟨A, c, rfl⟩ := own_slice hm
  clear h hf hp hm
  have HK := Lib.hid hr
  clear hr
  have HE : Hid (T.marks.length + 1 ≤ 1000) := HK.out
  generalize hk : T.marks.length = k at *
  have HQ := Lib.hid hk
  clear hk
  go_enter Try.func32, Try.ntmps32
  go_upto_region 1 with (go_at_call 25; refine F.out.mono ?_; rintro e w' ⟨rfl, rfl⟩)
  have O := Lib.hid H.out.tr.marks
  rw [HQ.out] at O
  have hr : k + 1 ≤ 1000 := HE.out
  have a2 : (w.alloc (.cells #[.int .i64 kd, .int .i64 T.time] 86)).cell? ⟨tb, 2, none⟩ = some (.slice A k c) := box_cell _ _ _ _ c2
  have a6 : (w.alloc (.cells #[.int .i64 kd, .int .i64 T.time] 86)).cell? ⟨tb, 6, none⟩ = some (.int .i64 T.time) := box_cell _ _ _ _ c6
  have BC : Hid (∀ w1, (w.drew.alloc (.cells #[.int .i64 kd, .int .i64 T.time] 86)).grownBy w1 (Value.slice A k c).ownBlock → w1.cell? ⟨tb, 6, none⟩ = some (.int .i64 T.time) ∧ w1.cell? ⟨tb, 2, none⟩ = some (.slice A k c) ∧ w1.frozen? ⟨tb, 2, none⟩ = false ∧ ∀ u, (w1.setCell ⟨tb, 2, none⟩ u).cell? ⟨tb, 6, none⟩ = some (.int .i64 T.time)) := by
    intro w1 hg
    have hw := H.out.mappended hg
    exact ⟨hw.cell 6, hw.cell 2, hw.frozen 2, fun u => (hw.put 2 u).cell 6⟩
  set_option maxRecDepth 100000 in
  go_region_law
    ((refine step_append_lies _ (by rfl) _ _ _ (by rfl) 0 86 i0 _ 2 16 Try.underlying66 hi0 hz0 hz1 hz2 rfl (by omega) _ k _ (by rfl) (O.out.alloc _)
        ⟨w.heap.size, 0, none⟩ 1 1 [.int .i64 kd, .int .i64 T.time] (by rfl) (by rfl) (World.news_of_block (cs := #[.int .i64 kd, .int .i64 T.time]) (t := 86) (fr := (0, 0)) (heap_alloc_new w _)) (by simp [Value.oneCell'])
        (by omega) (by simp only [maxLen]; omega) (by omega) (by simp) (w.heap.size + 1) (by simp) ?_; intro gg cap w1 hown1 hgrow hat hlt; have b6 := (BC.out _ hgrow).1; have b2 := (BC.out _ hgrow).2.1; have bf := (BC.out _ hgrow).2.2.1; have b7 := (BC.out _ hgrow).2.2.2))
  all_goals
    go_wp2_with fail
    go_end0
    obtain ⟨s2, m2⟩ := H.out.mappend (x := (kd, T.time)) (mv' := .slice (some ⟨gg, 0, none⟩) (k + 1) cap) hgrow (by rw [HQ.out]; exact hown1) (hat.imp (fun h => h.symm) (fun h => by rw [h]; simp [Value.ownBlock])) (by rw [HQ.out]; exact hr)
    exact ⟨rfl, _, _, s2, M.out.trans m2⟩

theorem trMark (kd : Int) (h : St w b g tb tv mv T m) (hf : Fine T) (hr : T.marks.length + 1 ≤ 1000) :
    Calls Try.prog 32 #[.pointer (some ⟨tb, 0, none⟩), .int .i64 kd] w (Goes w b g tb tv mv (.tuple #[]) (marked kd T) m) := by
  cases hp : fresh T with
  | true =>
    have := mark_yes kd h hf hp hr
    simpa [marked, hp] using this
  | false =>
    refine (mark_no kd h hf hp).mono ?_
    rintro e w' ⟨rfl, rfl⟩
    exact ⟨rfl, tv, mv, by simpa [marked, hp] using h, Moved.refl ..⟩
end
end Go.Proofs.Ytodclnfhhaiblaa
