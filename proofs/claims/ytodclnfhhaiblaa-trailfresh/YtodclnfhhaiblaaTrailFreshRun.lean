/-
  Layer 3: the task that notes at which of its accesses it was fresh.
-/
import Derived.Test.YtodclnfhhaiblaaTrailOne
namespace Go.Proofs.Ytodclnfhhaiblaa
open Go.ChangeShapes Go.WideShapes Go.ChangeAt Go.RowKit
set_option linter.unusedVariables false

/-- A list of numbers behind a pointer. -/
structure SeenAt (w : World) (sb : Nat) (sv : Value) (l : List Int) : Prop where
  top : Whole w sb 59 #[sv]
  own : w.ownsRow 0 3 1 sv l.length (l.map (Value.int .i64))

/-- The trail, the memory, what was seen. -/
structure Fst where
  T : Tr
  m : Mm
  l : List Int
def fr (i : Nat) (x : Fst) : Fst := ⟨accT 0 i 0 x.T x.m, accM 0 i 0 0 x.T x.m, if fresh (accT 0 i 0 x.T x.m) then x.l ++ [(i : Int)] else x.l⟩
def frun : Nat → Fst → Fst
  | 0, x => x
  | i + 1, x => fr i (frun i x)

theorem accM_cnt (k i v old : Int) (T : Tr) (m : Mm) : (accM k i v old T m).cnt ≤ m.cnt + 1 := by
  unfold accM
  have := memOf_cnt k i v old m
  split <;> omega
theorem frun_len (i : Nat) (x : Fst) : (frun i x).T.told.length ≤ x.T.told.length + i ∧ (frun i x).m.cnt ≤ x.m.cnt + i ∧ (frun i x).l.length ≤ x.l.length + i := by
  induction i with
  | zero => exact ⟨Nat.le_refl _, by simp [frun], Nat.le_refl _⟩
  | succ i ih =>
    have h1 := accT_len 0 i 0 (frun i x).T (frun i x).m
    have h2 := accM_cnt 0 i 0 0 (frun i x).T (frun i x).m
    have h3 : (fr i (frun i x)).l.length ≤ (frun i x).l.length + 1 := by
      simp only [fr]; split <;> simp
    refine ⟨?_, ?_, ?_⟩
    · have := h1.1; simp only [frun, fr]; omega
    · simp only [frun, fr]; omega
    · simp only [frun]; omega
theorem frun_fine (i : Nat) (x : Fst) (h : Fine x.T) : Fine (frun i x).T := by
  induction i with
  | zero => exact h
  | succ i ih => exact accT_fine ih

/-- The blocks that the task may turn. -/
def Sees (b g tb : Nat) (tv mv : Value) (sb : Nat) (sv : Value) (k : Nat) : Prop := All b g tb tv mv k ∨ k = sb ∨ sv.ownBlock = some k
structure SeenMoved (w : World) (b g tb : Nat) (tv mv : Value) (sb : Nat) (sv : Value) (w' : World) (tv' mv' sv' : Value) : Prop where
  only : Only (Sees b g tb tv mv sb sv) w w'
  t : ∀ k, tv'.ownBlock = some k → tv.ownBlock = some k ∨ w.heap.size ≤ k
  m : ∀ k, mv'.ownBlock = some k → mv.ownBlock = some k ∨ w.heap.size ≤ k
  s : ∀ k, sv'.ownBlock = some k → sv.ownBlock = some k ∨ w.heap.size ≤ k

section
variable {w w' w'' : World} {b g tb sb : Nat} {tv mv tv' mv' sv sv' tv'' mv'' sv'' : Value} {T : Tr} {m m' : Mm} {l : List Int}

theorem SeenMoved.all (h : SeenMoved w b g tb tv mv sb sv w' tv' mv' sv') {k : Nat} (hk : k < w.heap.size) (ha : Sees b g tb tv' mv' sb sv' k) : Sees b g tb tv mv sb sv k := by
  rcases ha with (h1 | h1 | h1 | h1 | h1) | h1 | h1
  · exact .inl (.inl h1)
  · exact .inl (.inr (.inl h1))
  · exact .inl (.inr (.inr (.inl h1)))
  · rcases h.t k h1 with h2 | h2
    · exact .inl (.inr (.inr (.inr (.inl h2))))
    · omega
  · rcases h.m k h1 with h2 | h2
    · exact .inl (.inr (.inr (.inr (.inr h2))))
    · omega
  · exact .inr (.inl h1)
  · rcases h.s k h1 with h2 | h2
    · exact .inr (.inr h2)
    · omega
theorem SeenMoved.refl (w : World) (b g tb : Nat) (tv mv : Value) (sb : Nat) (sv : Value) : SeenMoved w b g tb tv mv sb sv w tv mv sv := ⟨Only.refl _ _, fun _ h => .inl h, fun _ h => .inl h, fun _ h => .inl h⟩
theorem SeenMoved.still (h : Below w.heap.size w w') (b g tb : Nat) (tv mv : Value) (sb : Nat) (sv : Value) : SeenMoved w b g tb tv mv sb sv w' tv mv sv := ⟨Only.of_below h _, fun _ h => .inl h, fun _ h => .inl h, fun _ h => .inl h⟩
theorem SeenMoved.trans (h : SeenMoved w b g tb tv mv sb sv w' tv' mv' sv') (k : SeenMoved w' b g tb tv' mv' sb sv' w'' tv'' mv'' sv'') : SeenMoved w b g tb tv mv sb sv w'' tv'' mv'' sv'' := by
  refine ⟨⟨k.only.os.trans h.only.os, k.only.tape.trans h.only.tape, k.only.output.trans h.only.output, Nat.le_trans h.only.size k.only.size, fun i hi hn => ?_⟩, fun j hj => ?_, fun j hj => ?_, fun j hj => ?_⟩
  · exact (k.only.block i (Nat.lt_of_lt_of_le hi h.only.size) (fun ha => hn (h.all hi ha))).trans (h.only.block i hi hn)
  · exact (k.t j hj).elim (h.t j) (fun h1 => .inr (Nat.le_trans h.only.size h1))
  · exact (k.m j hj).elim (h.m j) (fun h1 => .inr (Nat.le_trans h.only.size h1))
  · exact (k.s j hj).elim (h.s j) (fun h1 => .inr (Nat.le_trans h.only.size h1))
theorem Moved.seen (h : Moved w b g tb tv mv w' tv' mv') (sb : Nat) (sv : Value) : SeenMoved w b g tb tv mv sb sv w' tv' mv' sv :=
  ⟨h.only.mono (fun k _ hk => .inl hk), h.t, h.m, fun _ h => .inl h⟩

theorem SeenAt.still (h : SeenAt w sb sv l) (hb : Below w.heap.size w w') : SeenAt w' sb sv l := ⟨h.top.below hb h.top.lt, own_still h.own hb⟩
/-- What the trail's own calls leave. -/
theorem SeenAt.moved (h : SeenAt w sb sv l) (hs : St w b g tb tv mv T m) (hm : Moved w b g tb tv mv w' tv' mv') : SeenAt w' sb sv l := by
  refine ⟨h.top.only hm.only (not_all hs h.top (by decide) (by decide) (by decide) (by decide)), own_only h.own hm.only (fun k hk ha => ?_)⟩
  rcases ha with rfl | rfl | rfl | ha | ha
  · exact own_apart h.own hs.mem.top (by decide) hk
  · exact own_apart h.own hs.mem.row (by decide) hk
  · exact own_apart h.own hs.tr.top (by decide) hk
  · exact own_rows h.own hs.tr.told (by decide) k hk ha
  · exact own_rows h.own hs.tr.marks (by decide) k hk ha
/-- Behind an append and a store. -/
theorem SeenAt.append {o : Obj} {x : Int} (h : SeenAt w sb sv l) (hs : St w b g tb tv mv T m) (hg : (w.alloc o).grownBy w' sv.ownBlock) (hown : w'.ownsRow 0 3 1 sv' (l.length + 1) (l.map (Value.int .i64) ++ [.int .i64 x]))
    (hat : sv.ownBlock = sv'.ownBlock ∨ sv'.ownBlock = some (w.alloc o).heap.size) :
    SeenAt (w'.setCell ⟨sb, 0, none⟩ sv') sb sv' (l ++ [x]) ∧ St (w'.setCell ⟨sb, 0, none⟩ sv') b g tb tv mv T m ∧ SeenMoved w b g tb tv mv sb sv (w'.setCell ⟨sb, 0, none⟩ sv') tv mv sv' := by
  have ho : Only (fun k => sv.ownBlock = some k) w w' := ((Only.refl _ w).alloc o).grown hg (fun k hk => .inl hk)
  have hnb : sv.ownBlock ≠ some sb := own_apart h.own h.top (by decide)
  have htop : Whole w' sb 59 #[sv] := h.top.only ho hnb
  have hne : sv'.ownBlock ≠ some sb := own_apart hown htop (by decide)
  have ho2 : Only (fun k => sv.ownBlock = some k ∨ k = sb) w (w'.setCell ⟨sb, 0, none⟩ sv') := (ho.mono (fun k _ hk => .inl hk)).setCell (p := ⟨sb, 0, none⟩) (.inl (.inr rfl)) _
  have hsz : (w.alloc o).heap.size = w.heap.size + 1 := by simp
  refine ⟨⟨htop.put 0 sv', ?_⟩, ⟨hs.tr.only ho2 ?_ ?_ ?_, hs.mem.only ho2 ?_ ?_, hs.apart⟩, ⟨ho2.mono (fun k _ hk => hk.elim (fun h => .inr (.inr h)) (fun h => .inr (.inl h))), fun _ h => .inl h, fun _ h => .inl h, fun k hk => ?_⟩⟩
  · have := own_far (p := ⟨sb, 0, none⟩) hown hne sv'
    simpa using this
  · rintro (h1 | h1)
    · exact own_apart h.own hs.tr.top (by decide) h1
    · exact hs.tr.top.apart h.top (by decide) h1
  · rintro k hk (h1 | rfl)
    · exact own_rows h.own hs.tr.told (by decide) k h1 hk
    · exact own_apart hs.tr.told h.top (by decide) hk
  · rintro k hk (h1 | rfl)
    · exact own_rows h.own hs.tr.marks (by decide) k h1 hk
    · exact own_apart hs.tr.marks h.top (by decide) hk
  · rintro (h1 | h1)
    · exact own_apart h.own hs.mem.top (by decide) h1
    · exact hs.mem.top.apart h.top (by decide) h1
  · rintro (h1 | h1)
    · exact own_apart h.own hs.mem.row (by decide) h1
    · exact hs.mem.row.apart h.top (by decide) h1
  · rcases hat with ha | ha
    · exact .inl (ha.trans hk)
    · rw [ha, hsz] at hk
      injection hk with hk
      exact .inr (by omega)

/-- What the task leaves. -/
def FrEnd (w : World) (b g tb : Nat) (tv mv : Value) (sb : Nat) (sv : Value) (x : Fst) (e : Ending) (w' : World) : Prop :=
  e = .returned (.tuple #[]) ∧ ∃ tv' mv' sv', St w' b g tb tv' mv' (frun 3 x).T (frun 3 x).m ∧ SeenAt w' sb sv' (frun 3 x).l ∧ SeenMoved w b g tb tv mv sb sv w' tv' mv' sv'
def FrRel (w : World) (b g tb : Nat) (tv mv : Value) (sb : Nat) (sv : Value) (fb : Nat) (x : Fst) (iv : Value) (wr : World) : Prop :=
  ∃ (i : Nat) (tv' mv' sv' : Value), i ≤ 3 ∧ iv = .int .i64 i ∧ St wr b g tb tv' mv' (frun i x).T (frun i x).m ∧ SeenAt wr sb sv' (frun i x).l ∧ SeenMoved w b g tb tv mv sb sv wr tv' mv' sv' ∧ Whole wr fb 62 #[.pointer (some ⟨sb, 0, none⟩)]
end

theorem int_info : (Try.prog.info? 3).map (fun i => (i.zero, i.size, i.bytes)) = some (some (.int .i64 0), 1, 8) := by kernel_rfl
theorem int_info' : ∃ i0, Try.prog.info? 3 = some i0 ∧ i0.zero = some (.int .i64 0) ∧ i0.size = 1 ∧ i0.bytes = 8 := by
  obtain ⟨i0, h1, h2⟩ := Option.map_eq_some_iff.1 int_info
  simp only [Prod.mk.injEq] at h2
  exact ⟨i0, h1, h2.1, h2.2.1, h2.2.2⟩
end Go.Proofs.Ytodclnfhhaiblaa
