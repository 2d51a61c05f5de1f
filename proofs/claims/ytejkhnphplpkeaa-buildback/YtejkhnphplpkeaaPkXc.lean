/-
  Texts of our own, one behind the other (WtPure, WtDo): what the laws' proofs rest on; each says at its head what it holds. No conditions.
-/
import Derived.Test.YtejkhnphplpkeaaPkXa
import Derived.Test.YtejkhnphplpkeaaPkXb
/-
  Tasks that tell a witness, as programs, pure, for whatever layer: accesses, questions (dry? fresh?), marks, and what is told; what a task does on a trail, and what a step of it comes to.
-/
namespace Go.Proofs.Ytejkhnphplpkeaa
open Go.RowKit
set_option linter.unusedVariables false

/-- What a witness is told. -/
inductive Ev where
  | touch (h : Int)
  | born (s : Int)
  | died (h : Int)

/-- A task: it answers, or does an access (0 load, 1 store, 2 add, 3 swap, 4 wait) and goes on with what it is told, or asks whether the trail is dry, or fresh, or tells the witness, or puts a mark. -/
inductive WTask (α : Type) where
  | ret (a : α)
  | acc (k i v old : Int) (next : Int → WTask α)
  | ask (next : Bool → WTask α)
  | fsh (next : Bool → WTask α)
  | tell (e : Ev) (next : WTask α)
  | mrk (kd : Int) (next : WTask α)

/-- One task, then another. -/
def WTask.bind {α β : Type} : WTask α → (α → WTask β) → WTask β
  | .ret a, f => f a
  | .acc k i v old g, f => .acc k i v old fun x => (g x).bind f
  | .ask g, f => .ask fun d => (g d).bind f
  | .fsh g, f => .fsh fun d => (g d).bind f
  | .tell e p, f => .tell e (p.bind f)
  | .mrk k p, f => .mrk k (p.bind f)

/-- What is left of a run. -/
structure WOut (α : Type) where
  a : α
  T : Tr
  m : Mm
  evs : List Ev
variable {α β : Type}
/-- The run, on a trail at whatever phase. -/
def wplay : WTask α → Tr → Mm → WOut α
  | .ret a, T, m => ⟨a, T, m, []⟩
  | .acc k i v old f, T, m => wplay (f (accV k i old T m)) (accT k i old T m) (accM k i v old T m)
  | .ask f, T, m => wplay (f (dry T)) T m
  | .fsh f, T, m => wplay (f (fresh T)) T m
  | .tell e p, T, m => { wplay p T m with evs := e :: (wplay p T m).evs }
  | .mrk k p, T, m => wplay p (marked k T) m
theorem wplay_bind (p : WTask α) (f : α → WTask β) (T : Tr) (m : Mm) :
    wplay (p.bind f) T m = { wplay (f (wplay p T m).a) (wplay p T m).T (wplay p T m).m with evs := (wplay p T m).evs ++ (wplay (f (wplay p T m).a) (wplay p T m).T (wplay p T m).m).evs } := by
  induction p generalizing T m with
  | ret a => rfl
  | acc k i v old g ih => exact ih _ _ _
  | ask g ih => exact ih _ _ _
  | fsh g ih => exact ih _ _ _
  | tell e p ih => simp only [WTask.bind, wplay]; rw [ih]; simp
  | mrk k p ih => exact ih _ _

/-- On a dry trail. -/
def wdead : WTask α → α × List Ev
  | .ret a => (a, [])
  | .acc _ _ _ _ f => wdead (f 0)
  | .ask f => wdead (f true)
  | .fsh f => wdead (f false)
  | .tell e p => ((wdead p).1, e :: (wdead p).2)
  | .mrk _ p => wdead p
/-- What comes of the rest of a step. -/
structure WRest (α : Type) where
  a : α
  evs : List Ev
  mks : List Int
  ends : Bool
/-- Behind the access that was done (d: it waits). -/
def wbehind (d : Bool) : WTask α → WRest α
  | .ret a => ⟨a, [], [], true⟩
  | .acc _ _ _ _ f => ⟨(wdead (f 0)).1, (wdead (f 0)).2, [], false⟩
  | .ask f => wbehind d (f d)
  | .fsh f => wbehind d (f true)
  | .tell e p => { wbehind d p with evs := e :: (wbehind d p).evs }
  | .mrk k p => { wbehind d p with mks := k :: (wbehind d p).mks }

/-- What comes of a step. -/
structure WTurn (α : Type) where
  new : List Int
  m : Mm
  over : Bool
  a : α
  evs : List Ev
  mks : List Int
/-- A step of the task, that was told l till now. -/
def wturn : WTask α → List Int → Mm → WTurn α
  | .ret a, _, m => ⟨[], m, true, a, [], []⟩
  | .ask f, l, m => wturn (f false) l m
  | .fsh f, l, m => wturn (f false) l m
  | .tell e p, l, m => { wturn p l m with evs := e :: (wturn p l m).evs }
  | .mrk _ p, l, m => wturn p l m
  | .acc _ _ _ _ f, x :: l, m => wturn (f x) l m
  | .acc k i v old f, [], m =>
    if okOf k i old m then ⟨[toldOf k i old m], memOf k i v old m, (wbehind false (f (toldOf k i old m))).ends, (wbehind false (f (toldOf k i old m))).a, (wbehind false (f (toldOf k i old m))).evs, (wbehind false (f (toldOf k i old m))).mks⟩
    else ⟨[], memOf k i v old m, false, (wbehind true (f 0)).a, (wbehind true (f 0)).evs, (wbehind true (f 0)).mks⟩

theorem wplay_dead (p : WTask α) (T : Tr) (m : Mm) (h : T.ph = 4) : wplay p T m = ⟨(wdead p).1, T, m, (wdead p).2⟩ := by
  have h4 : dry T = true := by simp [dry, h]
  have h5 : fresh T = false := by simp [fresh, h]
  induction p with
  | ret a => rfl
  | acc k i v old f ih =>
    have h1 : accT k i old T m = T := by simp [accT, h]
    have h2 : accM k i v old T m = m := by simp [accM, h]
    have h3 : accV k i old T m = 0 := by simp [accV, h]
    simp only [wplay, h1, h2, h3, wdead]
    exact ih 0
  | ask f ih => simp only [wplay, h4, wdead]; exact ih true
  | fsh f ih => simp only [wplay, h5, wdead]; exact ih false
  | tell e p ih => simp only [wplay, wdead]; rw [ih]
  | mrk k p ih =>
    have h1 : marked k T = T := by simp [marked, h5]
    simp only [wplay, wdead, h1]; exact ih

/-- What is left of the trail. -/
structure Left (T : Tr) (mks : List Int) (T' : Tr) : Prop where
  told : T'.told = T.told
  marks : T'.marks = T.marks ++ mks.map fun k => (k, T.time)
  over : T'.over = T.over
  time : T'.time = T.time
theorem Left.refl (T : Tr) : Left T [] T := ⟨rfl, by simp, rfl, rfl⟩

/-- Behind an access: d tells whether it waits. -/
theorem wplay_behind (d : Bool) (p : WTask α) (T : Tr) (m : Mm) (h : T.ph = if d then 3 else 2) :
    (wplay p T m).a = (wbehind d p).a ∧ (wplay p T m).m = m ∧ (wplay p T m).evs = (wbehind d p).evs ∧ Left T (wbehind d p).mks (wplay p T m).T ∧ dry (wplay p T m).T = (d || !(wbehind d p).ends) := by
  induction p generalizing T with
  | ret a =>
    refine ⟨rfl, rfl, rfl, Left.refl T, ?_⟩
    cases d <;> simp at h <;> simp [wplay, wbehind, dry, h]
  | acc k i v old f ih =>
    have hp : T.ph = 2 ∨ T.ph = 3 := by cases d <;> simp at h <;> simp [h]
    have hn : ¬ T.ph = 1 := by omega
    have h1 : accT k i old T m = { T with ph := 4 } := by simp [accT, hn, hp]
    have h2 : accM k i v old T m = m := by simp [accM, hn]
    have h3 : accV k i old T m = 0 := by simp [accV, hn]
    simp only [wplay, h1, h2, h3, wbehind]
    rw [wplay_dead _ _ _ rfl]
    exact ⟨rfl, rfl, rfl, ⟨rfl, by simp, rfl, rfl⟩, by cases d <;> simp [dry]⟩
  | ask f ih =>
    have h1 : dry T = d := by cases d <;> simp at h <;> simp [dry, h]
    simp only [wplay, h1, wbehind]
    exact ih d T h
  | fsh f ih =>
    have h1 : fresh T = true := by cases d <;> simp at h <;> simp [fresh, h]
    simp only [wplay, h1, wbehind]
    exact ih true T h
  | tell e p ih =>
    obtain ⟨i1, i2, i3, i4, i5⟩ := ih T h
    simp only [wplay, wbehind]
    exact ⟨i1, i2, by rw [i3], i4, i5⟩
  | mrk k p ih =>
    have h1 : marked k T = { T with marks := T.marks ++ [(k, T.time)] } := by
      have : fresh T = true := by cases d <;> simp at h <;> simp [fresh, h]
      simp [marked, this]
    simp only [wplay, wbehind, h1]
    obtain ⟨i1, i2, i3, i4, i5⟩ := ih { T with marks := T.marks ++ [(k, T.time)] } h
    refine ⟨i1, i2, i3, ⟨i4.told, ?_, i4.over, i4.time⟩, i5⟩
    rw [i4.marks]
    simp

/-- A step does what wturn says. -/
theorem wplay_turn (p : WTask α) (l : List Int) (T : Tr) (m : Mm) (h : T.ph = 1) (hp : T.place ≤ T.told.length) (hl : T.told.drop T.place = l) :
    (wplay p T m).a = (wturn p l m).a ∧ (wplay p T m).m = (wturn p l m).m ∧ (wplay p T m).evs = (wturn p l m).evs ∧ (wplay p T m).T.told = T.told ++ (wturn p l m).new ∧
    (wplay p T m).T.marks = T.marks ++ (wturn p l m).mks.map (fun k => (k, T.time)) ∧ (wplay p T m).T.over = T.over ∧ dry (wplay p T m).T = !(wturn p l m).over := by
  induction p generalizing l T with
  | ret a => exact ⟨rfl, rfl, rfl, by simp [wplay, wturn], by simp [wplay, wturn], rfl, by simp [wplay, wturn, dry, h]⟩
  | ask f ih =>
    have h1 : dry T = false := by simp [dry, h]
    simp only [wplay, h1, wturn]
    exact ih false l T h hp hl
  | fsh f ih =>
    have h1 : fresh T = false := by simp [fresh, h]
    simp only [wplay, h1, wturn]
    exact ih false l T h hp hl
  | tell e p ih =>
    obtain ⟨i1, i2, i3, i4, i5, i6, i7⟩ := ih l T h hp hl
    simp only [wplay, wturn]
    exact ⟨i1, i2, by rw [i3], i4, i5, i6, i7⟩
  | mrk k p ih =>
    have h1 : marked k T = T := by simp [marked, fresh, h]
    simp only [wplay, wturn, h1]
    exact ih l T h hp hl
  | acc k i v old f ih =>
    match l, hl with
    | [], hl =>
      have he : T.place = T.told.length := by
        have := List.drop_eq_nil_iff.1 hl
        omega
      have h2 : accM k i v old T m = memOf k i v old m := by simp [accM, h, he]
      by_cases hok : okOf k i old m = true
      · have h1 : accT k i old T m = { T with told := T.told ++ [toldOf k i old m], ph := 2, place := T.place + 1 } := by simp [accT, h, he, hok]
        have h3 : accV k i old T m = toldOf k i old m := by simp [accV, h, he, hok]
        simp only [wplay, h1, h2, h3, wturn, hok, if_true]
        obtain ⟨i1, i2, i3, i4, i5⟩ := wplay_behind false (f (toldOf k i old m)) { T with told := T.told ++ [toldOf k i old m], ph := 2, place := T.place + 1 } (memOf k i v old m) rfl
        exact ⟨i1, i2, i3, i4.told, i4.marks, i4.over, by simpa using i5⟩
      · have h1 : accT k i old T m = { T with ph := 3 } := by simp [accT, h, he, hok]
        have h3 : accV k i old T m = 0 := by simp [accV, h, he, hok]
        obtain ⟨i1, i2, i3, i4, i5⟩ := wplay_behind true (f 0) { T with ph := 3 } (memOf k i v old m) rfl
        simp only [wplay, h1, h2, h3, wturn, hok]
        refine ⟨i1, i2, i3, ?_, i4.marks, i4.over, by simpa using i5⟩
        rw [i4.told]
        simp
    | x :: l, hl =>
      have hlt : T.place < T.told.length := by
        rcases Nat.lt_or_ge T.place T.told.length with h1 | h1
        · exact h1
        · rw [List.drop_eq_nil_of_le h1] at hl; cases hl
      rw [List.drop_eq_getElem_cons hlt] at hl
      injection hl with hx hl
      have hne : T.place ≠ T.told.length := by omega
      have h1 : accT k i old T m = { T with place := T.place + 1 } := by simp [accT, h, hne]
      have h2 : accM k i v old T m = m := by simp [accM, h, hne]
      have h3 : accV k i old T m = x := by simp [accV, h, hne, nth, List.getD_eq_getElem?_getD, List.getElem?_eq_getElem hlt, hx]
      simp only [wplay, h1, h2, h3, wturn]
      exact ih x l { T with place := T.place + 1 } h hlt hl

theorem marked_fine {k : Int} {T : Tr} (h : Fine T) : Fine (marked k T) := by
  unfold marked
  split
  · exact ⟨h.ph, h.place, h.one⟩
  · exact h
theorem wplay_fine (p : WTask α) (T : Tr) (m : Mm) (h : Fine T) : Fine (wplay p T m).T := by
  induction p generalizing T m with
  | ret a => exact h
  | acc k i v old f ih => exact ih _ _ _ (accT_fine h)
  | ask f ih => exact ih _ _ _ h
  | fsh f ih => exact ih _ _ _ h
  | tell e p ih => exact ih _ _ h
  | mrk k p ih => exact ih _ _ (marked_fine h)
/-- Whole, from where a step begins. -/
theorem began_wturn (p : WTask α) (time : Int) (T : Tr) (m : Mm) :
    (wplay p (began time T) m).a = (wturn p T.told m).a ∧ (wplay p (began time T) m).m = (wturn p T.told m).m ∧ (wplay p (began time T) m).evs = (wturn p T.told m).evs ∧ (wplay p (began time T) m).T.told = T.told ++ (wturn p T.told m).new ∧
    (wplay p (began time T) m).T.marks = T.marks ++ (wturn p T.told m).mks.map (fun k => (k, time)) ∧ (wplay p (began time T) m).T.over = T.over ∧ dry (wplay p (began time T) m).T = !(wturn p T.told m).over :=
  wplay_turn p T.told (began time T) m rfl (Nat.zero_le _) (by simp [began])
theorem wturn_cnt (p : WTask α) (l : List Int) (m : Mm) : (wturn p l m).m.cnt ≤ m.cnt + 1 ∧ (wturn p l m).new.length ≤ 1 := by
  induction p generalizing l with
  | ret a => exact ⟨by simp only [wturn]; omega, by simp [wturn]⟩
  | ask f ih => exact ih false l
  | fsh f ih => exact ih false l
  | tell e p ih => exact ih l
  | mrk k p ih => exact ih l
  | acc k i v old f ih =>
    match l with
    | [] =>
      have := memOf_cnt k i v old m
      simp only [wturn]
      split
      · exact ⟨this, by simp⟩
      · exact ⟨this, by simp⟩
    | x :: l => exact ih x l
end Go.Proofs.Ytejkhnphplpkeaa

/-
  Tasks that tell a witness: a trail, its memory and an arena in the world, and what a call leaves of them.
-/
namespace Go.Proofs.Ytejkhnphplpkeaa
open Go.ChangeShapes Go.WideShapes Go.ChangeAt Go.RowKit
set_option linter.unusedVariables false

/-- A witness: where its slots begin, what is known of each, and what went wrong. -/
structure Wi where
  fst : Int
  l : Slots
  st : Bool
  db : Bool
/-- What it knows behind being told. -/
def evW (x : Wi) : Ev → Wi
  | .touch h => { x with st := x.st || !rightB x.l h }
  | .born s => if 1 ≤ s ∧ s ≤ x.l.length then { x with l := bornAt x.l (s - 1).toNat, db := x.db || liveAt x.l (s - 1).toNat } else x
  | .died h => if rightB x.l h then { x with l := diedAt x.l (slotOf h - 1).toNat } else { x with db := true }
def evsW (x : Wi) (evs : List Ev) : Wi := evs.foldl evW x
theorem evsW_nil (x : Wi) : evsW x [] = x := rfl
theorem evsW_cons (x : Wi) (e : Ev) (l : List Ev) : evsW x (e :: l) = evsW (evW x e) l := rfl
theorem evsW_app (x : Wi) (l l' : List Ev) : evsW x (l ++ l') = evsW (evsW x l) l' := List.foldl_append ..
/-- All generations are small. -/
structure WiOk (x : Wi) (G : Int) : Prop where
  gens : Gens x.l G
  lo : 0 ≤ G
  hi : G ≤ 1000000000000
theorem WiOk.touch {x : Wi} {G : Int} (h : WiOk x G) (k : Int) : WiOk (evW x (.touch k)) G := ⟨h.gens, h.lo, h.hi⟩

/-- A trail, its memory, and an arena. -/
structure WSt (w : World) (b g tb ab ag : Nat) (tv mv : Value) (T : Tr) (m : Mm) (x : Wi) : Prop where
  st : St w b g tb tv mv T m
  ar : ArAt w ab ag x.fst x.l x.st x.db
/-- The blocks of all. -/
def WAll (b g tb ab ag : Nat) (tv mv : Value) (k : Nat) : Prop := All b g tb tv mv k ∨ ArTwo ab ag k
/-- Only those have turned; and the rows lie where they lay, or in new memory. -/
structure WMoved (w : World) (b g tb ab ag : Nat) (tv mv : Value) (w' : World) (tv' mv' : Value) : Prop where
  only : Only (WAll b g tb ab ag tv mv) w w'
  t : ∀ k, tv'.ownBlock = some k → tv.ownBlock = some k ∨ w.heap.size ≤ k
  m : ∀ k, mv'.ownBlock = some k → mv.ownBlock = some k ∨ w.heap.size ≤ k
/-- What a call leaves: its answer, the trail, the memory, the witness. -/
def WGoes (w : World) (b g tb ab ag : Nat) (tv mv : Value) (v : Value) (T : Tr) (m : Mm) (x : Wi) (e : Ending) (w' : World) : Prop :=
  e = .returned v ∧ ∃ tv' mv', WSt w' b g tb ab ag tv' mv' T m x ∧ WMoved w b g tb ab ag tv mv w' tv' mv'

section
variable {w w' w'' : World} {b g tb ab ag : Nat} {tv mv tv' mv' tv'' mv'' : Value} {T T' : Tr} {m m' : Mm} {x x' : Wi} {v : Value} {e : Ending}
theorem WMoved.refl (w : World) (b g tb ab ag : Nat) (tv mv : Value) : WMoved w b g tb ab ag tv mv w tv mv := ⟨Only.refl _ _, fun _ h => .inl h, fun _ h => .inl h⟩
theorem WMoved.all (h : WMoved w b g tb ab ag tv mv w' tv' mv') {k : Nat} (hk : k < w.heap.size) (ha : WAll b g tb ab ag tv' mv' k) : WAll b g tb ab ag tv mv k := by
  rcases ha with (h1 | h1 | h1 | h1 | h1) | h1
  · exact .inl (.inl h1)
  · exact .inl (.inr (.inl h1))
  · exact .inl (.inr (.inr (.inl h1)))
  · rcases h.t k h1 with h2 | h2
    · exact .inl (.inr (.inr (.inr (.inl h2))))
    · omega
  · rcases h.m k h1 with h2 | h2
    · exact .inl (.inr (.inr (.inr (.inr h2))))
    · omega
  · exact .inr h1
theorem WMoved.trans (h : WMoved w b g tb ab ag tv mv w' tv' mv') (k : WMoved w' b g tb ab ag tv' mv' w'' tv'' mv'') : WMoved w b g tb ab ag tv mv w'' tv'' mv'' := by
  refine ⟨⟨k.only.os.trans h.only.os, k.only.tape.trans h.only.tape, k.only.output.trans h.only.output, Nat.le_trans h.only.size k.only.size, fun i hi hn => ?_⟩, fun j hj => ?_, fun j hj => ?_⟩
  · exact (k.only.block i (Nat.lt_of_lt_of_le hi h.only.size) (fun ha => hn (h.all hi ha))).trans (h.only.block i hi hn)
  · rcases k.t j hj with h1 | h1
    · exact h.t j h1
    · exact .inr (Nat.le_trans h.only.size h1)
  · rcases k.m j hj with h1 | h1
    · exact h.m j h1
    · exact .inr (Nat.le_trans h.only.size h1)
theorem WMoved.still (h : Below w.heap.size w w') (b g tb ab ag : Nat) (tv mv : Value) : WMoved w b g tb ab ag tv mv w' tv mv := ⟨Only.of_below h _, fun _ h => .inl h, fun _ h => .inl h⟩
theorem WMoved.of_moved (h : Moved w b g tb tv mv w' tv' mv') : WMoved w b g tb ab ag tv mv w' tv' mv' := ⟨h.only.mono (fun k _ hk => .inl hk), h.t, h.m⟩
theorem WMoved.of_ar (h : Only (ArTwo ab ag) w w') : WMoved w b g tb ab ag tv mv w' tv mv := ⟨h.mono (fun k _ hk => .inr hk), fun _ h => .inl h, fun _ h => .inl h⟩

/-- The arena's blocks are none of the others. -/
theorem WSt.far (h : WSt w b g tb ab ag tv mv T m x) {k : Nat} (hk : ArTwo ab ag k) : ¬ All b g tb tv mv k := by
  rcases hk with rfl | rfl
  · rintro (h1 | h1 | h1 | h1 | h1)
    · exact h.ar.top.apart h.st.mem.top (by decide) h1
    · exact h.ar.top.apart h.st.mem.row (by decide) h1
    · exact h.ar.top.apart h.st.tr.top (by decide) h1
    · exact own_apart h.st.tr.told h.ar.top (by decide) h1
    · exact own_apart h.st.tr.marks h.ar.top (by decide) h1
  · rintro (h1 | h1 | h1 | h1 | h1)
    · exact h.ar.row.apart h.st.mem.top (by decide) h1
    · exact h.ar.row.apart h.st.mem.row (by decide) h1
    · exact h.ar.row.apart h.st.tr.top (by decide) h1
    · exact own_apart h.st.tr.told h.ar.row (by decide) h1
    · exact own_apart h.st.tr.marks h.ar.row (by decide) h1
theorem WSt.still (h : WSt w b g tb ab ag tv mv T m x) (hb : Below w.heap.size w w') : WSt w' b g tb ab ag tv mv T m x := ⟨h.st.still hb, h.ar.still hb⟩
/-- Behind what turns the trail and its memory alone. -/
theorem WSt.goes (h : WSt w b g tb ab ag tv mv T m x) (hg : Goes w b g tb tv mv v T' m' e w') : WGoes w b g tb ab ag tv mv v T' m' x e w' := by
  obtain ⟨he, tv', mv', h1, h2⟩ := hg
  exact ⟨he, tv', mv', ⟨h1, h.ar.only h2.only (h.far (.inl rfl)) (h.far (.inr rfl))⟩, WMoved.of_moved h2⟩
/-- Behind what turns the arena alone. -/
theorem WSt.did (h : WSt w b g tb ab ag tv mv T m x) (hd : ArDid w ab ag v x'.fst x'.l x'.st x'.db e w') : WGoes w b g tb ab ag tv mv v T m x' e w' := by
  obtain ⟨he, h1, h2⟩ := hd
  have hn : ∀ k, All b g tb tv mv k → ¬ ArTwo ab ag k := fun k hk ha => h.far ha hk
  refine ⟨he, tv, mv, ⟨⟨h.st.tr.only h2 (hn _ (.inr (.inr (.inl rfl)))) (fun k hk => hn _ (.inr (.inr (.inr (.inl hk))))) (fun k hk => hn _ (.inr (.inr (.inr (.inr hk))))), h.st.mem.only h2 (hn _ (.inl rfl)) (hn _ (.inr (.inl rfl))), h.st.apart⟩, h1⟩, WMoved.of_ar h2⟩
/-- One call behind another. -/
theorem WGoes.then {v' : Value} {T'' : Tr} {m'' : Mm} {x'' : Wi} {e' : Ending} (hm : WMoved w b g tb ab ag tv mv w' tv' mv') (k : WGoes w' b g tb ab ag tv' mv' v' T'' m'' x'' e' w'') : WGoes w b g tb ab ag tv mv v' T'' m'' x'' e' w'' := by
  obtain ⟨he, tv2, mv2, h1, h2⟩ := k
  exact ⟨he, tv2, mv2, h1, hm.trans h2⟩

theorem wLoad (i : Int) (h : WSt w b g tb ab ag tv mv T m x) (hf : Fine T) (hr : T.told.length + 1 ≤ 60000) (hu : m.cnt + 1 ≤ 4611686018427387904) :
    Calls Try.prog 84 #[.pointer (some ⟨tb, 0, none⟩), .int .i64 i] w (WGoes w b g tb ab ag tv mv (.int .i64 (accV 0 i 0 T m)) (accT 0 i 0 T m) (accM 0 i 0 0 T m) x) :=
  (trLoad i h.st hf hr hu).mono fun _ _ k => h.goes k
theorem wFresh (h : WSt w b g tb ab ag tv mv T m x) (hf : Fine T) : Calls Try.prog 86 #[.pointer (some ⟨tb, 0, none⟩)] w fun e w' => e = .returned (.bool (fresh T)) ∧ w = w' := freshs h.st hf
theorem wDry (h : WSt w b g tb ab ag tv mv T m x) (hf : Fine T) : Calls Try.prog 52 #[.pointer (some ⟨tb, 0, none⟩)] w fun e w' => e = .returned (.bool (dry T)) ∧ w = w' := drys h.st hf
theorem wCell (h word : Int) (H : WSt w b g tb ab ag tv mv T m x) (hh : h ≤ 9223372036854775807) :
    Calls Try.prog 85 #[.pointer (some ⟨ab, 0, none⟩), .int .i64 h, .int .i64 word] w fun e w' => e = .returned (.int .i64 (cellOf x.fst x.l.length h word)) ∧ w = w' := cell_any h word H.ar hh
theorem wTouch (h : Int) {G : Int} (H : WSt w b g tb ab ag tv mv T m x) (hk : WiOk x G) (hh : h ≤ 9223372036854775807) :
    Calls Try.prog 87 #[.pointer (some ⟨ab, 0, none⟩), .int .i64 h] w (WGoes w b g tb ab ag tv mv (.tuple #[]) T m (evW x (.touch h))) :=
  (touch_any h G H.ar hk.gens hk.lo (by have := hk.hi; omega) hh).mono fun _ _ k => H.did (x' := evW x (.touch h)) k
end

/-- To read a word: a load of its cell; if it is fresh, the witness is told. -/
def readP (c h : Int) : WTask Int := .acc 0 c 0 0 fun v => .fsh fun b => if b then .tell (.touch h) (.ret v) else .ret v
theorem readP_play (c h : Int) (T : Tr) (m : Mm) :
    wplay (readP c h) T m = ⟨accV 0 c 0 T m, accT 0 c 0 T m, accM 0 c 0 0 T m, if fresh (accT 0 c 0 T m) then [.touch h] else []⟩ := by
  unfold readP
  simp only [wplay]
  cases fresh (accT 0 c 0 T m) <;> simp [wplay]

section
variable {w w1 w2 : World} {b g tb ab ag : Nat} {tv mv tv1 mv1 tv' mv' : Value} {T T' : Tr} {m m' : Mm} {x x' : Wi}
/-- What a step leaves: Q of the world behind the task's run, of all that is neither trail, memory nor arena. -/
structure WStepped (w : World) (b g tb ab ag : Nat) (tv mv : Value) (S : Nat → Prop) (Q : World → Prop) (T : Tr) (x : Wi) (time : Int) {α : Type} (u : WTurn α) (T' : Tr) (tv' mv' : Value) (w' : World) : Prop where
  st : WSt w' b g tb ab ag tv' mv' T' u.m (evsW x u.evs)
  told : T'.told = T.told ++ u.new
  over : T'.over = u.over
  ph : T'.ph = 0
  marks : T'.marks = T.marks ++ u.mks.map fun k => (k, time)
  only : Only (fun k => WAll b g tb ab ag tv mv k ∨ S k) w w'
  t : ∀ k, tv'.ownBlock = some k → tv.ownBlock = some k ∨ w.heap.size ≤ k
  m : ∀ k, mv'.ownBlock = some k → mv.ownBlock = some k ∨ w.heap.size ≤ k
  q : Q w'
/-- What the task's run leaves: the run of its program; in S may lie what it lays. -/
def WRan (w : World) (b g tb ab ag : Nat) (tv mv : Value) (S : Nat → Prop) (Q : World → Prop) {α : Type} (o : WOut α) (x : Wi) (e : Ending) (w' : World) : Prop :=
  e = .returned (.tuple #[]) ∧ ∃ tv' mv', WSt w' b g tb ab ag tv' mv' o.T o.m (evsW x o.evs) ∧ Only (fun k => WAll b g tb ab ag tv mv k ∨ S k) w w' ∧ (∀ k, tv'.ownBlock = some k → tv.ownBlock = some k ∨ w.heap.size ≤ k) ∧ (∀ k, mv'.ownBlock = some k → mv.ownBlock = some k ∨ w.heap.size ≤ k) ∧ Q w'
theorem task_tells {α : Type} (time : Int) (F : FuncId) (first : Array Value) (p : WTask α) (S : Nat → Prop) (Q : World → Prop)
    (hQ : ∀ W b' u, Q W → b' = tb → ∀ i, Q (W.setCell ⟨tb, i, none⟩ u))
    (hcf : ∀ w, (callFunc F (first.push (.pointer (some ⟨tb, 0, none⟩)))).run Try.prog w = .ok (.enter F (first.push (.pointer (some ⟨tb, 0, none⟩)))) w)
    (h : WSt w b g tb ab ag tv mv T m x) (ho : T.over = false) (hp : T.ph = 0)
    (hrun : Calls Try.prog F (first.push (.pointer (some ⟨tb, 0, none⟩))) (beganAt w tb time) (WRan (beganAt w tb time) b g tb ab ag tv mv S Q (wplay p (began time T) m) x)) :
    Calls Try.prog 32 #[.pointer (some ⟨tb, 0, none⟩), .int .i64 time, .func (.func F) first #[]] w fun e w' =>
      e = .returned (.bool (wturn p T.told m).over) ∧ ∃ T' tv' mv', WStepped w b g tb ab ag tv mv S Q T x time (wturn p T.told m) T' tv' mv' w' := by
  have hm0 := moved_began w b g tb tv mv time
  have hf0 : Fine (began time T) := ⟨.inr (.inl rfl), fun _ => Nat.zero_le _, fun _ => ho⟩
  obtain ⟨b1, b2, b3, b4, b5, b6, b7⟩ := began_wturn p time T m
  have ff := wplay_fine p (began time T) m hf0
  generalize wplay p (began time T) m = o at *
  refine (step_runs time F first
    (fun w1 T' m' tv' mv' => T' = o.T ∧ m' = o.m ∧ ArAt w1 ab ag (evsW x o.evs).fst (evsW x o.evs).l (evsW x o.evs).st (evsW x o.evs).db ∧ Only (fun k => WAll b g tb ab ag tv mv k ∨ S k) (beganAt w tb time) w1 ∧ (∀ k, tv'.ownBlock = some k → tv.ownBlock = some k ∨ (beganAt w tb time).heap.size ≤ k) ∧ (∀ k, mv'.ownBlock = some k → mv.ownBlock = some k ∨ (beganAt w tb time).heap.size ≤ k) ∧ Q w1)
    hcf h.st ho hp (hrun.mono ?_)).mono ?_
  · rintro e w1 ⟨rfl, tv', mv', s1, o1, t1, m1, q1⟩
    exact ⟨rfl, _, _, tv', mv', s1.st, ff, rfl, rfl, s1.ar, o1, t1, m1, q1⟩
  · rintro e w2 ⟨w1, T', m', tv', mv', rfl, s1, f1, ⟨rfl, rfl, a1, o1, t1, m1, q1⟩, rfl⟩
    have hs1 : WSt w1 b g tb ab ag tv' mv' o.T o.m (evsW x o.evs) := ⟨s1, a1⟩
    have me := moved_ended w1 b g tb tv' mv' (!dry o.T)
    have htb : ∀ k, k = tb → WAll b g tb ab ag tv mv k := fun k hk => .inl (.inr (.inr (.inl hk)))
    have oe : Only (fun k => k = tb) w1 (endedAt w1 tb (!dry o.T)) := ((Only.refl (fun k => k = tb) w1).setCell (p := ⟨tb, 3, none⟩) (.inl rfl) _).setCell (p := ⟨tb, 4, none⟩) (.inl rfl) _
    have hsz := hm0.only.size
    refine ⟨by rw [b7]; simp, Go.Proofs.Ytejkhnphplpkeaa.ended o.T, tv', mv', ⟨?_, ?_⟩, b4, ?_, rfl, b5, ?_, ?_, ?_, ?_⟩
    · have := s1.ended
      rw [b2] at this
      exact this
    · rw [← b3]
      exact hs1.ar.only oe (fun e => hs1.far (.inl rfl) (.inr (.inr (.inl e)))) (fun e => hs1.far (.inr rfl) (.inr (.inr (.inl e))))
    · show (!dry o.T) = _
      rw [b7]; simp
    · refine (hm0.only.mono (fun k _ hk => .inl (.inl hk))).trans (o1.trans (oe.mono (fun k _ hk => .inl (htb k hk))))
    · intro k hk
      rcases t1 k hk with h1 | h1
      · exact .inl h1
      · exact .inr (Nat.le_trans hsz h1)
    · intro k hk
      rcases m1 k hk with h1 | h1
      · exact .inl h1
      · exact .inr (Nat.le_trans hsz h1)
    · exact hQ _ tb _ (hQ _ tb _ q1 rfl 3) rfl 4
end
end Go.Proofs.Ytejkhnphplpkeaa
