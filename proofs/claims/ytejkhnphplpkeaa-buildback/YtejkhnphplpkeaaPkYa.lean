/-
  Texts of our own, one behind the other (SeekPure, SeekDo, SeekLook, SeekArea, SeekNd): what the laws' proofs rest on; each says at its head what it holds. No conditions.
-/
import Derived.Test.YtejkhnphplpkeaaPkXd
import Derived.Test.YtejkhnphplpkeaaPkWd
import Derived.Test.YtejkhnphplpkeaaPkWc
import Derived.Test.YtejkhnphplpkeaaPkWf
/-
  Layer 16, pure: its tasks as programs that read; what they come to, step by step on a trail, and alone.
-/
namespace Go.Proofs.Ytejkhnphplpkeaa
open Go.RowKit
set_option linter.unusedVariables false
variable {α β : Type}

/-- What a run leaves. -/
structure WEnd (α : Type) where
  a : α
  T : Tr
  m : Mm
  x : Wi
def wend (p : Sk α) (T : Tr) (m : Mm) (x : Wi) : WEnd α := ⟨(wplay p.toW T m).a, (wplay p.toW T m).T, (wplay p.toW T m).m, evsW x (wplay p.toW T m).evs⟩
/-- The witness behind a read. -/
def rdX (x : Wi) (h : Int) (T : Tr) : Wi := if fresh T then evW x (.touch h) else x
theorem wend_read (c h : Int) (f : Int → Sk α) (T : Tr) (m : Mm) (x : Wi) :
    wend (.read c h f) T m x = wend (f (accV 0 c 0 T m)) (accT 0 c 0 T m) (accM 0 c 0 0 T m) (rdX x h (accT 0 c 0 T m)) := by
  unfold wend rdX
  rw [Sk.toW_read]
  simp only [wplay]
  cases fresh (accT 0 c 0 T m) <;> simp [wplay, evsW_cons]
theorem wend_ask (f : Bool → Sk α) (T : Tr) (m : Mm) (x : Wi) : wend (.ask f) T m x = wend (f (dry T)) T m x := rfl
theorem wend_ret (a : α) (T : Tr) (m : Mm) (x : Wi) : wend (.ret a) T m x = ⟨a, T, m, x⟩ := rfl
theorem toW_bind (p : Sk α) (f : α → Sk β) : (p.bind f).toW = p.toW.bind fun a => (f a).toW := by
  induction p with
  | ret a => rfl
  | read c h g ih =>
    show (Sk.read c h fun x => (g x).bind f).toW = _
    rw [Sk.toW_read, Sk.toW_read]
    simp only [WTask.bind]
    congr 1
    funext v
    congr 1
    funext b
    cases b with
    | false => exact ih v
    | true => show WTask.tell (.touch h) _ = WTask.tell (.touch h) _; rw [ih v]
  | ask g ih =>
    show WTask.ask _ = WTask.ask _
    congr 1
    funext d
    exact ih d
theorem wend_bind (p : Sk α) (f : α → Sk β) (T : Tr) (m : Mm) (x : Wi) : wend (p.bind f) T m x = wend (f (wend p T m x).a) (wend p T m x).T (wend p T m x).m (wend p T m x).x := by
  unfold wend
  rw [toW_bind, wplay_bind]
  simp only [evsW_app]
theorem rdX_fst (x : Wi) (h : Int) (T : Tr) : (rdX x h T).fst = x.fst ∧ (rdX x h T).l = x.l := by
  unfold rdX
  split
  · exact ⟨rfl, rfl⟩
  · exact ⟨rfl, rfl⟩

/-! What was told, and what lies in the cells, is of 64 bits. -/
theorem fits_nth {l : List Int} (h : Fits l) (i : Nat) : -9223372036854775808 ≤ nth l i ∧ nth l i ≤ 9223372036854775807 := by
  by_cases hi : i < l.length
  · exact h i hi
  · rw [nth_out (by omega)]; omega
theorem fits_app {l : List Int} (h : Fits l) {v : Int} (h0 : -9223372036854775808 ≤ v) (h1 : v ≤ 9223372036854775807) : Fits (l ++ [v]) := by
  intro i hi
  rw [nth_app]
  split
  · exact fits_nth h i
  · have : i - l.length = 0 := by simp at hi; omega
    rw [this]
    exact ⟨h0, h1⟩
theorem rdv_fits {m : Mm} (h : Fits m.cs) (c : Int) : -9223372036854775808 ≤ rdv m c ∧ rdv m c ≤ 9223372036854775807 := by
  unfold rdv
  split
  · exact fits_nth h _
  · omega
theorem accV_fits {T : Tr} {m : Mm} (ht : Fits T.told) (hm : Fits m.cs) (c : Int) : -9223372036854775808 ≤ accV 0 c 0 T m ∧ accV 0 c 0 T m ≤ 9223372036854775807 := by
  have h1 := rdv_fits hm c
  rw [← rdv_told] at h1
  have h2 := fits_nth ht T.place
  unfold accV
  repeat' split
  all_goals omega
theorem accT_fits {T : Tr} {m : Mm} (ht : Fits T.told) (hm : Fits m.cs) (c : Int) : Fits (accT 0 c 0 T m).told := by
  have h1 := rdv_fits hm c
  rw [← rdv_told] at h1
  unfold accT
  repeat' split
  all_goals first | exact ht | exact fits_app ht h1.1 h1.2
theorem accM_cs (c : Int) (T : Tr) (m : Mm) : (accM 0 c 0 0 T m).cs = m.cs := by
  unfold accM
  split
  · exact (memOf_load c m).1
  · rfl

/-! The entries that a first word tells. -/
def entOk (v : Int) : Bool := decide (1 ≤ v.tdiv 16 ∧ v.tdiv 16 ≤ 8 ∧ (v.tmod 16 = 1 ∨ v.tmod 16 = 2))
def entK (v : Int) : Nat := if entOk v then (v.tdiv 16).toNat else 0
def entI (v : Int) : Bool := entOk v && (v.tmod 16 == 2)
theorem entK_hi (v : Int) : entK v ≤ 8 := by
  unfold entK
  split
  · rename_i h
    have := of_decide_eq_true h
    omega
  · omega
theorem entK_is {v : Int} (h : entOk v = true) : v.tdiv 16 = (entK v : Int) ∧ 1 ≤ entK v := by
  have h1 := of_decide_eq_true h
  unfold entK
  rw [if_pos h]
  omega

/-! What comes of words. -/
open Classical in
/-- The area, and whether it is dead. -/
noncomputable def areaOf (l : List Int) : Option (Ar × Bool) := if Formed (unA l) ∧ packA (unA l) (nth l 1 == 1) = l then some (unA l, nth l 1 == 1) else none
theorem areaOf_some {l : List Int} {a : Ar} {d : Bool} (hf : Formed a) (e : packA a d = l) : areaOf l = some (a, d) := by
  obtain ⟨e1, e2⟩ := un_packA a d
  rw [e] at e1 e2
  unfold areaOf
  rw [e1, e2, if_pos ⟨hf, e⟩]
theorem areaOf_none {l : List Int} (h : ∀ a d, Formed a → packA a d ≠ l) : areaOf l = none := by
  unfold areaOf
  rw [if_neg]
  rintro ⟨h1, h2⟩
  exact h _ _ h1 h2
/-- As it is told. -/
def areaV : Option (Ar × Bool) → Value
  | none => .tuple #[Ar.nil.v, .bool false, .bool false]
  | some (a, d) => .tuple #[a.v, .bool d, .bool true]
theorem unA_is {e : Ending} {l : List Int} (h : UnAnsA e l) : e = .returned (areaV (areaOf l)) := by
  rcases h with ⟨a, d, rfl, hf, hp⟩ | ⟨rfl, hn⟩
  · rw [areaOf_some hf hp]; rfl
  · rw [areaOf_none hn]; rfl
open Classical in
/-- The node. -/
noncomputable def nodeOf (l : List Int) : Option Nd := if h : ∃ n, NdF n ∧ packN n = l then some h.choose else none
theorem nodeOf_some {l : List Int} {n : Nd} (hf : NdF n) (e : packN n = l) : nodeOf l = some n := by
  have h : ∃ n, NdF n ∧ packN n = l := ⟨n, hf, e⟩
  unfold nodeOf
  rw [dif_pos h]
  have := h.choose_spec
  rw [pack_inj this.1.cnt hf.cnt (this.2.trans e.symm)]
theorem nodeOf_none {l : List Int} (h : ∀ n, NdF n → packN n ≠ l) : nodeOf l = none := by
  unfold nodeOf
  rw [dif_neg]
  rintro ⟨n, h1, h2⟩
  exact h n h1 h2
theorem nodeOf_is {l : List Int} {n : Nd} (h : nodeOf l = some n) : NdF n ∧ packN n = l := by
  unfold nodeOf at h
  split at h
  · rename_i hx
    injection h with h
    subst h
    exact hx.choose_spec
  · cases h

/-! The tasks: c tells where a word lies. -/
def lookFrom (c : Int → Int) (h addr : Int) (inner : Bool) : Nat → Nat → Sk (Int × Bool × Bool)
  | 0, _ => .ret (0, false, false)
  | n + 1, i => .read (c (2 + (i : Int))) h fun e => if e ≤ addr then lookFrom c h addr inner n (i + 1) else
      .read (c (10 + (i : Int))) h fun s => .ask fun d => .ret (if d then (0, false, false) else (s, inner, true))
def lookP (c : Int → Int) (h addr : Int) : Sk (Int × Bool × Bool) := .read (c 0) h fun v => if entOk v then lookFrom c h addr (entI v) (entK v) 0 else .ret (0, false, false)
noncomputable def areaFrom (c : Int → Int) (h : Int) : Nat → Nat → List Int → Sk (Option (Ar × Bool))
  | 0, _, l => .ask fun d => .ret (if d then none else areaOf l)
  | n + 1, i, l => .read (c (i : Int)) h fun v => areaFrom c h n (i + 1) (l.set i v)
noncomputable def areaP (c : Int → Int) (h : Int) : Sk (Option (Ar × Bool)) := areaFrom c h 8 0 (List.replicate 28 0)
noncomputable def nodeFrom (c : Int → Int) (h : Int) : Nat → Nat → List Int → Sk (Option Nd)
  | 0, _, l => .ask fun d => .ret (if d then none else nodeOf l)
  | n + 1, i, l => .read (c (2 + (i : Int))) h fun e => .read (c (10 + (i : Int))) h fun s => .read (c (18 + (i : Int))) h fun g => nodeFrom c h n (i + 1) (((l.set (2 + i) e).set (10 + i) s).set (18 + i) g)
noncomputable def nodeP (c : Int → Int) (h : Int) : Sk (Option Nd) := .read (c 0) h fun v => if entOk v then .read (c 1) h fun lo => nodeFrom c h (entK v) 0 (((List.replicate 28 0).set 0 v).set 1 lo) else .ret none
def wordP (c : Int → Int) (h word : Int) : Sk Int := .read (c word) h fun v => .ret v
end Go.Proofs.Ytejkhnphplpkeaa

/-
  Layer 16: a trail, its memory and an arena while a task reads: what a read leaves, and what else lies in memory.
-/
namespace Go.Proofs.Ytejkhnphplpkeaa
open Go.ChangeShapes Go.WideShapes Go.ChangeAt Go.RowKit
set_option linter.unusedVariables false

/-- A trail, its memory and an arena; n reads may still be done. -/
structure Sat (w : World) (b g tb ab ag : Nat) (tv mv : Value) (T : Tr) (m : Mm) (x : Wi) (G : Int) (n : Nat) : Prop where
  st : WSt w b g tb ab ag tv mv T m x
  fine : Fine T
  told : T.told.length + n ≤ 60000
  cnt : m.cnt + n ≤ 4611686018427387904
  wi : WiOk x G
  ft : Fits T.told
  fm : Fits m.cs

/-- A block beside them. -/
structure Beside (w : World) (b g tb ab ag : Nat) (tv mv : Value) (k : Nat) (t : TypeId) (cs : Array Value) : Prop where
  here : Whole w k t cs
  far : ¬ WAll b g tb ab ag tv mv k

section
variable {w w' w'' : World} {b g tb ab ag k i : Nat} {tv mv tv' mv' : Value} {T T' : Tr} {m m' : Mm} {x x' : Wi} {G : Int} {n n' : Nat} {t : TypeId} {cs : Array Value} {α : Type}
theorem Sat.less (h : Sat w b g tb ab ag tv mv T m x G n) (hn : n' ≤ n) : Sat w b g tb ab ag tv mv T m x G n' :=
  ⟨h.st, h.fine, by have := h.told; omega, by have := h.cnt; omega, h.wi, h.ft, h.fm⟩
theorem Sat.still (h : Sat w b g tb ab ag tv mv T m x G n) (hb : Below w.heap.size w w') : Sat w' b g tb ab ag tv mv T m x G n :=
  ⟨h.st.still hb, h.fine, h.told, h.cnt, h.wi, h.ft, h.fm⟩
theorem wall_lt (h : WSt w b g tb ab ag tv mv T m x) (ha : WAll b g tb ab ag tv mv k) : k < w.heap.size := by
  rcases ha with h1 | h1 | h1
  · rcases Nat.lt_or_ge k w.heap.size with h2 | h2
    · exact h2
    · exact (not_all_new (w' := w) h.st h2 h1).elim
  · rw [h1]; exact h.ar.top.lt
  · rw [h1]; exact h.ar.row.lt
theorem Beside.of_new (h : WSt w b g tb ab ag tv mv T m x) (hw : Whole w' k t cs) (hk : w.heap.size ≤ k) : Beside w' b g tb ab ag tv mv k t cs :=
  ⟨hw, fun ha => by have := wall_lt h ha; omega⟩
theorem Beside.moved (h : Beside w b g tb ab ag tv mv k t cs) (hm : WMoved w b g tb ab ag tv mv w' tv' mv') : Beside w' b g tb ab ag tv' mv' k t cs :=
  ⟨h.here.only hm.only h.far, fun ha => h.far (hm.all h.here.lt ha)⟩
theorem Beside.still (h : Beside w b g tb ab ag tv mv k t cs) (hb : Below w.heap.size w w') : Beside w' b g tb ab ag tv mv k t cs := ⟨h.here.below hb h.here.lt, h.far⟩
theorem Beside.put (h : Beside w b g tb ab ag tv mv k t cs) (i : Nat) (u : Value) : Beside (w.setCell ⟨k, i, none⟩ u) b g tb ab ag tv mv k t (cs.setIfInBounds i u) := ⟨h.here.put i u, h.far⟩
/-- A cell of a block beside them is written. -/
theorem WSt.beside (h : WSt w b g tb ab ag tv mv T m x) (hk : ¬ WAll b g tb ab ag tv mv k) (ho : Only (fun q => q = k) w w') : WSt w' b g tb ab ag tv mv T m x := by
  have hn : ∀ q, q = k → ¬ WAll b g tb ab ag tv mv q := fun q hq ha => hk (hq ▸ ha)
  refine ⟨⟨h.st.tr.only ho (fun e => hn _ e (.inl (.inr (.inr (.inl rfl))))) (fun q hq e => hn _ e (.inl (.inr (.inr (.inr (.inl hq)))))) (fun q hq e => hn _ e (.inl (.inr (.inr (.inr (.inr hq)))))), h.st.mem.only ho (fun e => hn _ e (.inl (.inl rfl))) (fun e => hn _ e (.inl (.inr (.inl rfl)))), h.st.apart⟩, h.ar.only ho (fun e => hn _ e (.inr (.inl rfl))) (fun e => hn _ e (.inr (.inr rfl)))⟩
theorem Sat.beside (h : Sat w b g tb ab ag tv mv T m x G n) (hk : ¬ WAll b g tb ab ag tv mv k) (ho : Only (fun q => q = k) w w') : Sat w' b g tb ab ag tv mv T m x G n :=
  ⟨h.st.beside hk ho, h.fine, h.told, h.cnt, h.wi, h.ft, h.fm⟩
theorem only_one (w : World) (k i : Nat) (u : Value) : Only (fun q => q = k) w (w.setCell ⟨k, i, none⟩ u) := (Only.refl (fun q => q = k) w).setCell (p := ⟨k, i, none⟩) (.inl rfl) u
theorem Beside.far_put {k2 : Nat} (h : Beside w b g tb ab ag tv mv k t cs) (hne : k ≠ k2) (i : Nat) (u : Value) : Beside (w.setCell ⟨k2, i, none⟩ u) b g tb ab ag tv mv k t cs := ⟨h.here.far (p := ⟨k2, i, none⟩) hne u, h.far⟩

/-- What a read of this cell leaves. -/
def RdPost (w : World) (b g tb ab ag : Nat) (tv mv : Value) (T : Tr) (m : Mm) (x : Wi) (G : Int) (n : Nat) (c h : Int) (e : Ending) (w' : World) : Prop :=
  ∃ (v : Int) (T' : Tr) (m' : Mm) (x' : Wi) (tv' mv' : Value), e = .returned (.int .i64 v) ∧ (-9223372036854775808 ≤ v ∧ v ≤ 9223372036854775807) ∧ Sat w' b g tb ab ag tv' mv' T' m' x' G n ∧ WMoved w b g tb ab ag tv mv w' tv' mv' ∧ (x'.fst = x.fst ∧ x'.l = x.l) ∧
    ∀ (α : Type) (f : Int → Sk α), wend (.read c h f) T m x = wend (f v) T' m' x'
theorem rdX_ok (h : WiOk x G) (k : Int) (T : Tr) : WiOk (rdX x k T) G := by
  unfold rdX
  split
  · exact h.touch k
  · exact h
set_option maxHeartbeats 1000000 in
theorem read_c (h word : Int) (H : Sat w b g tb ab ag tv mv T m x G (n + 1)) (hh : h ≤ 9223372036854775807) :
    Calls Try.prog 80 #[.pointer (some ⟨tb, 0, none⟩), .pointer (some ⟨ab, 0, none⟩), .int .i64 h, .int .i64 word] w (RdPost w b g tb ab ag tv mv T m x G n (cellOf x.fst x.l.length h word) h) := by
  have h1 := H.told
  have h2 := H.cnt
  have C := Lib.hid (wCell h word H.st hh)
  generalize hc : cellOf x.fst x.l.length h word = c at *
  have L := Lib.hid (wLoad c H.st H.fine (by omega) (by push_cast at h2; omega))
  have hf := accT_fine (k := 0) (i := c) (old := 0) (m := m) H.fine
  have FR : Hid (∀ w1 tv1 mv1, WSt w1 b g tb ab ag tv1 mv1 (accT 0 c 0 T m) (accM 0 c 0 0 T m) x → Calls Try.prog 86 #[.pointer (some ⟨tb, 0, none⟩)] w1 fun e w' => e = .returned (.bool (fresh (accT 0 c 0 T m))) ∧ w1 = w') := Lib.hid (fun w1 tv1 mv1 s => wFresh s hf)
  have TC : Hid (∀ w1 tv1 mv1, WSt w1 b g tb ab ag tv1 mv1 (accT 0 c 0 T m) (accM 0 c 0 0 T m) x → Calls Try.prog 87 #[.pointer (some ⟨ab, 0, none⟩), .int .i64 h] w1 (WGoes w1 b g tb ab ag tv1 mv1 (.tuple #[]) (accT 0 c 0 T m) (accM 0 c 0 0 T m) (evW x (.touch h)))) := Lib.hid (fun w1 tv1 mv1 s => wTouch h s H.wi hh)
  have FIN : Hid (∀ w1 tv1 mv1, WSt w1 b g tb ab ag tv1 mv1 (accT 0 c 0 T m) (accM 0 c 0 0 T m) (rdX x h (accT 0 c 0 T m)) → WMoved w b g tb ab ag tv mv w1 tv1 mv1 → RdPost w b g tb ab ag tv mv T m x G n c h (.returned (.int .i64 (accV 0 c 0 T m))) w1) := Lib.hid (fun w1 tv1 mv1 s mo =>
    ⟨_, _, _, _, tv1, mv1, rfl, accV_fits H.ft H.fm c, ⟨s, hf, by have := (accT_len 0 c 0 T m).1; omega, by have := accM_cnt 0 c 0 0 T m; push_cast at h2; omega, rdX_ok H.wi h _, accT_fits H.ft H.fm c, by rw [accM_cs]; exact H.fm⟩, mo, rdX_fst .., fun α f => wend_read c h f T m x⟩)
  have HF : Hid (rdX x h (accT 0 c 0 T m) = if fresh (accT 0 c 0 T m) = true then evW x (.touch h) else x) := Lib.hid rfl
  clear H hc h1 h2 hf
  generalize accT 0 c 0 T m = T1 at *
  generalize accM 0 c 0 0 T m = m1 at *
  generalize accV 0 c 0 T m = v at *
  generalize rdX x h T1 = x1 at *
  generalize RdPost w b g tb ab ag tv mv T m x G n c h = R at *
  go_enter Try.func80, Try.ntmps80
  go_wp2_with fail
  refine C.out.mono ?_
  rintro e w0 ⟨rfl, rfl⟩
  go_wp2_with fail
  refine L.out.mono ?_
  rintro e w1 ⟨rfl, tv1, mv1, s1, mo1⟩
  have S1 := Lib.hid s1
  have M1 := Lib.hid mo1
  have F1 := Lib.hid (FR.out _ _ _ s1)
  have T1' := Lib.hid (TC.out _ _ _ s1)
  clear s1 mo1 L C FR TC
  go_wp2_with fail
  refine F1.out.mono ?_
  rintro e w2 ⟨rfl, rfl⟩
  cases hfr : fresh T1 with
  | false =>
    have FX : Hid (R (.returned (.int .i64 v)) w1) := Lib.hid (FIN.out _ _ _ (by rw [HF.out, hfr]; exact S1.out) M1.out)
    clear hfr FIN HF F1 T1'
    go_wp2_with fail
    exact FX.out
  | true =>
    have FX : Hid (∀ w2 tv2 mv2, WSt w2 b g tb ab ag tv2 mv2 T1 m1 (evW x (.touch h)) → WMoved w1 b g tb ab ag tv1 mv1 w2 tv2 mv2 → R (.returned (.int .i64 v)) w2) := Lib.hid (fun w2 tv2 mv2 s mo => FIN.out _ _ _ (by rw [HF.out, hfr]; exact s) (M1.out.trans mo))
    clear hfr FIN HF F1
    go_wp2_with fail
    refine T1'.out.mono ?_
    rintro e w2 ⟨rfl, tv2, mv2, s2, mo2⟩
    have FY := Lib.hid (FX.out _ _ _ s2 mo2)
    clear s2 mo2 FX T1'
    go_wp2_with fail
    exact FY.out

theorem dry_c (H : Sat w b g tb ab ag tv mv T m x G n) : Calls Try.prog 52 #[.pointer (some ⟨tb, 0, none⟩)] w fun e w' => e = .returned (.bool (dry T)) ∧ w = w' := wDry H.st H.fine
end

/-- What a first word tells. -/
theorem entries_c (v : Int) (h0 : -9223372036854775808 ≤ v) (h1 : v ≤ 9223372036854775807) (w : World) :
    Calls Try.prog 79 #[.int .i64 v] w fun e w' => e = .returned (.tuple #[.int .i64 (entK v), .bool (entI v), .bool (entOk v)]) ∧ w = w' := by
  have hd := div16 h0 h1
  have hw : IntKind.i64.wrap (v.tdiv 16) = v.tdiv 16 := by rw [IntKind.wrap_i64]; omega
  have hm : -16 < v.tmod 16 ∧ v.tmod 16 < 16 := ⟨Int.lt_tmod_of_pos v (by omega), Int.tmod_lt_of_pos v (by omega)⟩
  have hw2 : IntKind.i64.wrap (v.tmod 16) = v.tmod 16 := by rw [IntKind.wrap_i64]; omega
  have hw3 : wrap64 (v.tdiv 16) = v.tdiv 16 := by unfold wrap64; omega
  have hw4 : wrap64 (v.tmod 16) = v.tmod 16 := by unfold wrap64; omega
  have K : Hid (entK v = (if 1 ≤ v.tdiv 16 ∧ v.tdiv 16 ≤ 8 ∧ (v.tmod 16 = 1 ∨ v.tmod 16 = 2) then (v.tdiv 16).toNat else 0) ∧ entI v = (decide (1 ≤ v.tdiv 16 ∧ v.tdiv 16 ≤ 8 ∧ (v.tmod 16 = 1 ∨ v.tmod 16 = 2)) && (v.tmod 16 == 2)) ∧ entOk v = decide (1 ≤ v.tdiv 16 ∧ v.tdiv 16 ≤ 8 ∧ (v.tmod 16 = 1 ∨ v.tmod 16 = 2))) := Lib.hid (by
    refine ⟨?_, rfl, rfl⟩
    unfold entK entOk
    simp)
  rw [K.out.1, K.out.2.1, K.out.2.2]
  clear K h0 h1 hd hm
  have fin : ∀ (k : Nat) (a c : Bool), Calls Try.prog 79 #[.int .i64 v] w (fun e w' => e = .returned (.tuple #[.int .i64 k, .bool a, .bool c]) ∧ w = w') → ∀ (k' : Nat) (a' c' : Bool), k = k' → a = a' → c = c' → Calls Try.prog 79 #[.int .i64 v] w (fun e w' => e = .returned (.tuple #[.int .i64 k', .bool a', .bool c']) ∧ w = w') := by
    rintro k a c h k' a' c' rfl rfl rfl
    exact h
  by_cases a1 : v.tdiv 16 < 1
  · have e : decide (1 ≤ v.tdiv 16 ∧ v.tdiv 16 ≤ 8 ∧ (v.tmod 16 = 1 ∨ v.tmod 16 = 2)) = false := decide_eq_false (by omega)
    refine fin 0 false false ?_ _ _ _ (by rw [if_neg (by omega)]) (by rw [e]; rfl) (by rw [e])
    clear e fin
    have d1 : decide (v.tdiv 16 < 1) = true := decide_eq_true a1
    go_enter Try.func79, Try.ntmps79
    go_wp2
    go_ret3
    exact ⟨rfl, rfl⟩
  · have d1 : decide (v.tdiv 16 < 1) = false := decide_eq_false a1
    by_cases a2 : 8 < v.tdiv 16
    · have e : decide (1 ≤ v.tdiv 16 ∧ v.tdiv 16 ≤ 8 ∧ (v.tmod 16 = 1 ∨ v.tmod 16 = 2)) = false := decide_eq_false (by omega)
      refine fin 0 false false ?_ _ _ _ (by rw [if_neg (by omega)]) (by rw [e]; rfl) (by rw [e])
      clear e fin
      have d2 : decide (8 < v.tdiv 16) = true := decide_eq_true a2
      go_enter Try.func79, Try.ntmps79
      go_wp2
      go_ret3
      exact ⟨rfl, rfl⟩
    · have d2 : decide (8 < v.tdiv 16) = false := decide_eq_false a2
      obtain ⟨q, hq⟩ : ∃ q : Nat, v.tdiv 16 = (q : Int) := ⟨(v.tdiv 16).toNat, by omega⟩
      by_cases a3 : v.tmod 16 = 1
      · have e : decide (1 ≤ v.tdiv 16 ∧ v.tdiv 16 ≤ 8 ∧ (v.tmod 16 = 1 ∨ v.tmod 16 = 2)) = true := decide_eq_true (by omega)
        refine fin q false true ?_ _ _ _ (by rw [if_pos (by omega)]; omega) (by rw [e, a3]; rfl) (by rw [e])
        clear e fin
        rw [hq] at hw hw3 d1 d2 a1 a2
        go_enter Try.func79, Try.ntmps79
        go_wp2
        go_ret3
        exact ⟨rfl, rfl⟩
      · by_cases a4 : v.tmod 16 = 2
        · have e : decide (1 ≤ v.tdiv 16 ∧ v.tdiv 16 ≤ 8 ∧ (v.tmod 16 = 1 ∨ v.tmod 16 = 2)) = true := decide_eq_true (by omega)
          refine fin q true true ?_ _ _ _ (by rw [if_pos (by omega)]; omega) (by rw [e, a4]; rfl) (by rw [e])
          clear e fin
          rw [hq] at hw hw3 d1 d2 a1 a2
          go_enter Try.func79, Try.ntmps79
          go_wp2
          go_ret3
          exact ⟨rfl, rfl⟩
        · have e : decide (1 ≤ v.tdiv 16 ∧ v.tdiv 16 ≤ 8 ∧ (v.tmod 16 = 1 ∨ v.tmod 16 = 2)) = false := decide_eq_false (by omega)
          refine fin 0 false false ?_ _ _ _ (by rw [if_neg (by omega)]) (by rw [e]; rfl) (by rw [e])
          have n1 : (v.tmod 16 != 1) = true := bne_iff_ne.2 a3
          have n2 : (v.tmod 16 != 2) = true := bne_iff_ne.2 a4
          clear e fin
          rw [hq] at hw hw3 d1 d2 a1 a2
          go_enter Try.func79, Try.ntmps79
          go_wp2
          go_ret3
          exact ⟨rfl, rfl⟩
end Go.Proofs.Ytejkhnphplpkeaa

/-
  Layer 16: looking for an address: a contract for the call.
-/
namespace Go.Proofs.Ytejkhnphplpkeaa
open Go.ChangeShapes Go.WideShapes Go.ChangeAt Go.RowKit
set_option linter.unusedVariables false

/-- What a call that reads leaves: of its answer A, and all else as its program says. -/
def SkPost (w : World) (b g tb ab ag : Nat) (tv mv : Value) (G : Int) (n : Nat) {α : Type} (A : α → Value → World → Prop) (o : WEnd α) (e : Ending) (w' : World) : Prop :=
  ∃ val tv' mv', e = .returned val ∧ A o.a val w' ∧ Sat w' b g tb ab ag tv' mv' o.T o.m o.x G n ∧ WMoved w b g tb ab ag tv mv w' tv' mv'
def lookV (r : Int × Bool × Bool) : Value := .tuple #[.int .i64 r.1, .bool r.2.1, .bool r.2.2]

section
variable {w w' w'' : World} {b g tb ab ag k i : Nat} {tv mv tv' mv' : Value} {T T' : Tr} {m m' : Mm} {x x' : Wi} {G : Int} {n n' : Nat}
/-- Where its loop stands. -/
def SkLookRel (w : World) (b g tb ab ag : Nat) (tv mv : Value) (x : Wi) (G : Int) (n : Nat) (O : WEnd (Int × Bool × Bool)) (h addr : Int) (inn : Bool) (K : Nat) (iv : Value) (wr : World) : Prop :=
  ∃ (r : Nat) (tv' mv' : Value) (T' : Tr) (m' : Mm) (x' : Wi), r ≤ K ∧ iv = .int .i64 r ∧ Sat wr b g tb ab ag tv' mv' T' m' x' G (n + 9 - r) ∧ WMoved w b g tb ab ag tv mv wr tv' mv' ∧ (x'.fst = x.fst ∧ x'.l = x.l) ∧
    O = wend (lookFrom (cellOf x.fst x.l.length h) h addr inn (K - r) r) T' m' x'
set_option maxHeartbeats 4000000 in
theorem look_c (h addr : Int) (H : Sat w b g tb ab ag tv mv T m x G (n + 10)) (hh : h ≤ 9223372036854775807) :
    Calls Try.prog 71 #[.pointer (some ⟨tb, 0, none⟩), .pointer (some ⟨ab, 0, none⟩), .int .i64 h, .int .i64 addr] w (SkPost w b g tb ab ag tv mv G n (fun r v _ => v = lookV r) (wend (lookP (cellOf x.fst x.l.length h) h addr) T m x)) := by
  have hnot : ∀ (x : Bool) (w : World), (Op.unary .not (.bool x)).run Try.prog w = .ok (.bool (!x)) w := fun _ _ => rfl
  have R0 := Lib.hid (read_c (n := n + 9) h 0 H hh)
  obtain ⟨O, hO⟩ : ∃ O, wend (lookP (cellOf x.fst x.l.length h) h addr) T m x = O := ⟨_, rfl⟩
  have HO := Lib.hid hO
  rw [hO]
  clear H hO
  obtain ⟨R, hR⟩ : ∃ R, SkPost w b g tb ab ag tv mv G n (fun r v _ => v = lookV r) O = R := ⟨_, rfl⟩
  rw [hR]
  have FIN : Hid (∀ w1 tv1 mv1 (r : Int × Bool × Bool) T1 m1 x1, O = ⟨r, T1, m1, x1⟩ → Sat w1 b g tb ab ag tv1 mv1 T1 m1 x1 G n → WMoved w b g tb ab ag tv mv w1 tv1 mv1 → R (.returned (lookV r)) w1) := Lib.hid (by
    intro w1 tv1 mv1 r T1 m1 x1 e s mo
    rw [← hR, e]
    exact ⟨_, tv1, mv1, rfl, rfl, s, mo⟩)
  clear hR
  unfold lookV at FIN
  go_enter Try.func71, Try.ntmps71
  go_wp2_with fail
  refine R0.out.mono ?_
  rintro e w1 ⟨v, T1, m1, x1, tv1, mv1, rfl, hv, s1, mo1, hx1, e1⟩
  have S1 := Lib.hid s1
  have M1 := Lib.hid mo1
  have X1 := Lib.hid hx1
  have E1 : Hid (O = wend (if entOk v then lookFrom (cellOf x.fst x.l.length h) h addr (entI v) (entK v) 0 else .ret (0, false, false)) T1 m1 x1) := Lib.hid (by rw [← HO.out]; exact e1 _ _)
  have EN := Lib.hid (entries_c v hv.1 hv.2 w1)
  clear s1 mo1 hx1 e1 hv HO R0
  go_wp2_with fail
  refine EN.out.mono ?_
  rintro e w2 ⟨rfl, rfl⟩
  clear EN
  cases hk : entOk v with
  | false =>
    rw [hk] at E1
    have FX : Hid (R (.returned (.tuple #[.int .i64 0, .bool false, .bool false])) w1) := Lib.hid (FIN.out _ _ _ (0, false, false) _ _ _ E1.out (S1.out.less (by omega)) M1.out)
    clear FIN E1 S1 M1 X1
    go_wp2_with fail
    go_ret3
    exact FX.out
  | true =>
    rw [hk] at E1
    have hK := entK_hi v
    have L0 : Hid (SkLookRel w b g tb ab ag tv mv x G n O h addr (entI v) (entK v) (.int .i64 0) w1) := Lib.hid ⟨0, tv1, mv1, T1, m1, x1, by omega, rfl, S1.out, M1.out, X1.out, E1.out⟩
    clear hk E1 S1 M1 X1
    generalize entI v = inn at *
    generalize entK v = K at *
    go_wp2_with fail
    go_loopw [28] (fun iv wr => SkLookRel w b g tb ab ag tv mv x G n O h addr inn K iv wr) (fun iv _ => K - (intOf iv).toNat)
    case atStart => exact L0.out
    case round =>
      obtain ⟨r, tv2, mv2, T2, m2, x2, hr, rfl, s2, mo2, hx2, e2⟩ := hrel
      clear L0
      by_cases hlt : r < K
      · obtain ⟨N, hN⟩ : ∃ N, n + 9 - r = (N + 1) + 1 ∧ n ≤ N ∧ N + 1 = n + 9 - (r + 1) := ⟨n + 7 - r, by omega, by omega, by omega⟩
        rw [hN.1] at s2
        have R2 := Lib.hid (read_c (n := N + 1) h (2 + (r : Int)) s2 hh)
        rw [hx2.1, hx2.2] at R2
        have hsub : K - r = (K - (r + 1)) + 1 := by omega
        rw [hsub] at e2
        have E2 := Lib.hid e2
        have M2 := Lib.hid mo2
        have X2 := Lib.hid hx2
        clear s2 mo2 hx2 e2 hsub
        have hw1 : IntKind.i64.wrap (2 + (r : Int)) = 2 + (r : Int) := by rw [IntKind.wrap_i64]; omega
        have hw2 : IntKind.i64.wrap (10 + (r : Int)) = 10 + (r : Int) := by rw [IntKind.wrap_i64]; omega
        go_wp2_with fail
        refine R2.out.mono ?_
        rintro e w3 ⟨u, T3, m3, x3, tv3, mv3, rfl, hu, s3, mo3, hx3, e3⟩
        have E3 : Hid (O = wend (if u ≤ addr then lookFrom (cellOf x.fst x.l.length h) h addr inn (K - (r + 1)) (r + 1) else .read (cellOf x.fst x.l.length h (10 + (r : Int))) h fun s => .ask fun d => .ret (if d then (0, false, false) else (s, inn, true))) T3 m3 x3) := Lib.hid (E2.out.trans (e3 _ _))
        have S3 := Lib.hid s3
        have M3 := Lib.hid (M2.out.trans mo3)
        have X3 : Hid (x3.fst = x.fst ∧ x3.l = x.l) := Lib.hid ⟨hx3.1.trans X2.out.1, hx3.2.trans X2.out.2⟩
        clear s3 mo3 hx3 e3 hu E2 M2 X2 R2
        by_cases hle : u ≤ addr
        · rw [if_pos hle] at E3
          go_wp2_with fail
          go_roundw
          case rel => exact ⟨r + 1, tv3, mv3, T3, m3, x3, by omega, by go_num, by rw [← hN.2.2]; exact S3.out, M3.out, X3.out, E3.out⟩
          case measure => simp [intOf]; omega
        · rw [if_neg hle] at E3
          have R4 := Lib.hid (read_c (n := N) h (10 + (r : Int)) S3.out hh)
          rw [X3.out.1, X3.out.2] at R4
          clear S3
          go_wp2_with fail
          refine R4.out.mono ?_
          rintro e w4 ⟨s, T4, m4, x4, tv4, mv4, rfl, hs, s4, mo4, hx4, e4⟩
          have D4 := Lib.hid (dry_c s4)
          have FX := Lib.hid (FIN.out _ _ _ (if dry T4 then (0, false, false) else (s, inn, true)) _ _ _ (E3.out.trans ((e4 _ _).trans (wend_ask _ _ _ _))) (s4.less hN.2.1) (M3.out.trans mo4))
          clear s4 mo4 hx4 e4 hs FIN E3 M3 X3 R4
          go_wp2_with fail
          refine D4.out.mono ?_
          rintro e w5 ⟨rfl, rfl⟩
          clear D4
          cases hd : dry T4 with
          | false =>
            rw [hd] at FX
            go_wp2_with fail
            go_ret3
            exact FX.out
          | true =>
            rw [hd] at FX
            go_wp2_with fail
            go_ret3
            exact FX.out
      · have hrK : r = K := by omega
        subst hrK
        have e0 : r - r = 0 := by omega
        rw [e0] at e2
        have FX : Hid (R (.returned (.tuple #[.int .i64 0, .bool false, .bool false])) wr) := Lib.hid (FIN.out _ _ _ (0, false, false) _ _ _ e2 (s2.less (by omega)) mo2)
        clear s2 mo2 hx2 e2 FIN
        go_wp2_with fail
        go_ret3
        exact FX.out
end
end Go.Proofs.Ytejkhnphplpkeaa

/-
  Layer 16: reading an area: a contract for the call.
-/
namespace Go.Proofs.Ytejkhnphplpkeaa
open Go.ChangeShapes Go.WideShapes Go.ChangeAt Go.RowKit
set_option linter.unusedVariables false

section
variable {w w' w'' : World} {b g tb ab ag k i q0 q1 : Nat} {tv mv tv' mv' : Value} {T T' : Tr} {m m' : Mm} {x x' : Wi} {G : Int} {n n' : Nat}
theorem WMoved.put (h : WMoved w b g tb ab ag tv mv w' tv' mv') (hk : w.heap.size ≤ k) (i : Nat) (u : Value) : WMoved w b g tb ab ag tv mv (w'.setCell ⟨k, i, none⟩ u) tv' mv' :=
  ⟨h.only.setCell (p := ⟨k, i, none⟩) (.inr hk) u, h.t, h.m⟩
theorem WMoved.then_only (h : WMoved w b g tb ab ag tv mv w' tv' mv') (hk : w.heap.size ≤ k) (ho : Only (fun q => q = k) w' w'') : WMoved w b g tb ab ag tv mv w'' tv' mv' :=
  ⟨⟨ho.os.trans h.only.os, ho.tape.trans h.only.tape, ho.output.trans h.only.output, Nat.le_trans h.only.size ho.size, fun j hj hn => (ho.block j (Nat.lt_of_lt_of_le hj h.only.size) (by omega)).trans (h.only.block j hj hn)⟩, h.t, h.m⟩
theorem WMoved.then_below (h : WMoved w b g tb ab ag tv mv w' tv' mv') (hb : Below w'.heap.size w' w'') : WMoved w b g tb ab ag tv mv w'' tv' mv' :=
  ⟨h.only.trans (Only.of_below hb _), h.t, h.m⟩
theorem areaFrom_end (c : Int → Int) (h : Int) (i : Nat) (l : List Int) : areaFrom c h 0 i l = .ask fun d => .ret (if d then none else areaOf l) := rfl
theorem areaFrom_next (c : Int → Int) (h : Int) (n i : Nat) (l : List Int) : areaFrom c h (n + 1) i l = .read (c (i : Int)) h fun v => areaFrom c h n (i + 1) (l.set i v) := rfl
/-- Where its loop stands. -/
def AreaRel (w : World) (b g tb ab ag : Nat) (tv mv : Value) (x : Wi) (G : Int) (n : Nat) (O : WEnd (Option (Ar × Bool))) (h : Int) (q0 q1 : Nat) (iv : Value) (wr : World) : Prop :=
  ∃ (r : Nat) (L : List Int) (tv' mv' : Value) (T' : Tr) (m' : Mm) (x' : Wi), r ≤ 8 ∧ iv = .int .i64 r ∧ L.length = 28 ∧ Sat wr b g tb ab ag tv' mv' T' m' x' G (n + (8 - r)) ∧ WMoved w b g tb ab ag tv mv wr tv' mv' ∧ (x'.fst = x.fst ∧ x'.l = x.l) ∧
    Beside wr b g tb ab ag tv' mv' q0 74 zeroA ∧ Beside wr b g tb ab ag tv' mv' q1 2 (nums L) ∧
    O = wend (areaFrom (cellOf x.fst x.l.length h) h (8 - r) r L) T' m' x'
theorem area_cells (a : Ar) : a.v = .agg #[.int .i64 a.s, .int .i64 a.e, .int .i64 a.p, .bool a.sh, .int .i64 a.bk, .int .i64 a.off] := rfl
end
end Go.Proofs.Ytejkhnphplpkeaa

/-
  Layer 16: reading a node: a contract for the call.
-/
namespace Go.Proofs.Ytejkhnphplpkeaa
open Go.ChangeShapes Go.WideShapes Go.ChangeAt Go.RowKit
set_option linter.unusedVariables false

section
variable {w0 w w' w'' : World} {b g tb ab ag k i p0 p1 p2 p3 p5 q4 : Nat} {tv0 mv0 tv mv tv' mv' : Value} {T T' : Tr} {m m' : Mm} {x x' : Wi} {G h : Int} {n n' : Nat} {L : List Int}
/-- What the closure has: the trail, the arena, the handle, the words. -/
structure Clo (w : World) (b g tb ab ag : Nat) (tv mv : Value) (p0 p1 p2 p5 q4 p3 : Nat) (h : Int) (L : List Int) : Prop where
  c0 : Beside w b g tb ab ag tv mv p0 63 #[.pointer (some ⟨tb, 0, none⟩)]
  c1 : Beside w b g tb ab ag tv mv p1 55 #[.pointer (some ⟨ab, 0, none⟩)]
  c2 : Beside w b g tb ab ag tv mv p2 2 #[.int .i64 h]
  c5 : Beside w b g tb ab ag tv mv p5 27 #[.slice (some ⟨q4, 0, none⟩) 28 28]
  row : Beside w b g tb ab ag tv mv q4 2 (nums L)
  res : Beside w b g tb ab ag tv mv p3 34 nilC
  len : L.length = 28
  ne : p2 ≠ q4
theorem Clo.moved (c : Clo w b g tb ab ag tv mv p0 p1 p2 p5 q4 p3 h L) (hm : WMoved w b g tb ab ag tv mv w' tv' mv') : Clo w' b g tb ab ag tv' mv' p0 p1 p2 p5 q4 p3 h L :=
  ⟨c.c0.moved hm, c.c1.moved hm, c.c2.moved hm, c.c5.moved hm, c.row.moved hm, c.res.moved hm, c.len, c.ne⟩
theorem Clo.put (c : Clo w b g tb ab ag tv mv p0 p1 p2 p5 q4 p3 h L) (i : Nat) (v : Int) : Clo (w.setCell ⟨q4, i, none⟩ (.int .i64 v)) b g tb ab ag tv mv p0 p1 p2 p5 q4 p3 h (L.set i v) := by
  refine ⟨c.c0.far_put (c.c0.here.apart c.row.here (by decide)) _ _, c.c1.far_put (c.c1.here.apart c.row.here (by decide)) _ _, c.c2.far_put c.ne _ _, c.c5.far_put (c.c5.here.apart c.row.here (by decide)) _ _, ?_, c.res.far_put (c.res.here.apart c.row.here (by decide)) _ _, by rw [List.length_set]; exact c.len, c.ne⟩
  rw [← nums_set]
  exact c.row.put i _
/-- What it leaves. -/
def CloPost (w0 : World) (b g tb ab ag : Nat) (tv0 mv0 : Value) (T : Tr) (m : Mm) (x : Wi) (G : Int) (n : Nat) (p0 p1 p2 p5 q4 p3 : Nat) (c h : Int) (i : Nat) (L : List Int) (e : Ending) (w' : World) : Prop :=
  ∃ (v : Int) (T' : Tr) (m' : Mm) (x' : Wi) (tv' mv' : Value), e = .returned (.int .i64 v) ∧ (-9223372036854775808 ≤ v ∧ v ≤ 9223372036854775807) ∧ Sat w' b g tb ab ag tv' mv' T' m' x' G n ∧ WMoved w0 b g tb ab ag tv0 mv0 w' tv' mv' ∧ (x'.fst = x.fst ∧ x'.l = x.l) ∧
    Clo w' b g tb ab ag tv' mv' p0 p1 p2 p5 q4 p3 h (L.set i v) ∧ ∀ (α : Type) (f : Int → Sk α), wend (.read c h f) T m x = wend (f v) T' m' x'
set_option maxHeartbeats 4000000 in
theorem node1_c (i : Nat) (hi : i < 28) (H : Sat w b g tb ab ag tv mv T m x G (n + 1)) (C : Clo w b g tb ab ag tv mv p0 p1 p2 p5 q4 p3 h L) (M : WMoved w0 b g tb ab ag tv0 mv0 w tv mv) (hq : w0.heap.size ≤ q4) (hh : h ≤ 9223372036854775807) :
    Calls Try.prog 88 #[.int .i64 i, .pointer (some ⟨p0, 0, none⟩), .pointer (some ⟨p1, 0, none⟩), .pointer (some ⟨p2, 0, none⟩), .pointer (some ⟨p5, 0, none⟩)] w
      (CloPost w0 b g tb ab ag tv0 mv0 T m x G n p0 p1 p2 p5 q4 p3 (cellOf x.fst x.l.length h (i : Int)) h i L) := by
  have B := Lib.hid (below_drew (Below.refl w.heap.size w))
  have R2 := Lib.hid (read_c (n := n) h (i : Int) (H.still B.out) hh)
  have HC := Lib.hid C
  have HM := Lib.hid M
  have HB := Lib.hid B.out
  clear H C M
  obtain ⟨R, hR⟩ : ∃ R, CloPost w0 b g tb ab ag tv0 mv0 T m x G n p0 p1 p2 p5 q4 p3 (cellOf x.fst x.l.length h (i : Int)) h i L = R := ⟨_, rfl⟩
  rw [hR]
  have FIN : Hid (∀ w1 (v : Int) T1 m1 x1 tv1 mv1, (-9223372036854775808 ≤ v ∧ v ≤ 9223372036854775807) → Sat w1 b g tb ab ag tv1 mv1 T1 m1 x1 G n → WMoved w.drew b g tb ab ag tv mv w1 tv1 mv1 → (x1.fst = x.fst ∧ x1.l = x.l) → (∀ (α : Type) (f : Int → Sk α), wend (.read (cellOf x.fst x.l.length h (i : Int)) h f) T m x = wend (f v) T1 m1 x1) → R (.returned (.int .i64 v)) (w1.setCell ⟨q4, i, none⟩ (.int .i64 v))) := Lib.hid (by
    intro w1 v T1 m1 x1 tv1 mv1 hv s mo hx e
    have M2 := (WMoved.still HB.out b g tb ab ag tv mv).trans mo
    have C1 := HC.out.moved M2
    rw [← hR]
    exact ⟨v, T1, m1, x1, tv1, mv1, rfl, hv, s.beside C1.row.far (only_one ..), (HM.out.trans M2).put hq _ _, hx, C1.put i v, e⟩)
  clear hR
  have d0 : w.cell? ⟨p0, 0, none⟩ = some (.pointer (some ⟨tb, 0, none⟩)) := HC.out.c0.here.cell 0
  have d1 : w.cell? ⟨p1, 0, none⟩ = some (.pointer (some ⟨ab, 0, none⟩)) := HC.out.c1.here.cell 0
  have d2 : w.cell? ⟨p2, 0, none⟩ = some (.int .i64 h) := HC.out.c2.here.cell 0
  have d5 : w.cell? ⟨p5, 0, none⟩ = some (.slice (some ⟨q4, 0, none⟩) 28 28) := HC.out.c5.here.cell 0
  have i0 : (i : Int) < 28 := by omega
  go_enter Try.func88, Try.ntmps88
  have K0 : Hid (∀ W tv1 mv1 l, Clo W b g tb ab ag tv1 mv1 p0 p1 p2 p5 q4 p3 h l → (W.cell? ⟨p0, 0, none⟩ = some (.pointer (some ⟨tb, 0, none⟩)) ∧ W.cell? ⟨p1, 0, none⟩ = some (.pointer (some ⟨ab, 0, none⟩)) ∧ W.cell? ⟨p2, 0, none⟩ = some (.int .i64 h) ∧ W.cell? ⟨p5, 0, none⟩ = some (.slice (some ⟨q4, 0, none⟩) 28 28))) := Lib.hid (fun W tv1 mv1 l c => ⟨c.c0.here.cell 0, c.c1.here.cell 0, c.c2.here.cell 0, c.c5.here.cell 0⟩)
  have HD : Hid (Clo w.drew b g tb ab ag tv mv p0 p1 p2 p5 q4 p3 h L) := Lib.hid (HC.out.moved (WMoved.still HB.out b g tb ab ag tv mv))
  clear d0 d1 d2 d5
  go_upto_region 1 with (fail)
  go_region_held3 (fun W => W.cell? ⟨p0, 0, none⟩ = some (.pointer (some ⟨tb, 0, none⟩)) ∧ W.cell? ⟨p1, 0, none⟩ = some (.pointer (some ⟨ab, 0, none⟩)) ∧ W.cell? ⟨p2, 0, none⟩ = some (.int .i64 h) ∧ W.cell? ⟨p5, 0, none⟩ = some (.slice (some ⟨q4, 0, none⟩) 28 28))
    (first | with_reducible exact K0.out _ _ _ _ HD.out | with_reducible exact K0.out _ _ _ _ C3.out | with_reducible exact K0.out _ _ _ _ C4.out)
    (first
    | (go_at_call 80; refine R2.out.mono ?_; rintro e w3 ⟨v, T3, m3, x3, tv3, mv3, rfl, hv, s3, mo3, hx3, e3⟩; have FX := Lib.hid (FIN.out _ _ _ _ _ _ _ hv s3 mo3 hx3 e3); have C3 := Lib.hid (HD.out.moved mo3); have C4 := Lib.hid (C3.out.put i v); have z1 := C3.out.row.here.cell i; rw [nums_at L i (by rw [C3.out.len]; omega)] at z1; have f1 := C3.out.row.here.frozen i; clear hv s3 mo3 hx3 e3 R2 FIN)
    | fail)
  all_goals
    have z2 := C4.out.row.here.cell i
    rw [nums_at _ i (by rw [C4.out.len]; omega), nth_set _ _ _ _ (by rw [C3.out.len]; omega), if_pos rfl] at z2
    obtain ⟨_, _, _, d5⟩ := K0.out _ _ _ _ C4.out
    clear C3 z1 f1 K0
    generalize w3.setCell ⟨q4, i, none⟩ (.int .i64 v) = w4 at *
    go_wp2_with fail
    exact FX.out

theorem nodeFrom_end (c : Int → Int) (h : Int) (i : Nat) (l : List Int) : nodeFrom c h 0 i l = .ask fun d => .ret (if d then none else nodeOf l) := rfl
theorem nodeFrom_next (c : Int → Int) (h : Int) (n i : Nat) (l : List Int) : nodeFrom c h (n + 1) i l = .read (c (2 + (i : Int))) h fun e => .read (c (10 + (i : Int))) h fun s => .read (c (18 + (i : Int))) h fun g => nodeFrom c h n (i + 1) (((l.set (2 + i) e).set (10 + i) s).set (18 + i) g) := rfl
theorem fits_put {l : List Int} (h : Fits l) (i : Nat) {v : Int} (hv : -9223372036854775808 ≤ v ∧ v ≤ 9223372036854775807) : Fits (l.set i v) := by
  intro k hk
  rw [List.length_set] at hk
  rw [nth_set _ _ _ _ hk]
  split
  · exact hv
  · exact h k hk
theorem fits_nul : Fits nul28 := fun i hi => by
  unfold nul28
  rw [nth_zeros]
  omega
/-- The node that is told, in new memory. -/
def nodeA (base : Nat) : Option Nd → Value → World → Prop
  | none, v, _ => v = .tuple #[nilN, .bool false]
  | some n, v, w => ∃ x y z, v = .tuple #[n.val x y z, .bool true] ∧ NdMine base w n x y z
/-- Its rows are none of the trail's, the memory's and the arena's. -/
def NdApart (b g tb ab ag : Nat) (tv mv v : Value) : Prop := ∀ (n : Nd) (x y z : Value), v = .tuple #[n.val x y z, .bool true] → ∀ k, x.ownBlock = some k ∨ y.ownBlock = some k ∨ z.ownBlock = some k → ¬ WAll b g tb ab ag tv mv k
theorem NdApart.none (b g tb ab ag : Nat) (tv mv : Value) : NdApart b g tb ab ag tv mv (.tuple #[nilN, .bool false]) := fun n x y z e => by simp at e
theorem NdApart.some {base : Nat} {W w : World} {n : Nd} {x y z : Value} (hm : NdMine base w n x y z) (hW : ∀ k, WAll b g tb ab ag tv mv k → k < base) : NdApart b g tb ab ag tv mv (.tuple #[n.val x y z, .bool true]) := by
  intro n' x' y' z' e k hk ha
  have := hW k ha
  unfold Nd.val at e
  simp only [Value.tuple.injEq, Array.mk.injEq, List.cons.injEq, Value.agg.injEq, and_true] at e
  obtain ⟨_, _, rfl, rfl, rfl⟩ := e
  rcases hk with hk | hk | hk
  · have := (World.ownsRow.lt hm.me k hk).1; omega
  · have := (World.ownsRow.lt hm.ms k hk).1; omega
  · have := (World.ownsRow.lt hm.mg k hk).1; omega
/-- What the call leaves. -/
def NdPost (w : World) (b g tb ab ag : Nat) (tv mv : Value) (G : Int) (n : Nat) (o : WEnd (Option Nd)) (e : Ending) (w' : World) : Prop :=
  ∃ val tv' mv', e = .returned val ∧ nodeA w.heap.size o.a val w' ∧ NdApart b g tb ab ag tv' mv' val ∧ Sat w' b g tb ab ag tv' mv' o.T o.m o.x G n ∧ WMoved w b g tb ab ag tv mv w' tv' mv'
/-- Where its loop stands. -/
def NodeRel (w : World) (b g tb ab ag : Nat) (tv mv : Value) (x : Wi) (G : Int) (n : Nat) (O : WEnd (Option Nd)) (h : Int) (p0 p1 p2 p5 q4 p3 K : Nat) (iv : Value) (wr : World) : Prop :=
  ∃ (r : Nat) (L : List Int) (tv' mv' : Value) (T' : Tr) (m' : Mm) (x' : Wi), r ≤ K ∧ iv = .int .i64 r ∧ Fits L ∧ Sat wr b g tb ab ag tv' mv' T' m' x' G (n + 3 * (K - r)) ∧ WMoved w b g tb ab ag tv mv wr tv' mv' ∧ (x'.fst = x.fst ∧ x'.l = x.l) ∧
    Clo wr b g tb ab ag tv' mv' p0 p1 p2 p5 q4 p3 h L ∧ O = wend (nodeFrom (cellOf x.fst x.l.length h) h (K - r) r L) T' m' x'
theorem clo_new (h : Int) (H : Sat w b g tb ab ag tv mv T m x G n) : Clo ((((((w.alloc (.cells #[.pointer (some ⟨tb, 0, none⟩)] 63)).alloc (.cells #[.pointer (some ⟨ab, 0, none⟩)] 55)).alloc (.cells #[.int .i64 h] 2)).alloc (.cells #[.bool false, .int .i64 0, .slice none 0 0, .slice none 0 0, .slice none 0 0] 34)).alloc (.cells (nums nul28) 2)).alloc (.cells #[.slice (some ⟨w.heap.size + 1 + 1 + 1 + 1, 0, none⟩) 28 28] 27)) b g tb ab ag tv mv
      w.heap.size (w.heap.size + 1) (w.heap.size + 1 + 1) (w.heap.size + 1 + 1 + 1 + 1 + 1) (w.heap.size + 1 + 1 + 1 + 1) (w.heap.size + 1 + 1 + 1) h nul28 ∧
    Below w.heap.size w ((((((w.alloc (.cells #[.pointer (some ⟨tb, 0, none⟩)] 63)).alloc (.cells #[.pointer (some ⟨ab, 0, none⟩)] 55)).alloc (.cells #[.int .i64 h] 2)).alloc (.cells #[.bool false, .int .i64 0, .slice none 0 0, .slice none 0 0, .slice none 0 0] 34)).alloc (.cells (nums nul28) 2)).alloc (.cells #[.slice (some ⟨w.heap.size + 1 + 1 + 1 + 1, 0, none⟩) 28 28] 27)) := by
  have B := (((((Bag.new w).add 63 #[.pointer (some ⟨tb, 0, none⟩)]).add 55 #[.pointer (some ⟨ab, 0, none⟩)]).add 2 #[.int .i64 h]).add 34 #[.bool false, .int .i64 0, .slice none 0 0, .slice none 0 0, .slice none 0 0]).add 2 (nums nul28)
  have B := B.add 27 #[.slice (some ⟨w.heap.size + 1 + 1 + 1 + 1, 0, none⟩) 28 28]
  simp only [World.size_alloc] at B
  exact ⟨⟨.of_new H.st B.v5 (by omega), .of_new H.st B.v4 (by omega), .of_new H.st B.v3 (by omega), .of_new H.st B.v0 (by omega), .of_new H.st B.v1 (by omega), .of_new H.st B.v2 (by omega), nul_len, by omega⟩, B.bel⟩
set_option maxHeartbeats 8000000 in
theorem node_cx (h : Int) (H : Sat w b g tb ab ag tv mv T m x G (n + 26)) (hh : h ≤ 9223372036854775807) :
    Calls Try.prog 81 #[.pointer (some ⟨tb, 0, none⟩), .pointer (some ⟨ab, 0, none⟩), .int .i64 h] w (NdPost w b g tb ab ag tv mv G n (wend (nodeP (cellOf x.fst x.l.length h) h) T m x)) := by
  have hmf : ∀ (fn : Fn) (first cap : Array Value) (w : World), (Instr.makeFunc fn first cap).run Try.prog w = .ok (.func fn first cap) w := fun _ _ _ _ => rfl
  have hnot : ∀ (x : Bool) (w : World), (Op.unary .not (.bool x)).run Try.prog w = .ok (.bool (!x)) w := fun _ _ => rfl
  obtain ⟨O, hO⟩ : ∃ O, wend (nodeP (cellOf x.fst x.l.length h) h) T m x = O := ⟨_, rfl⟩
  have HO := Lib.hid hO
  rw [hO]
  clear hO
  have mk := make28
  have HH := Lib.hid H
  clear H
  obtain ⟨R, hR⟩ : ∃ R, NdPost w b g tb ab ag tv mv G n O = R := ⟨_, rfl⟩
  rw [hR]
  have HR := Lib.hid hR
  clear hR
  go_enter Try.func81, Try.ntmps81
  go_upto_region 3 with (fail)
  obtain ⟨hC, hB⟩ := clo_new h HH.out
  have SA := Lib.hid (HH.out.still hB)
  have MA := Lib.hid (WMoved.still hB b g tb ab ag tv mv)
  have CA := Lib.hid hC
  have Q4 : Hid (w.heap.size ≤ w.heap.size + 1 + 1 + 1 + 1) := Lib.hid (by omega)
  have Q3 : Hid (w.heap.size ≤ w.heap.size + 1 + 1 + 1) := Lib.hid (by omega)
  clear hC hB HH mk
  generalize (((((w.alloc (.cells #[.pointer (some ⟨tb, 0, none⟩)] 63)).alloc (.cells #[.pointer (some ⟨ab, 0, none⟩)] 55)).alloc (.cells #[.int .i64 h] 2)).alloc (.cells #[.bool false, .int .i64 0, .slice none 0 0, .slice none 0 0, .slice none 0 0] 34)).alloc (.cells (nums nul28) 2)).alloc (.cells #[.slice (some ⟨w.heap.size + 1 + 1 + 1 + 1, 0, none⟩) 28 28] 27) = wA at *
  generalize w.heap.size + 1 + 1 + 1 + 1 + 1 = p5 at *
  generalize w.heap.size + 1 + 1 + 1 + 1 = q4 at *
  generalize w.heap.size + 1 + 1 + 1 = p3 at *
  generalize w.heap.size + 1 + 1 = p2 at *
  generalize w.heap.size + 1 = p1 at *
  obtain ⟨p0, hp0⟩ : ∃ p0, w.heap.size = p0 := ⟨_, rfl⟩
  have HP0 := Lib.hid hp0
  rw [hp0] at CA
  have FIN : Hid (∀ w1 tv1 mv1 (r : Option Nd) (val : Value) T1 m1 x1, O = ⟨r, T1, m1, x1⟩ → nodeA p0 r val w1 → NdApart b g tb ab ag tv1 mv1 val → Sat w1 b g tb ab ag tv1 mv1 T1 m1 x1 G n → WMoved w b g tb ab ag tv mv w1 tv1 mv1 → R (.returned val) w1) := Lib.hid (by
    intro w1 tv1 mv1 r val T1 m1 x1 e ha hap s mo
    rw [← HR.out, e]
    refine ⟨_, tv1, mv1, rfl, ?_, hap, s, mo⟩
    rw [HP0.out]
    exact ha)
  have N0 := Lib.hid (node1_c (n := n + 25) (h := h) 0 (by omega) SA.out CA.out MA.out Q4.out hh)
  clear SA MA CA HR
  go_wp2_with fail
  refine N0.out.mono ?_
  rintro e w1 ⟨v, T1, m1, x1, tv1, mv1, rfl, hv, s1, mo1, hx1, c1, e1⟩
  have S1 := Lib.hid s1
  have M1 := Lib.hid mo1
  have X1 := Lib.hid hx1
  have C1 := Lib.hid c1
  have V1 := Lib.hid hv
  have E1 : Hid (O = wend (if entOk v then .read (cellOf x.fst x.l.length h 1) h fun lo => nodeFrom (cellOf x.fst x.l.length h) h (entK v) 0 ((nul28.set 0 v).set 1 lo) else .ret none) T1 m1 x1) := Lib.hid (by rw [← HO.out]; exact e1 _ _)
  have EN := Lib.hid (entries_c v hv.1 hv.2 w1)
  clear s1 mo1 hx1 c1 e1 hv HO N0
  go_wp2_with fail
  refine EN.out.mono ?_
  rintro e w2 ⟨rfl, rfl⟩
  clear EN
  cases hk : entOk v with
  | false =>
    rw [hk] at E1
    obtain ⟨c0, c1, c2, c3, c4⟩ := row5 C1.out.res.here
    obtain ⟨f0, f1, f2, f3, f4⟩ := row5f C1.out.res.here
    have FX := Lib.hid (FIN.out _ _ _ none (.tuple #[nilN, .bool false]) _ _ _ E1.out rfl (NdApart.none _ _ _ _ _ _ _) ((S1.out.less (by omega)).beside C1.out.res.far (five_only w1 p3 (.bool false) (.int .i64 0) (.slice none 0 0) (.slice none 0 0) (.slice none 0 0))) (M1.out.then_only Q3.out (five_only w1 p3 (.bool false) (.int .i64 0) (.slice none 0 0) (.slice none 0 0) (.slice none 0 0))))
    have P0 := Lib.hid (five_put C1.out.res.here (.bool false) (.int .i64 0) (.slice none 0 0) (.slice none 0 0) (.slice none 0 0))
    clear FIN E1 S1 M1 X1 C1 V1
    go_wp2_with fail
    refine bodyPost_ret (results_row_tmp rfl _ _ p3 34 _ (0, 0) _ rfl P0.out Try.underlying34 rfl (by kernel_rfl)) rfl ?_
    exact FX.out
  | true =>
    rw [hk] at E1
    have hK := entK_hi v
    have hK2 : Hid (n + 24 = n + 3 * (entK v) + (24 - 3 * entK v)) := Lib.hid (by omega)
    have N1 := Lib.hid (node1_c (n := n + 24) (h := h) 1 (by omega) S1.out C1.out M1.out Q4.out hh)
    rw [X1.out.1, X1.out.2] at N1
    clear S1 C1 M1
    go_wp2_with fail
    refine N1.out.mono ?_
    rintro e w2 ⟨lo, T2, m2, x2, tv2, mv2, rfl, hv2, s2, mo2, hx2, c2, e2⟩
    have L0 : Hid (NodeRel w b g tb ab ag tv mv x G n O h p0 p1 p2 p5 q4 p3 (entK v) (.int .i64 0) w2) := Lib.hid
      ⟨0, (nul28.set 0 v).set 1 lo, tv2, mv2, T2, m2, x2, by omega, rfl, fits_put (fits_put fits_nul 0 V1.out) 1 hv2, s2.less (by omega), mo2, ⟨hx2.1.trans X1.out.1, hx2.2.trans X1.out.2⟩, c2, E1.out.trans (e2 _ _)⟩
    clear hk hK2 N1 hv2 s2 mo2 hx2 c2 e2 E1 X1 V1
    generalize entI v = inn at *
    generalize entK v = K at *
    go_wp2_with fail
    go_loopw [29] (fun iv wr => NodeRel w b g tb ab ag tv mv x G n O h p0 p1 p2 p5 q4 p3 K iv wr) (fun iv _ => K - (intOf iv).toNat)
    case atStart => exact L0.out
    case round =>
      obtain ⟨r, L, tv3, mv3, T3, m3, x3, hr, rfl, hl, s3, mo3, hx3, c3, e3⟩ := hrel
      clear L0
      by_cases hlt : r < K
      · have hsub : K - r = (K - (r + 1)) + 1 := by omega
        have hsub2 : n + 3 * (K - r) = ((n + 3 * (K - (r + 1)) + 1) + 1) + 1 := by omega
        rw [hsub2] at s3
        rw [hsub, nodeFrom_next] at e3
        have N2 := Lib.hid (node1_c (h := h) (2 + r) (by omega) s3 c3 mo3 Q4.out hh)
        rw [hx3.1, hx3.2] at N2
        have E3 := Lib.hid e3
        have X3 := Lib.hid hx3
        have HL := Lib.hid hl
        clear s3 mo3 hx3 e3 c3 hsub hsub2 hl
        have hw1 : IntKind.i64.wrap (2 + (r : Int)) = ((2 + r : Nat) : Int) := by rw [IntKind.wrap_i64]; omega
        have hw2 : IntKind.i64.wrap (10 + (r : Int)) = ((10 + r : Nat) : Int) := by rw [IntKind.wrap_i64]; omega
        have hw3 : IntKind.i64.wrap (18 + (r : Int)) = ((18 + r : Nat) : Int) := by rw [IntKind.wrap_i64]; omega
        have hk1 : ((2 + r : Nat) : Int) = 2 + (r : Int) := by omega
        have hk2 : ((10 + r : Nat) : Int) = 10 + (r : Int) := by omega
        have hk3 : ((18 + r : Nat) : Int) = 18 + (r : Int) := by omega
        have HK : Hid (((2 + r : Nat) : Int) = 2 + (r : Int) ∧ ((10 + r : Nat) : Int) = 10 + (r : Int) ∧ ((18 + r : Nat) : Int) = 18 + (r : Int)) := Lib.hid ⟨hk1, hk2, hk3⟩
        clear hk1 hk2 hk3
        go_wp2_with fail
        refine N2.out.mono ?_
        rintro e w4 ⟨u4, T4, m4, x4, tv4, mv4, rfl, hv4, s4, mo4, hx4, c4, e4⟩
        rw [HK.out.1] at e4
        have N3 := Lib.hid (node1_c (h := h) (10 + r) (by omega) s4 c4 mo4 Q4.out hh)
        rw [hx4.1, hx4.2, X3.out.1, X3.out.2] at N3
        have E4 := Lib.hid (E3.out.trans (e4 _ _))
        have X4 : Hid (x4.fst = x.fst ∧ x4.l = x.l) := Lib.hid ⟨hx4.1.trans X3.out.1, hx4.2.trans X3.out.2⟩
        have V4 := Lib.hid hv4
        clear s4 mo4 hx4 e4 c4 hv4 E3 X3 N2
        go_wp2_with fail
        refine N3.out.mono ?_
        rintro e w5 ⟨u5, T5, m5, x5, tv5, mv5, rfl, hv5, s5, mo5, hx5, c5, e5⟩
        rw [HK.out.2.1] at e5
        have N4 := Lib.hid (node1_c (h := h) (18 + r) (by omega) s5 c5 mo5 Q4.out hh)
        rw [hx5.1, hx5.2, X4.out.1, X4.out.2] at N4
        have E5 := Lib.hid (E4.out.trans (e5 _ _))
        have X5 : Hid (x5.fst = x.fst ∧ x5.l = x.l) := Lib.hid ⟨hx5.1.trans X4.out.1, hx5.2.trans X4.out.2⟩
        have V5 := Lib.hid hv5
        clear s5 mo5 hx5 e5 c5 hv5 E4 X4 N3
        go_wp2_with fail
        refine N4.out.mono ?_
        rintro e w6 ⟨u6, T6, m6, x6, tv6, mv6, rfl, hv6, s6, mo6, hx6, c6, e6⟩
        rw [HK.out.2.2] at e6
        have S6 := Lib.hid s6
        have M6 := Lib.hid mo6
        have C6 := Lib.hid c6
        have E6 := Lib.hid (E5.out.trans (e6 _ _))
        have X6 : Hid (x6.fst = x.fst ∧ x6.l = x.l) := Lib.hid ⟨hx6.1.trans X5.out.1, hx6.2.trans X5.out.2⟩
        have L6 := Lib.hid (fits_put (fits_put (fits_put HL.out (2 + r) V4.out) (10 + r) V5.out) (18 + r) hv6)
        clear s6 mo6 hx6 e6 c6 hv6 E5 X5 N4 V4 V5 HL HK hw1 hw2 hw3
        go_wp2_with fail
        go_roundw
        case rel => exact ⟨r + 1, _, tv6, mv6, T6, m6, x6, by omega, by go_num, L6.out, S6.out, M6.out, X6.out, C6.out, E6.out⟩
        case measure => simp [intOf]; omega
      · have hrK : r = K := by omega
        subst hrK
        have e0 : r - r = 0 := by omega
        rw [e0] at e3 s3
        rw [nodeFrom_end, wend_ask] at e3
        have D2 := Lib.hid (dry_c s3)
        have E2 := Lib.hid e3
        have M2 := Lib.hid mo3
        have C2 := Lib.hid c3
        have S2 := Lib.hid s3
        have WL : Hid (Wds wr (.slice (some ⟨q4, 0, none⟩) 28 28) L) := Lib.hid (by
          have := nums_wds c3.row.here (c := 28) (by have := c3.len; omega)
          rw [c3.len] at this
          exact this)
        have d0 : wr.cell? ⟨p0, 0, none⟩ = some (.pointer (some ⟨tb, 0, none⟩)) := c3.c0.here.cell 0
        have d5 : wr.cell? ⟨p5, 0, none⟩ = some (.slice (some ⟨q4, 0, none⟩) 28 28) := c3.c5.here.cell 0
        have FL := Lib.hid hl
        clear s3 mo3 hx3 e3 c3 e0 hl
        go_wp2_with fail
        refine D2.out.mono ?_
        rintro e w5 ⟨rfl, rfl⟩
        clear D2
        cases hd : dry T3 with
        | true =>
          rw [hd] at E2
          obtain ⟨c0, c1, c2, c3, c4⟩ := row5 C2.out.res.here
          obtain ⟨f0, f1, f2, f3, f4⟩ := row5f C2.out.res.here
          have FX := Lib.hid (FIN.out _ _ _ none (.tuple #[nilN, .bool false]) _ _ _ E2.out rfl (NdApart.none _ _ _ _ _ _ _) (S2.out.beside C2.out.res.far (five_only wr p3 (.bool false) (.int .i64 0) (.slice none 0 0) (.slice none 0 0) (.slice none 0 0))) (M2.out.then_only Q3.out (five_only wr p3 (.bool false) (.int .i64 0) (.slice none 0 0) (.slice none 0 0) (.slice none 0 0))))
          have P0 := Lib.hid (five_put C2.out.res.here (.bool false) (.int .i64 0) (.slice none 0 0) (.slice none 0 0) (.slice none 0 0))
          clear FIN E2 S2 M2 C2 WL FL
          go_wp2_with fail
          refine bodyPost_ret (results_row_tmp rfl _ _ p3 34 _ (0, 0) _ rfl P0.out Try.underlying34 rfl (by kernel_rfl)) rfl ?_
          exact FX.out
        | false =>
          rw [hd] at E2
          have U := Lib.hid (unpack_c WL.out FL.out (by have := C2.out.len; omega))
          have HWL : Hid (∀ k, WAll b g tb ab ag tv3 mv3 k → k < wr.heap.size) := Lib.hid (fun k hk => wall_lt S2.out.st hk)
          have HW : Hid (p0 ≤ wr.heap.size) := Lib.hid (by rw [← HP0.out]; exact M2.out.only.size)
          clear WL FL
          go_wp2_with fail
          refine U.out.mono ?_
          rintro e w5 ⟨hu, hb⟩
          have C2 := Lib.hid ((C2.out.moved (WMoved.still hb b g tb ab ag tv3 mv3)).res)
          have S2 := Lib.hid (S2.out.still hb)
          have M2 := Lib.hid (M2.out.then_below hb)
          clear hb U d0 d5
          have E2 : Hid (O = ⟨nodeOf L, T3, m3, x3⟩) := Lib.hid E2.out
          obtain ⟨c0, c1, c2, c3, c4⟩ := row5 C2.out.here
          obtain ⟨f0, f1, f2, f3, f4⟩ := row5f C2.out.here
          have FX : Hid (∀ s t p h k, Sat (set5 w5 p3 s t p h k) b g tb ab ag tv3 mv3 T3 m3 x3 G n ∧ WMoved w b g tb ab ag tv mv (set5 w5 p3 s t p h k) tv3 mv3 ∧ Whole (set5 w5 p3 s t p h k) p3 34 #[s, t, p, h, k]) := Lib.hid (fun s t p h k =>
            ⟨S2.out.beside C2.out.far (five_only ..), M2.out.then_only Q3.out (five_only ..), five_put C2.out.here s t p h k⟩)
          rcases hu with ⟨nd, y1, y2, y3, rfl, hf, hp, hm⟩ | ⟨rfl, hn⟩
          · rw [nodeOf_some hf hp] at E2
            obtain ⟨A1, k1, rfl⟩ := own_slice hm.me
            obtain ⟨A2, k2, rfl⟩ := own_slice hm.ms
            obtain ⟨A3, k3, rfl⟩ := own_slice hm.mg
            obtain ⟨g1, g2, g3⟩ := FX.out (.bool nd.inner) (.int .i64 nd.lo) (.slice A1 nd.ends.length k1) (.slice A2 nd.slots.length k2) (.slice A3 nd.gaps.length k3)
            have FY := Lib.hid (FIN.out _ _ _ (some nd) (.tuple #[nd.val (.slice A1 nd.ends.length k1) (.slice A2 nd.slots.length k2) (.slice A3 nd.gaps.length k3), .bool true]) _ _ _ E2.out ⟨_, _, _, rfl, (hm.far C2.out.here (five_only ..)).base' HW.out⟩ (NdApart.some (W := w5) hm HWL.out) g1 g2)
            have P0 := Lib.hid g3
            clear g1 g2 g3 FX E2 FIN S2 M2 C2 hm hf hp
            unfold Nd.val at *
            go_wp2_with fail
            refine bodyPost_ret (results_row_tmp rfl _ _ p3 34 _ (0, 0) _ rfl P0.out Try.underlying34 rfl (by kernel_rfl)) rfl ?_
            exact FY.out
          · rw [nodeOf_none hn] at E2
            obtain ⟨g1, g2, g3⟩ := FX.out (.bool false) (.int .i64 0) (.slice none 0 0) (.slice none 0 0) (.slice none 0 0)
            have FY := Lib.hid (FIN.out _ _ _ none (.tuple #[nilN, .bool false]) _ _ _ E2.out rfl (NdApart.none _ _ _ _ _ _ _) g1 g2)
            have P0 := Lib.hid g3
            clear g1 g2 g3 FX E2 FIN S2 M2 C2 hn
            unfold nilN at *
            go_wp2_with fail
            refine bodyPost_ret (results_row_tmp rfl _ _ p3 34 _ (0, 0) _ rfl P0.out Try.underlying34 rfl (by kernel_rfl)) rfl ?_
            exact FY.out
theorem node_c (h : Int) (H : Sat w b g tb ab ag tv mv T m x G (n + 26)) (hh : h ≤ 9223372036854775807) :
    Calls Try.prog 81 #[.pointer (some ⟨tb, 0, none⟩), .pointer (some ⟨ab, 0, none⟩), .int .i64 h] w (SkPost w b g tb ab ag tv mv G n (nodeA w.heap.size) (wend (nodeP (cellOf x.fst x.l.length h) h) T m x)) :=
  (node_cx h H hh).mono (fun e w' ⟨val, tv', mv', h1, h2, _, h3, h4⟩ => ⟨val, tv', mv', h1, h2, h3, h4⟩)
end
end Go.Proofs.Ytejkhnphplpkeaa
