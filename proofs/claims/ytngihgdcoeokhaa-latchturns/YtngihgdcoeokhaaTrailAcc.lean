/-
  Layer 3: the one way of all accesses.
-/
import Derived.Test.YtngihgdcoeokhaaTrailDo
namespace Go.Proofs.Ytngihgdcoeokhaa
open Go.ChangeShapes Go.WideShapes Go.ChangeAt Go.RowKit
set_option linter.unusedVariables false

section
variable {w w' w'' : World} {b g tb : Nat} {tv mv tv' mv' : Value} {T : Tr} {m m' : Mm}

theorem int64_info : ∃ i0, Try.prog.info? 2 = some i0 ∧ i0.zero = some (.int .i64 0) ∧ i0.size = 1 ∧ i0.bytes = 8 := by
  have := Try.info2'
  obtain ⟨i0, h1, h2⟩ := Option.map_eq_some_iff.1 this
  simp only [Prod.mk.injEq] at h2
  exact ⟨i0, h1, h2.1, h2.2.1, h2.2.2⟩

/-- Nothing is done: the trail is dry, or there is no step. -/
theorem access_none (dv : Value) (h : St w b g tb tv mv T m) (hf : Fine T) (hp : T.ph = 0 ∨ T.ph = 4) :
    Calls Try.prog 31 #[.pointer (some ⟨tb, 0, none⟩), dv] w fun e w' => e = .returned (.int .i64 0) ∧ w = w' := by
  have F := Lib.hid (freshs h hf)
  have X : Hid (fresh T = false) := by rcases hp with hp | hp <;> simp [Hid, fresh, hp]
  have h4 := h.c4
  clear h hf
  generalize fresh T = fr at *
  generalize T.ph = p at *
  obtain rfl : fr = false := X.out
  clear X
  rcases hp with rfl | rfl
  all_goals
    go_enter Try.func31, Try.ntmps31
    go_wp2_with (go_at_call 37; refine F.out.mono ?_; rintro e w' ⟨rfl, rfl⟩)
    go_ret
    exact ⟨rfl, rfl⟩
/-- Behind a fresh access the trail is dry. -/
theorem access_dry (dv : Value) (h : St w b g tb tv mv T m) (hf : Fine T) (hp : T.ph = 2 ∨ T.ph = 3) :
    Calls Try.prog 31 #[.pointer (some ⟨tb, 0, none⟩), dv] w fun e w' => e = .returned (.int .i64 0) ∧ w.setCell ⟨tb, 4, none⟩ (.int .i64 4) = w' := by
  have F := Lib.hid (freshs h hf)
  have X : Hid (fresh T = true) := by rcases hp with hp | hp <;> simp [Hid, fresh, hp]
  have h4 := h.c4
  have f4 := h.f 4
  clear h hf
  generalize fresh T = fr at *
  generalize T.ph = p at *
  obtain rfl : fr = true := X.out
  clear X
  rcases hp with rfl | rfl
  all_goals
    go_enter Try.func31, Try.ntmps31
    go_wp2_with (go_at_call 37; refine F.out.mono ?_; rintro e w' ⟨rfl, rfl⟩)
    go_ret
    exact ⟨rfl, rfl⟩
/-- It is told again. -/
theorem access_again (dv : Value) (h : St w b g tb tv mv T m) (hf : Fine T) (hp : T.ph = 1) (hl : T.place < T.told.length) :
    Calls Try.prog 31 #[.pointer (some ⟨tb, 0, none⟩), dv] w fun e w' => e = .returned (.int .i64 (nth T.told T.place)) ∧ ∃ n n', ((w.drewN n).setCell ⟨tb, 5, none⟩ (.int .i64 ((T.place + 1 : Nat) : Int))).drewN n' = w' := by
  have F := Lib.hid (fun n => freshs (h.drewN n) hf)
  have X : Hid (fresh T = false) := by simp [Hid, fresh, hp]
  have h4 := h.c4
  have h5 := h.c5
  have h1 := h.c1
  have f5 := h.f 5
  have hn := h.tr.ft
  obtain ⟨A, c, rfl⟩ := own_slice h.tr.told
  obtain ⟨tg, rfl, _, _⟩ := own_form h.tr.told (by omega)
  have hntb : ¬ tg = tb := fun he => h.nt (by simp [Value.ownBlock, he])
  have hx := own_int h.tr.told T.place hl
  rw [hp] at h4
  have P1 := fun n => ((h.drewN n).put 5 (.int .i64 ((T.place + 1 : Nat) : Int)) { T with place := T.place + 1 } rfl rfl rfl)
  have C1 : Hid (∀ n, ((w.drewN n).setCell ⟨tb, 5, none⟩ (.int .i64 ((T.place + 1 : Nat) : Int))).cell? ⟨tb, 1, none⟩ = some (.slice (some ⟨tg, 0, none⟩) T.told.length c)) := fun n => (P1 n).c1
  have C5 : Hid (∀ n, ((w.drewN n).setCell ⟨tb, 5, none⟩ (.int .i64 ((T.place + 1 : Nat) : Int))).cell? ⟨tb, 5, none⟩ = some (.int .i64 ((T.place + 1 : Nat) : Int))) := fun n => (P1 n).c5
  have CX : Hid (∀ n, ((w.drewN n).setCell ⟨tb, 5, none⟩ (.int .i64 ((T.place + 1 : Nat) : Int))).cell? ⟨tg, T.place, none⟩ = some (.int .i64 (nth T.told T.place))) := fun n => own_int (P1 n).tr.told T.place hl
  clear h hf hp P1
  have hq : ((T.place : Int) == (T.told.length : Int)) = false := beq_eq_false_iff_ne.2 (by omega)
  generalize fresh T = fr at *
  obtain rfl : fr = false := X.out
  clear X
  generalize nth T.told T.place = x at *
  generalize T.told.length = n at *
  generalize T.place = k at *
  go_enter Try.func31, Try.ntmps31
  go_upto_region 5 with (go_at_call 37; refine (F.out 0).mono ?_; rintro e w' ⟨rfl, rfl⟩)
  go_quiet (fail)
  go_upto_region 13 with (fail)
  rw [show (k : Int) + 1 = ((k + 1 : Nat) : Int) from by omega]
  have c1 := C1.out nq
  have c5 := C5.out nq
  have cx := CX.out nq
  clear h1 h4 h5 f5 hx
  have FIN : Hid (∀ n', ∃ n n'', ((w.drewN n).setCell ⟨tb, 5, none⟩ (.int .i64 ((k + 1 : Nat) : Int))).drewN n'' = ((w.drewN nq).setCell ⟨tb, 5, none⟩ (.int .i64 ((k + 1 : Nat) : Int))).drewN n') := fun n' => ⟨_, _, rfl⟩
  generalize (w.drewN nq).setCell ⟨tb, 5, none⟩ (.int .i64 ((k + 1 : Nat) : Int)) = w1 at *
  rw [show ((k + 1 : Nat) : Int) = (k : Int) + 1 from by omega] at c5
  have s1 : IntKind.i64.wrap (k : Int) = k := IntWalk.i64_in _ (by omega)
  have s2 : (0 : Int) ≤ (k : Int) := by omega
  have s3 : (k : Int) < (n : Int) := by omega
  have s4 : (k : Int).toNat = k := by omega
  go_quiet (fail)
  go_wp2_with fail
  go_ret
  exact ⟨rfl, FIN.out _⟩

/-- Behind a closure: the memory has turned, and the trail has not. -/
theorem St.done {n : Nat} (h : St w b g tb tv mv T m) (hm : MemAt w' b g m'.cs m'.cnt) (ho : Only (Two b g) (w.drewN n) w') : St w' b g tb tv mv T m' ∧ Moved w b g tb tv mv w' tv mv := by
  have n1 : ¬ Two b g tb := fun hn => hn.elim h.nb h.ng
  have n2 : ∀ k, tv.ownBlock = some k → ¬ Two b g k := fun k hk hn => by
    rcases hn with rfl | rfl
    · exact h.tb_ hk
    · exact h.apart hk
  have n3 : ∀ k, mv.ownBlock = some k → ¬ Two b g k := fun k hk hn => by
    rcases hn with rfl | rfl
    · exact h.mb hk
    · exact h.mg hk
  have h' := h.drewN n
  refine ⟨⟨h'.tr.only ho n1 n2 n3, hm, h.apart⟩, ⟨⟨ho.os, ho.tape, ho.output, ho.size, fun k hk hn => ?_⟩, fun _ h => .inl h, fun _ h => .inl h⟩⟩
  exact ho.block k hk (fun ht => hn (ht.elim .inl (fun h => .inr (.inl h))))

/-- A wait that goes on. -/
theorem access_waits (F : FuncId) (caps : Array Value) (hcf : ∀ w, (callFunc F caps).run Try.prog w = .ok (.enter F caps) w) (x : Int) (hdo : ∀ n, Calls Try.prog F caps (w.drewN n) (Done (w.drewN n) b g x false m')) (h : St w b g tb tv mv T m) (hf : Fine T) (hp : T.ph = 1) (hl : T.place = T.told.length) :
    Calls Try.prog 31 #[.pointer (some ⟨tb, 0, none⟩), .func (.func F) #[] caps] w (Goes w b g tb tv mv (.int .i64 0) { T with ph := 3 } m') := by
  have FR := Lib.hid (freshs (h.drewN 0) hf)
  have X : Hid (fresh T = false) := by simp [Hid, fresh, hp]
  have D := Lib.hid hdo
  have H := Lib.hid h
  have HP := Lib.hid hp
  have h4 := h.c4
  have h5 := h.c5
  have h1 := h.c1
  have f4 := h.f 4
  rw [hp] at h4
  rw [hl] at h5
  obtain ⟨A, c, rfl⟩ := own_slice h.tr.told
  clear hp hl h hf hdo
  have hnot : ∀ (x : Bool) (w : World), (Op.unary .not (.bool x)).run Try.prog w = .ok (.bool (!x)) w := fun _ _ => rfl
  generalize fresh T = fr at *
  obtain rfl : fr = false := X.out
  clear X
  have hq : ((T.told.length : Int) == (T.told.length : Int)) = true := beq_iff_eq.2 rfl
  generalize T.told.length = n at *
  go_enter Try.func31, Try.ntmps31
  go_upto_region 5 with (go_at_call 37; refine FR.out.mono ?_; rintro e w' ⟨rfl, rfl⟩)
  go_quiet (fail)
  go_wp2_with fail
  refine (D.out nq).mono ?_
  rintro e w' ⟨rfl, hd, ho⟩
  obtain ⟨s1, m1⟩ := H.out.done hd ho
  have f4' := s1.f 4
  have c4' := s1.c4
  have S1 := Lib.hid s1
  have M1 := Lib.hid m1
  clear s1 m1 hd ho h1 h4 h5 f4
  go_wp2_with fail
  go_ret
  exact ⟨rfl, _, _, S1.out.put 4 _ { T with ph := 3 } rfl rfl rfl, M1.out.trans (St.moved ..)⟩

/-- Behind an append to what was told, ahead of the store. -/
theorem St.appended {o : Obj} (h : St w b g tb tv mv T m) (hg : (w.alloc o).grownBy w' tv.ownBlock) :
    Whole w' tb 61 #[.pointer (some ⟨b, 0, none⟩), tv, mv, .bool T.over, .int .i64 T.ph, .int .i64 T.place, .int .i64 T.time] :=
  (h.tr.top.alloc o).grown hg (fun he => h.nt he.symm)
/-- Behind the store. -/
theorem St.append {o : Obj} {x : Int} (h : St w b g tb tv mv T m) (hg : (w.alloc o).grownBy w' tv.ownBlock)
    (hown : w'.ownsRow 0 2 1 tv' (T.told.length + 1) (T.told.map (Value.int .i64) ++ [.int .i64 x])) (hat : tv'.ownBlock = tv.ownBlock ∨ tv'.ownBlock = some (w.alloc o).heap.size) (hl : T.told.length + 1 ≤ 1000) :
    St (w'.setCell ⟨tb, 1, none⟩ tv') b g tb tv' mv { T with told := T.told ++ [x] } m ∧ Moved w b g tb tv mv (w'.setCell ⟨tb, 1, none⟩ tv') tv' mv := by
  have ho : Only (fun k => tv.ownBlock = some k) w w' := ((Only.refl _ w).alloc o).grown hg (fun k hk => .inl hk)
  have htop := h.appended hg
  have hne : tv'.ownBlock ≠ some tb := own_apart hown htop (by decide)
  have hsz : (w.alloc o).heap.size = w.heap.size + 1 := by simp
  have h1 : ∀ k, k < w.heap.size → tv'.ownBlock = some k → tv.ownBlock = some k := by
    intro k hk he
    rcases hat with ha | ha
    · rw [← ha]; exact he
    · rw [ha, hsz] at he; injection he with he; omega
  refine ⟨⟨⟨?_, ?_, ?_, by simpa using hl, h.tr.fm⟩, ?_, ?_⟩, ⟨?_, ?_, fun _ h => .inl h⟩⟩
  · exact htop.put 1 tv'
  · have := own_far (p := ⟨tb, 1, none⟩) hown hne tv'
    simpa using this
  · refine own_far (p := ⟨tb, 1, none⟩) (own_only h.tr.marks ho (fun k hk he => ?_)) h.nm tv'
    exact own_rows h.tr.marks h.tr.told (by decide) k hk he
  · have hm := h.mem.only ho h.tb_ h.apart
    exact ⟨hm.top.far (Ne.symm h.nb) _, hm.row.far (Ne.symm h.ng) _, hm.few, hm.lo, hm.hi⟩
  · intro he
    exact h.apart (h1 g h.mem.row.lt he)
  · have ho2 : Only (All b g tb tv mv) w w' := ho.mono (fun k _ hk => .inr (.inr (.inr (.inl hk))))
    exact ho2.setCell (.inl (.inr (.inr (.inl rfl)))) _
  · intro k hk
    by_cases hlt : k < w.heap.size
    · exact .inl (h1 k hlt hk)
    · exact .inr (by omega)

set_option maxHeartbeats 1000000 in
/-- An access that is done. -/
theorem access_does (F : FuncId) (caps : Array Value) (hcf : ∀ w, (callFunc F caps).run Try.prog w = .ok (.enter F caps) w) (x : Int) (hdo : ∀ n, Calls Try.prog F caps (w.drewN n) (Done (w.drewN n) b g x true m')) (h : St w b g tb tv mv T m) (hf : Fine T) (hp : T.ph = 1) (hl : T.place = T.told.length) (hr : T.told.length + 1 ≤ 1000) :
    Calls Try.prog 31 #[.pointer (some ⟨tb, 0, none⟩), .func (.func F) #[] caps] w (Goes w b g tb tv mv (.int .i64 x) { T with told := T.told ++ [x], ph := 2, place := T.place + 1 } m') := by
  obtain ⟨i0, hi0, hz0, hz1, hz2⟩ := int64_info
  have FR := Lib.hid (freshs (h.drewN 0) hf)
  have X : Hid (fresh T = false) := by simp [Hid, fresh, hp]
  have D := Lib.hid hdo
  have H := Lib.hid h
  have HP := Lib.hid hp
  have HL := Lib.hid hl
  have h4 := h.c4
  have h5 := h.c5
  have h1 := h.c1
  rw [hp] at h4
  rw [hl] at h5
  obtain ⟨A, c, rfl⟩ := own_slice h.tr.told
  clear hp hl h hf hdo
  have hnot : ∀ (x : Bool) (w : World), (Op.unary .not (.bool x)).run Try.prog w = .ok (.bool (!x)) w := fun _ _ => rfl
  generalize fresh T = fr at *
  obtain rfl : fr = false := X.out
  clear X
  have hq : ((T.told.length : Int) == (T.told.length : Int)) = true := beq_iff_eq.2 rfl
  generalize hn : T.told.length = n at *
  have HN := Lib.hid hn
  clear hn
  go_enter Try.func31, Try.ntmps31
  go_upto_region 5 with (go_at_call 37; refine FR.out.mono ?_; rintro e w' ⟨rfl, rfl⟩)
  go_quiet (fail)
  go_wp2_with fail
  refine (D.out nq).mono ?_
  rintro e w1 ⟨rfl, hd, ho⟩
  obtain ⟨s1, m1⟩ := H.out.done hd ho
  have c1 := s1.c1
  have S1 := Lib.hid s1
  have M1 := Lib.hid m1
  have O1 := Lib.hid s1.tr.told
  clear s1 m1 hd ho h1 h4 h5
  rw [HN.out] at O1
  set_option maxRecDepth 100000 in
  go_upto_region 11 with (at_builtin; refine wpList_append_own_at _ rfl (.tmp 41) (.tmp 43) _ rfl 0 2 i0 _ 1 8 Try.underlying30 hi0 hz0 hz1 hz2 rfl (by omega) _ n _ rfl (O1.out.alloc _) ⟨w1.heap.size, 0, none⟩ 1 1 [.int .i64 x] rfl rfl (cell_one_new _ _ _) (by simp [Value.oneCell']) (by simp only [maxLen]; omega) (by omega) (by omega) ?_; intro v' w2 hown' hg' _hnil hat; obtain ⟨A', c', rfl⟩ := own_slice hown'; have HA : Hid ((Value.slice A' (n + 1) c').ownBlock = (Value.slice A n c).ownBlock ∨ (Value.slice A' (n + 1) c').ownBlock = some (w1.alloc (.cells #[.int .i64 x] 2)).heap.size) := hat; have HG : Hid ((w1.alloc (.cells #[.int .i64 x] 2)).grownBy w2 (Value.slice A n c).ownBlock) := hg'; clear hat; have c1' : w2.cell? ⟨tb, 1, none⟩ = some (.slice A n c) := (S1.out.appended hg').cell 1; have f1' : w2.frozen? ⟨tb, 1, none⟩ = false := (S1.out.appended hg').frozen 1; have HO := Lib.hid hown'; clear hg' hown' _hnil)
  obtain ⟨s2, m2⟩ := S1.out.append HG.out (by rw [HN.out]; exact HO.out) HA.out (by rw [HN.out]; exact hr)
  have s3 := s2.put 4 (.int .i64 2) { T with told := T.told ++ [x], ph := 2 } rfl rfl rfl
  have s4 := s3.put 5 (.int .i64 ((n + 1 : Nat) : Int)) { T with told := T.told ++ [x], ph := 2, place := T.place + 1 } rfl rfl (by rw [HL.out]; rfl)
  have m4 := M1.out.trans (m2.trans ((St.moved _ b g tb _ mv 4 (.int .i64 2)).trans (St.moved _ b g tb _ mv 5 (.int .i64 ((n + 1 : Nat) : Int)))))
  have f4 := s2.f 4
  have f5 := s3.f 5
  have c4 := s2.c4
  have c5 : ((w2.setCell ⟨tb, 1, none⟩ (Value.slice A' (n + 1) c')).setCell ⟨tb, 4, none⟩ (.int .i64 2)).cell? ⟨tb, 5, none⟩ = some (.int .i64 (n : Int)) := by rw [s3.c5]; simp only; rw [HL.out]
  obtain ⟨tg, rfl, _, _⟩ := own_form HO.out (by omega)
  have d1 : Hid (World.cell? (((w2.setCell ⟨tb, 1, none⟩ (Value.slice (some ⟨tg, 0, none⟩) (n + 1) c')).setCell ⟨tb, 4, none⟩ (.int .i64 2)).setCell ⟨tb, 5, none⟩ (.int .i64 ((n + 1 : Nat) : Int))) ⟨tb, 1, none⟩ = some (.slice (some ⟨tg, 0, none⟩) (n + 1) c')) := s4.c1
  have d5 : Hid (World.cell? (((w2.setCell ⟨tb, 1, none⟩ (Value.slice (some ⟨tg, 0, none⟩) (n + 1) c')).setCell ⟨tb, 4, none⟩ (.int .i64 2)).setCell ⟨tb, 5, none⟩ (.int .i64 ((n + 1 : Nat) : Int))) ⟨tb, 5, none⟩ = some (.int .i64 ((n + 1 : Nat) : Int))) := by
    unfold Hid; rw [s4.c5]; simp only; rw [HL.out]
  have dx : Hid (World.cell? (((w2.setCell ⟨tb, 1, none⟩ (Value.slice (some ⟨tg, 0, none⟩) (n + 1) c')).setCell ⟨tb, 4, none⟩ (.int .i64 2)).setCell ⟨tb, 5, none⟩ (.int .i64 ((n + 1 : Nat) : Int))) ⟨tg, n, none⟩ = some (.int .i64 x)) := by
    have ht := s4.tr.told
    have hlen : (T.told ++ [x]).length = n + 1 := by rw [List.length_append, HN.out]; rfl
    simp only at ht
    rw [← hlen] at ht
    have := own_int ht n (by omega)
    rw [← hlen]
    rw [Hid, this]
    simp [nth, ← HN.out]
  have S4 := Lib.hid s4
  have M4 := Lib.hid m4
  clear s2 m2 s3 s4 m4 S1 M1 O1 HO HG HA c1 c1' f1' H D FR
  generalize (w2.setCell ⟨tb, 1, none⟩ (Value.slice (some ⟨tg, 0, none⟩) (n + 1) c')) = w3 at *
  go_upto_region 13 with (fail)
  rw [show (n : Int) + 1 = ((n + 1 : Nat) : Int) from by omega]
  have e1 := d1.out
  have e5 := d5.out
  have ex := dx.out
  clear f4 f5 c4 c5 d1 d5 dx
  generalize (w3.setCell ⟨tb, 4, none⟩ (.int .i64 2)).setCell ⟨tb, 5, none⟩ (.int .i64 ((n + 1 : Nat) : Int)) = w4 at *
  rw [show ((n + 1 : Nat) : Int) = (n : Int) + 1 from by omega] at e5
  have s1 : IntKind.i64.wrap (n : Int) = n := IntWalk.i64_in _ (by omega)
  have s2 : (0 : Int) ≤ (n : Int) := by omega
  have s3 : (n : Int) < ((n + 1 : Nat) : Int) := by omega
  have s3' : (n : Int) < (n : Int) + 1 := by omega
  have s4 : (n : Int).toNat = n := by omega
  go_quiet (fail)
  go_wp2_with fail
  go_ret
  exact ⟨rfl, _, _, S4.out.drewN _, M4.out.trans (Moved.still (below_drewN (Below.refl _ _) _) ..)⟩

/-- Whatever the trail's step is at. -/
theorem access_any (F : FuncId) (caps : Array Value) (hcf : ∀ w, (callFunc F caps).run Try.prog w = .ok (.enter F caps) w) (k i v old : Int) (h : St w b g tb tv mv T m) (hf : Fine T) (hr : T.told.length + 1 ≤ 1000)
    (hdo : T.ph = 1 → ∀ n, Calls Try.prog F caps (w.drewN n) (Done (w.drewN n) b g (toldOf k i old m) (okOf k i old m) (memOf k i v old m))) :
    Calls Try.prog 31 #[.pointer (some ⟨tb, 0, none⟩), .func (.func F) #[] caps] w (Goes w b g tb tv mv (.int .i64 (accV k i old T m)) (accT k i old T m) (accM k i v old T m)) := by
  by_cases hp : T.ph = 1
  · by_cases hl : T.place = T.told.length
    · cases hok : okOf k i old m with
      | true =>
        have := access_does F caps hcf _ (by have := hdo hp; rw [hok] at this; exact this) h hf hp hl hr
        simpa [accV, accT, accM, hp, hl, hok] using this
      | false =>
        have := access_waits F caps hcf _ (by have := hdo hp; rw [hok] at this; exact this) h hf hp hl
        simpa [accV, accT, accM, hp, hl, hok] using this
    · have hlt : T.place < T.told.length := by have := hf.place hp; omega
      refine (access_again _ h hf hp hlt).mono ?_
      rintro e w' ⟨rfl, n, n', rfl⟩
      refine ⟨by simp [accV, hp, hl], tv, mv, ?_, ?_⟩
      · have h1 := ((h.drewN n).put 5 (.int .i64 ((T.place + 1 : Nat) : Int)) { T with place := T.place + 1 } rfl rfl rfl).drewN n'
        have e1 : accT k i old T m = { T with place := T.place + 1 } := by simp [accT, hp, hl]
        have e2 : accM k i v old T m = m := by simp [accM, hl]
        rw [e1, e2]
        exact h1
      · exact (Moved.still (below_drewN (Below.refl _ _) n) ..).trans ((St.moved ..).trans (Moved.still (below_drewN (Below.refl _ _) n') ..))
  · by_cases hq : T.ph = 2 ∨ T.ph = 3
    · refine (access_dry _ h hf hq).mono ?_
      rintro e w' ⟨rfl, rfl⟩
      have e1 : accT k i old T m = { T with ph := 4 } := by simp [accT, hp, hq]
      have e2 : accM k i v old T m = m := by simp [accM, hp]
      have e3 : accV k i old T m = 0 := by simp [accV, hp]
      rw [e1, e2, e3]
      exact ⟨rfl, _, _, h.put 4 _ { T with ph := 4 } rfl rfl rfl, St.moved ..⟩
    · have hz : T.ph = 0 ∨ T.ph = 4 := by have := hf.ph; omega
      refine (access_none _ h hf hz).mono ?_
      rintro e w' ⟨rfl, rfl⟩
      have e1 : accT k i old T m = T := by simp [accT, hp, hq]
      have e2 : accM k i v old T m = m := by simp [accM, hp]
      have e3 : accV k i old T m = 0 := by simp [accV, hp]
      rw [e1, e2, e3]
      exact ⟨rfl, _, _, h, Moved.refl ..⟩
end
end Go.Proofs.Ytngihgdcoeokhaa
