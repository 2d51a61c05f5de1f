/-
  Texts of our own, one behind the other (SeekAll, SeekSlots, SeekLaw, SeekAwake): what the laws' proofs rest on; each says at its head what it holds. No conditions.
-/
import Derived.Test.YtiiclmaphiajmaaPkYb
import Derived.Test.YtiiclmaphiajmaaPkXb
import Derived.Test.YtiiclmaphiajmaaPkWf
/-
  Layer 16: what comes of a looker that is alone.
-/
namespace Go.Proofs.Ytiiclmaphiajmaa
open Go.ChangeShapes Go.WideShapes Go.ChangeAt Go.RowKit
set_option linter.unusedVariables false

/-- A looker of whatever kind, whose run does p. -/
def Looks (N : Nat) (b g ab ag : Nat) (h addr kind : Int) (p : Sk Rs) (x : Wi) : Prop :=
  ∀ tb rb, RunsBy N b g tb ab ag rb (Lay (tb + 1) rb) 29 #[looker ab h addr kind rb] p x
theorem looks_word {b g ab ag : Nat} {x : Wi} (h addr : Int) (hh : h ≤ 9223372036854775807) : Looks 26 b g ab ag h addr 3 (wordRs (cellOf x.fst x.l.length h) h addr) x := fun tb rb => run_word (N := 25) h addr hh
theorem looks_look {b g ab ag : Nat} {x : Wi} (h addr : Int) (hh : h ≤ 9223372036854775807) : Looks 26 b g ab ag h addr 0 (lookRs (cellOf x.fst x.l.length h) h addr) x := fun tb rb => run_look (N := 16) h addr hh
theorem looks_area {b g ab ag : Nat} {x : Wi} (h addr : Int) (hh : h ≤ 9223372036854775807) : Looks 26 b g ab ag h addr 1 (areaRs (cellOf x.fst x.l.length h) h) x := fun tb rb => run_area (N := 18) h addr hh
theorem looks_node {b g ab ag : Nat} {x : Wi} (h addr : Int) (hh : h ≤ 9223372036854775807) : Looks 26 b g ab ag h addr 2 (nodeRs (cellOf x.fst x.l.length h) h) x := fun tb rb => run_node (N := 0) h addr hh rfl

/-- The cells of what is told, as a value. -/
def Rs.val (r : Rs) (e s g : Value) : Value := .agg #[.int .i64 r.V, .bool r.I, .bool r.O, .int .i64 r.A.s, .int .i64 r.A.e, .int .i64 r.A.p, .bool r.A.sh, .int .i64 r.A.bk, .int .i64 r.A.off, .bool r.N.inner, .int .i64 r.N.lo, e, s, g]
/-- What all leaves. -/
def AllPost (w : World) (b g ab ag : Nat) (m : Mm) (x : Wi) (p : Sk Rs) (e : Ending) (w' : World) : Prop :=
  ∃ (A1 : Option Addr) (c1 : Nat) (A2 : Option Addr) (c2 : Nat) (A3 : Option Addr) (c3 : Nat), e = .returned (.tuple #[(p.ans m).val (.slice A1 (p.ans m).N.ends.length c1) (.slice A2 (p.ans m).N.slots.length c2) (.slice A3 (p.ans m).N.gaps.length c3), .int .i64 ((p.reads m).length : Int), .bool true]) ∧
    NdMine w.heap.size w' (p.ans m).N (.slice A1 (p.ans m).N.ends.length c1) (.slice A2 (p.ans m).N.slots.length c2) (.slice A3 (p.ans m).N.gaps.length c3) ∧
    MemAt w' b g m.cs (m.cnt + inbs m (p.reads m)) ∧ ArAt w' ab ag x.fst x.l (evsW x ((p.reads m).map fun q => .touch q.2)).st x.db ∧ Only (fun k => CTwo b g k ∨ ArTwo ab ag k) w w'

theorem NdMine.still' {base q : Nat} {w w' w'' : World} {n : Nd} {e s g : Value} (h : NdMine base w n e s g) (ho : Only (fun k => k = q) w w') (hn : ∀ (v : Value) (l : List Int), Mw base w v l → ∀ k, v.ownBlock = some k → ¬ k = q) (hb : Below w'.heap.size w' w'') : NdMine base w'' n e s g :=
  NdMine.still ⟨h.me.only ho (hn _ _ h.me), h.ms.only ho (hn _ _ h.ms), h.mg.only ho (hn _ _ h.mg), h.es, h.eg, h.sg⟩ hb
section
variable {w : World} {b g ab ag : Nat} {m : Mm} {x : Wi} {G : Int} {h addr kind : Int} {p : Sk Rs}
theorem after_over (p : Sk Rs) (m : Mm) (x : Wi) : (p.after some m x none (p.reads m).length) = ⟨((p.reads m).map fun q => rdv m q.1), true, ⟨m.cs, m.cnt + inbs m (p.reads m)⟩, evsW x ((p.reads m).map fun q => .touch q.2), some (p.ans m)⟩ := by
  unfold Sk.after
  simp
/-- Where the loop stands. -/
def AllRel (w1 : World) (b g tb ab ag rb : Nat) (m : Mm) (x : Wi) (p : Sk Rs) (iv : Value) (wr : World) : Prop :=
  ∃ (n : Nat) (T : Tr) (tv mv : Value), n ≤ (p.reads m).length ∧ iv = .int .i64 n ∧ WLay w1 b g tb ab ag rb (Lay (tb + 1) rb) (p.after some m x none n) T tv mv wr
set_option maxRecDepth 4000 in
set_option maxHeartbeats 8000000 in
theorem all_c (hm : MemAt w b g m.cs m.cnt) (ha : ArAt w ab ag x.fst x.l x.st x.db) (hx : WiOk x G) (hf : Fits m.cs) (hc : m.cnt + 2000 ≤ 4611686018427387904) (h0 : 0 < (p.reads m).length) (h1 : (p.reads m).length < 60) (hrun : Looks 26 b g ab ag h addr kind p x) :
    Calls Try.prog 10 #[.pointer (some ⟨b, 0, none⟩), .agg #[.pointer (some ⟨ab, 0, none⟩), .int .i64 h, .int .i64 addr, .int .i64 kind, .pointer none]] w (AllPost w b g ab ag m x p) := by
  have hnot : ∀ (x : Bool) (w : World), (Op.unary .not (.bool x)).run Try.prog w = .ok (.bool (!x)) w := fun _ _ => rfl
  have hmf : ∀ (fn : Fn) (first cap : Array Value) (w : World), (Instr.makeFunc fn first cap).run Try.prog w = .ok (.func fn first cap) w := fun _ _ _ _ => rfl
  have B := (((Bag.new w).add 40 #[.pointer (some ⟨ab, 0, none⟩), .int .i64 h, .int .i64 addr, .int .i64 kind, .pointer none]).add 35 nilR).add 35 nilR
  simp only [World.size_alloc] at B
  have HBG := Lib.hid B
  have z4 := B.v2.cell 4
  have f4 := B.v2.frozen 4
  have HM := Lib.hid hm
  have HA := Lib.hid ha
  have HX := Lib.hid hx
  have HF := Lib.hid hf
  have HC := Lib.hid hc
  have HR := Lib.hid hrun
  clear hm ha hx hf hc hrun B
  unfold nilR at *
  go_enter Try.func10, Try.ntmps10
  go_upto_region 2 with (fail)
  have QQ : Hid (w.heap.size ≤ w.heap.size + 1 + 1 ∧ w.heap.size ≤ w.heap.size ∧ w.heap.size ≤ w.heap.size + 1 ∧ w.heap.size ≠ w.heap.size + 1 + 1 ∧ w.heap.size + 1 ≠ w.heap.size + 1 + 1 ∧ w.heap.size + 1 ≠ w.heap.size) := Lib.hid (by omega)
  generalize ((w.alloc (.cells #[.pointer (some ⟨ab, 0, none⟩), .int .i64 h, .int .i64 addr, .int .i64 kind, .pointer none] 40)).alloc _).alloc _ = wA at *
  generalize w.heap.size + 1 + 1 = rb at *
  generalize w.heap.size + 1 = q1 at *
  obtain ⟨q0, hq0⟩ : ∃ q0, w.heap.size = q0 := ⟨_, rfl⟩
  have HQ0 := Lib.hid hq0
  rw [hq0] at z4 f4 HBG
  go_upto_region 3 with (fail)
  have QR : Hid (q0 ≠ rb ∧ q1 ≠ rb ∧ q1 ≠ q0 ∧ w.heap.size ≤ q0 ∧ w.heap.size ≤ rb ∧ w.heap.size ≤ q1) := Lib.hid (by have := QQ.out; omega)
  have L1 : Hid (Whole (wA.setCell ⟨q0, 4, none⟩ (.pointer (some ⟨rb, 0, none⟩))) q0 40 #[.pointer (some ⟨ab, 0, none⟩), .int .i64 h, .int .i64 addr, .int .i64 kind, .pointer (some ⟨rb, 0, none⟩)]) := Lib.hid (HBG.out.v2.put 4 _)
  have L2 := Lib.hid (HBG.out.v1.far (p := ⟨q0, 4, none⟩) QR.out.2.2.1 (.pointer (some ⟨rb, 0, none⟩)))
  have L3 := Lib.hid (HBG.out.v0.far (p := ⟨q0, 4, none⟩) (Ne.symm QR.out.1) (.pointer (some ⟨rb, 0, none⟩)))
  have BL : Hid (Below w.heap.size w (wA.setCell ⟨q0, 4, none⟩ (.pointer (some ⟨rb, 0, none⟩)))) := Lib.hid (HBG.out.bel.setCell (p := ⟨q0, 4, none⟩) QR.out.2.2.2.1 _)
  generalize wA.setCell ⟨q0, 4, none⟩ (.pointer (some ⟨rb, 0, none⟩)) = w1 at *
  clear z4 f4 HBG QQ hq0
  have M1 : Hid (MemAt w1 b g m.cs m.cnt) := Lib.hid (HM.out.only (Only.of_below BL.out (fun _ => False)) id id)
  have A1 : Hid (ArAt w1 ab ag x.fst x.l x.st x.db) := Lib.hid (HA.out.still BL.out)
  have HLT : Hid (b < w.heap.size ∧ g < w.heap.size ∧ ab < w.heap.size ∧ ag < w.heap.size) := Lib.hid ⟨HM.out.top.lt, HM.out.row.lt, HA.out.top.lt, HA.out.row.lt⟩
  clear HM HA
  go_wp2_with fail
  refine (new_trail_ex M1.out).mono ?_
  rintro e w2 ⟨tb, rfl, hs, htb, hb⟩
  have SO : Hid (AllRel w1 b g tb ab ag rb m x p (.int .i64 0) w2) := Lib.hid ⟨0, _, _, _, by omega, rfl,
    WLay.fresh p h0 ⟨hs, A1.out.still hb⟩ (Only.of_below hb _) htb (Nat.lt_of_lt_of_le L3.out.lt hb.size) (L3.out.below hb L3.out.lt) (by
      have h2 := HLT.out
      have h3 := L3.out.lt
      have h4 := QR.out.2.2.2.2.1
      rintro ((h1 | h1 | h1 | h1 | h1) | h1 | h1)
      · omega
      · omega
      · omega
      · simp [Value.ownBlock] at h1
      · simp [Value.ownBlock] at h1
      · omega
      · omega)⟩
  have HTB : Hid (q0 < tb ∧ rb < tb ∧ w.heap.size ≤ tb) := Lib.hid ⟨Nat.lt_of_lt_of_le L1.out.lt htb, Nat.lt_of_lt_of_le L3.out.lt htb, Nat.le_trans BL.out.size htb⟩
  have KP : Hid (Keeps tb (Lay (tb + 1) rb)) := Lib.hid (lay_keeps (by have := HTB.out; omega) (by omega))
  clear hs hb htb M1 A1 L3
  go_wp2_with fail
  go_loopw [9] (fun iv wr => AllRel w1 b g tb ab ag rb m x p iv wr) (fun iv _ => 60 - (intOf iv).toNat)
  case atStart => exact SO.out
  case round =>
    obtain ⟨n, T, tv, mv, hn, rfl, hL⟩ := hrel
    have S1 := Lib.hid hL
    have OV := Lib.hid (overs hL.st.st)
    rw [hL.over] at OV
    have hw0 : ∀ k, k = q0 ∨ k = q1 → ¬ (CTwo b g k ∨ ArTwo ab ag k ∨ k = rb) := by
      intro k hk
      have h2 := HLT.out
      have h4 := QR.out
      rcases hk with rfl | rfl <;> rintro ((h1 | h1) | (h1 | h1) | h1) <;> omega
    have LK := Lib.hid (L1.out.only hL.only (hw0 _ (.inl rfl)))
    have LQ := Lib.hid (L2.out.only hL.only (hw0 _ (.inr rfl)))
    rw [← HQ0.out] at LK
    obtain ⟨a0, a1, a2, a3, a4⟩ := lk5 LK.out
    clear hL SO hw0
    by_cases hlt : n < (p.reads m).length
    · have X := Lib.hid (alone_step (F := 29) (first := #[.agg #[.pointer (some ⟨ab, 0, none⟩), .int .i64 h, .int .i64 addr, .int .i64 kind, .pointer (some ⟨rb, 0, none⟩)]]) n KP.out (HR.out tb rb) (fun _ => rfl) hlt (by omega) HC.out HX.out HF.out S1.out)
      have ov : (p.after some m x none n).over = false := by simp only [Sk.after]; exact decide_eq_false (by omega)
      rw [ov] at OV
      have i60 : (n : Int) < 60 := by omega
      clear S1 ov LQ
      go_wp2_with fail
      refine OV.out.mono ?_
      rintro e w5 ⟨rfl, rfl⟩
      clear OV
      go_wp2_with fail
      refine X.out.mono ?_
      rintro e w6 ⟨T', tv', mv', rfl, hS'⟩
      have S2 := Lib.hid hS'
      clear hS' X LK a0 a1 a2 a3 a4
      go_wp2_with fail
      go_roundw
      case rel => exact ⟨n + 1, _, _, _, by omega, by go_num, S2.out⟩
      case measure => simp [intOf]; omega
    · have hn2 : n = (p.reads m).length := by omega
      subst hn2
      rw [after_over] at S1 OV
      have ST := Lib.hid (steps S1.out.st.st)
      rw [S1.out.told, List.length_map] at ST
      have i60 : ((p.reads m).length : Int) < 60 := by omega
      clear hn LK a0 a1 a2 a3 a4
      have S2 := Lib.hid (S1.out.still KP.out (below_drew (Below.refl wr.heap.size wr)))
      have OD := Lib.hid (overs S2.out.st.st)
      rw [S2.out.over] at OD
      have SD := Lib.hid (steps S2.out.st.st)
      rw [S2.out.told, List.length_map] at SD
      have LQ0 := Lib.hid LQ.out
      have LQ := Lib.hid (LQ.out.drew)
      obtain ⟨e1, e2, e3, hr, hmi⟩ := S1.out.cell
      generalize hra : p.ans m = r at *
      have HRA := Lib.hid hra
      clear hra
      obtain ⟨B1, c1, rfl⟩ := own_slice hmi.me
      obtain ⟨B2, c2, rfl⟩ := own_slice hmi.ms
      obtain ⟨B3, c3, rfl⟩ := own_slice hmi.mg
      have RW : Hid (Whole wr rb 35 #[.int .i64 r.V, .bool r.I, .bool r.O, .int .i64 r.A.s, .int .i64 r.A.e, .int .i64 r.A.p, .bool r.A.sh, .int .i64 r.A.bk, .int .i64 r.A.off, .bool r.N.inner, .int .i64 r.N.lo, .slice B1 r.N.ends.length c1, .slice B2 r.N.slots.length c2, .slice B3 r.N.gaps.length c3]) := Lib.hid hr
      have hne1 : ∀ k, CTwo b g k ∨ ArTwo ab ag k → k ≠ q1 := by
        have h2 := HLT.out
        have h4 := QR.out
        rintro k ((h1 | h1) | (h1 | h1)) <;> omega
      have hp0 := put14 LQ0.out (.int .i64 r.V) (.bool r.I) (.bool r.O) (.int .i64 r.A.s) (.int .i64 r.A.e) (.int .i64 r.A.p) (.bool r.A.sh) (.int .i64 r.A.bk) (.int .i64 r.A.off) (.bool r.N.inner) (.int .i64 r.N.lo) (.slice B1 r.N.ends.length c1) (.slice B2 r.N.slots.length c2) (.slice B3 r.N.gaps.length c3)
      have ho := only14 wr q1 (.int .i64 r.V) (.bool r.I) (.bool r.O) (.int .i64 r.A.s) (.int .i64 r.A.e) (.int .i64 r.A.p) (.bool r.A.sh) (.int .i64 r.A.bk) (.int .i64 r.A.off) (.bool r.N.inner) (.int .i64 r.N.lo) (.slice B1 r.N.ends.length c1) (.slice B2 r.N.slots.length c2) (.slice B3 r.N.gaps.length c3)
      obtain ⟨wE, hE⟩ : ∃ wE, set14 wr q1 (.int .i64 r.V) (.bool r.I) (.bool r.O) (.int .i64 r.A.s) (.int .i64 r.A.e) (.int .i64 r.A.p) (.bool r.A.sh) (.int .i64 r.A.bk) (.int .i64 r.A.off) (.bool r.N.inner) (.int .i64 r.N.lo) (.slice B1 r.N.ends.length c1) (.slice B2 r.N.slots.length c2) (.slice B3 r.N.gaps.length c3) = wE := ⟨_, rfl⟩
      rw [hE] at ho hp0
      have HE := Lib.hid hE
      unfold set14 at HE
      clear hE
      have HD := below_drew (Below.refl wE.heap.size wE)
      have P0 := Lib.hid hp0.drew
      have F1 := Lib.hid ((hmi.base' (show w.heap.size ≤ tb + 1 by have := HTB.out; omega)).still' ho (fun v l hv k hk hq => by
        subst hq
        exact own_apart hv LQ0.out (by decide) hk) HD)
      have F2 : Hid (MemAt wE.drew b g m.cs (m.cnt + inbs m (p.reads m))) := Lib.hid ((S1.out.st.st.mem.only ho (hne1 _ (.inl (.inl rfl))) (hne1 _ (.inl (.inr rfl)))).only (Only.of_below HD (fun _ => False)) id id)
      have F3 := Lib.hid ((S1.out.st.ar.only ho (hne1 _ (.inr (.inl rfl))) (hne1 _ (.inr (.inr rfl)))).still HD)
      have F4 : Hid (Only (fun k => CTwo b g k ∨ ArTwo ab ag k) w wE.drew) := Lib.hid (by
        have h4 := QR.out
        have h5 := BL.out.size
        refine ⟨HD.os.trans (ho.os.trans (S1.out.only.os.trans BL.out.os)), HD.tape.trans (ho.tape.trans (S1.out.only.tape.trans BL.out.tape)), HD.output.trans (ho.output.trans (S1.out.only.output.trans BL.out.output)), ?_, ?_⟩
        · exact Nat.le_trans h5 (Nat.le_trans S1.out.only.size (Nat.le_trans ho.size HD.size))
        · intro k hk hn
          have e1 : wE.drew.heap[k]? = wE.heap[k]? := rfl
          rw [e1, ho.block k (Nat.lt_of_lt_of_le hk (Nat.le_trans h5 S1.out.only.size)) (by omega), S1.out.only.block k (Nat.lt_of_lt_of_le hk h5) (by rintro (h6 | h6 | h6); exact hn (.inl h6); exact hn (.inr h6); omega)]
          exact BL.out.block k hk)
      have WS := Lib.hid (row14 (RW.out.only ho (Ne.symm QR.out.2.1)).drew)
      have WR := Lib.hid (row14 RW.out.drew)
      rw [← HE.out] at WS
      clear hr hmi ST ho HD hne1 hp0
      obtain ⟨zz0, zz1, zz2, zz3, zz4, zz5, zz6, zz7, zz8, zz9, zz10, zz11, zz12, zz13⟩ := row14 LQ0.out
      obtain ⟨ff0, ff1, ff2, ff3, ff4, ff5, ff6, ff7, ff8, ff9, ff10, ff11, ff12, ff13⟩ := row14f LQ0.out
      have OV2 := Lib.hid OV.out
      go_wp2_with fail
      refine OV2.out.mono ?_
      rintro e w5 ⟨rfl, rfl⟩
      clear OV OV2
      go_upto_region 8 with (fail)
      generalize hN : (p.reads m).length = N at *
      have HN := Lib.hid hN
      clear hN
      go_region_held3 (fun W => W.cell? ⟨rb, 0, none⟩ = some (.int .i64 r.V) ∧ W.cell? ⟨rb, 1, none⟩ = some (.bool r.I) ∧ W.cell? ⟨rb, 2, none⟩ = some (.bool r.O) ∧ W.cell? ⟨rb, 3, none⟩ = some (.int .i64 r.A.s) ∧ W.cell? ⟨rb, 4, none⟩ = some (.int .i64 r.A.e) ∧ W.cell? ⟨rb, 5, none⟩ = some (.int .i64 r.A.p) ∧ W.cell? ⟨rb, 6, none⟩ = some (.bool r.A.sh) ∧ W.cell? ⟨rb, 7, none⟩ = some (.int .i64 r.A.bk) ∧ W.cell? ⟨rb, 8, none⟩ = some (.int .i64 r.A.off) ∧ W.cell? ⟨rb, 9, none⟩ = some (.bool r.N.inner) ∧ W.cell? ⟨rb, 10, none⟩ = some (.int .i64 r.N.lo) ∧ W.cell? ⟨rb, 11, none⟩ = some (.slice B1 r.N.ends.length c1) ∧ W.cell? ⟨rb, 12, none⟩ = some (.slice B2 r.N.slots.length c2) ∧ W.cell? ⟨rb, 13, none⟩ = some (.slice B3 r.N.gaps.length c3))
        (first | with_reducible exact WR.out | with_reducible exact WS.out)
        (first
        | (go_at_call 30; refine SD.out.mono ?_; rintro e w9 ⟨rfl, rfl⟩; clear SD)
        | (go_at_call 27; refine OD.out.mono ?_; rintro e w9 ⟨rfl, rfl⟩; clear OD)
        | fail)
      all_goals
        rw [HE.out]
        clear WS WR RW zz0 zz1 zz2 zz3 zz4 zz5 zz6 zz7 zz8 zz9 zz10 zz11 zz12 zz13 ff0 ff1 ff2 ff3 ff4 ff5 ff6 ff7 ff8 ff9 ff10 ff11 ff12 ff13
        have FIN : Hid (AllPost w b g ab ag m x p (.returned (.tuple #[.agg #[.int .i64 r.V, .bool r.I, .bool r.O, .int .i64 r.A.s, .int .i64 r.A.e, .int .i64 r.A.p, .bool r.A.sh, .int .i64 r.A.bk, .int .i64 r.A.off, .bool r.N.inner, .int .i64 r.N.lo, .slice B1 r.N.ends.length c1, .slice B2 r.N.slots.length c2, .slice B3 r.N.gaps.length c3], .int .i64 (N : Int), .bool true])) wE.drew) := Lib.hid (by
          have t1 := touches_same x (p.reads m)
          have f3 := F3.out
          rw [t1.1, t1.2.1, t1.2.2] at f3
          refine ⟨B1, c1, B2, c2, B3, c3, ?_, ?_, F2.out, f3, F4.out⟩
          · rw [HRA.out, HN.out]; rfl
          · rw [HRA.out]; exact F1.out)
        clear F1 F2 F3 F4
        go_wp2_with fail
        refine bodyPost_ret (results_row_tmp2 rfl _ _ q1 35 _ (0, 0) _ rfl P0.out Try.underlying35 rfl (by kernel_rfl)) rfl ?_
        exact FIN.out
end
end Go.Proofs.Ytiiclmaphiajmaa

/-
  Layer 16: slots that have given words: the memory and the arena that the laws begin with.
-/
namespace Go.Proofs.Ytiiclmaphiajmaa
open Go.ChangeShapes Go.WideShapes Go.ChangeAt Go.RowKit
set_option linter.unusedVariables false

/-! Rows of 28 words, one behind the other. -/
def All28 (ls : List (List Int)) : Prop := ∀ i, i < ls.length → (ls.getD i []).length = 28
theorem all28_tail {l : List Int} {ls : List (List Int)} (h : All28 (l :: ls)) : l.length = 28 ∧ All28 ls := by
  refine ⟨h 0 (by simp), fun i hi => ?_⟩
  have := h (i + 1) (by simp; omega)
  simpa using this
theorem flat_len {ls : List (List Int)} (h : All28 ls) : ls.flatten.length = 28 * ls.length := by
  induction ls with
  | nil => rfl
  | cons l ls ih =>
    obtain ⟨h1, h2⟩ := all28_tail h
    simp only [List.flatten_cons, List.length_append, List.length_cons]
    rw [ih h2, h1]
    omega
theorem nth_flat {ls : List (List Int)} (h : All28 ls) (i k : Nat) (hi : i < ls.length) (hk : k < 28) : nth ls.flatten (28 * i + k) = nth (ls.getD i []) k := by
  induction ls generalizing i with
  | nil => simp at hi
  | cons l ls ih =>
    obtain ⟨h1, h2⟩ := all28_tail h
    simp only [List.flatten_cons]
    match i with
    | 0 => rw [nth_app_lt (by omega)]; simp
    | i + 1 =>
      rw [nth_app_ge (by omega), h1, show 28 * (i + 1) + k - 28 = 28 * i + k by omega, ih h2 i (by simpa using hi)]
      simp
/-- The cells, when c words are stored. -/
def fillTo (flat : List Int) (c : Nat) : List Int := [0, 0, 0] ++ (flat.take c ++ List.replicate (flat.length - c) 0)
theorem fillTo_len (flat : List Int) {c : Nat} (h : c ≤ flat.length) : (fillTo flat c).length = 3 + flat.length := by
  simp [fillTo]
  omega
theorem nth_fillTo (flat : List Int) {c : Nat} (h : c ≤ flat.length) (i : Nat) : nth (fillTo flat c) i = if i < 3 then 0 else if i - 3 < c then nth flat (i - 3) else 0 := by
  unfold fillTo
  rw [nth_app]
  split
  · rename_i h1
    have h1 : i < 3 := h1
    rw [if_pos h1]
    match i, h1 with
    | 0, _ => rfl
    | 1, _ => rfl
    | 2, _ => rfl
  · rename_i h1
    have h1 : ¬ i < 3 := h1
    rw [if_neg h1, nth_app]
    have e : ([0, 0, 0] : List Int).length = 3 := rfl
    have e2 : (flat.take c).length = c := by simp; omega
    rw [e, e2]
    split
    · rename_i h2
      rw [nth_take, if_pos h2]
    · rw [nth_zeros]
theorem fillTo_step (flat : List Int) {c : Nat} (h : c < flat.length) : (fillTo flat c).set (3 + c) (nth flat c) = fillTo flat (c + 1) := by
  apply ext_nth
  · rw [List.length_set, fillTo_len _ (by omega), fillTo_len _ (by omega)]
  · intro i hi
    rw [List.length_set] at hi
    rw [nth_set _ _ _ _ hi, nth_fillTo _ (by omega), nth_fillTo _ (by omega)]
    by_cases h1 : i = 3 + c
    · subst h1
      rw [if_pos rfl, if_neg (by omega), if_pos (by omega), show 3 + c - 3 = c by omega]
    · rw [if_neg h1]
      by_cases h2 : i < 3
      · rw [if_pos h2, if_pos h2]
      · rw [if_neg h2, if_neg h2]
        by_cases h3 : i - 3 < c
        · rw [if_pos h3, if_pos (by omega)]
        · rw [if_neg h3, if_neg (by omega)]
theorem fillTo_zero (flat : List Int) : fillTo flat 0 = List.replicate (3 + flat.length) 0 := by
  apply ext_nth
  · rw [fillTo_len _ (by omega)]; simp
  · intro i hi
    rw [nth_fillTo _ (by omega), nth_zeros]
    split <;> simp
/-- The slots, when i are born. -/
def bornTo (n i : Nat) : Slots := List.replicate i (1, true) ++ List.replicate (n - i) (0, false)
theorem bornTo_len {n i : Nat} (h : i ≤ n) : (bornTo n i).length = n := by simp [bornTo]; omega
theorem bornTo_at {n i : Nat} (h : i ≤ n) (j : Nat) : (bornTo n i).getD j (0, false) = if j < i then (1, true) else (0, false) := by
  unfold bornTo
  rw [List.getD_eq_getElem?_getD]
  by_cases hj : j < i
  · rw [List.getElem?_append_left (by simpa using hj), if_pos hj]
    simp [hj]
  · rw [List.getElem?_append_right (by simpa using hj), if_neg hj]
    simp only [List.length_replicate, List.getElem?_replicate]
    split <;> rfl
theorem bornTo_step {n i : Nat} (h : i < n) : bornAt (bornTo n i) i = bornTo n (i + 1) := by
  have g : genAt (bornTo n i) i = 0 := by unfold genAt; rw [bornTo_at (by omega), if_neg (by omega)]
  unfold bornAt
  rw [g]
  apply List.ext_getElem
  · rw [List.length_set, bornTo_len (by omega), bornTo_len (by omega)]
  · intro j h1 h2
    have hj : j < n := by rw [bornTo_len (by omega)] at h2; exact h2
    have a := bornTo_at (n := n) (i := i) (by omega) j
    have b := bornTo_at (n := n) (i := i + 1) (by omega) j
    rw [List.getD_eq_getElem?_getD, List.getElem?_eq_getElem h2] at b
    rw [List.length_set] at h1
    rw [List.getD_eq_getElem?_getD, List.getElem?_eq_getElem h1] at a
    simp only [Option.getD_some] at a b
    rw [List.getElem_set, b, a]
    by_cases c1 : i = j
    · subst c1; rw [if_pos rfl, if_pos (by omega)]; rfl
    · rw [if_neg c1]
      by_cases c2 : j < i
      · rw [if_pos c2, if_pos (by omega)]
      · rw [if_neg c2, if_neg (by omega)]
theorem bornTo_live {n i : Nat} (h : i < n) : liveAt (bornTo n i) i = false := by unfold liveAt; rw [bornTo_at (by omega), if_neg (by omega)]
theorem bornTo_gens {n i : Nat} (h : i ≤ n) : Gens (bornTo n i) 1 := by
  intro p hp
  unfold bornTo at hp
  rcases List.mem_append.1 hp with h1 | h1
  · rw [(List.mem_replicate.1 h1).2]; omega
  · rw [(List.mem_replicate.1 h1).2]; omega
theorem bornTo_zero (n : Nat) : bornTo n 0 = freshS n := by simp [bornTo, freshS]

/-- A slice of slices of numbers, as it reads. -/
def Wss (w : World) (v : Value) (ls : List (List Int)) : Prop := ∃ A c, v = .slice A ls.length c ∧ ls.length ≤ c ∧ (0 < ls.length → ∃ b off, A = some ⟨b, off, none⟩ ∧ ∀ i, i < ls.length → ∃ u, w.cell? ⟨b, off + i, none⟩ = some u ∧ Wds w u (ls.getD i []))
/-- What Slots leaves. -/
def SlotsPost (w : World) (ls : List (List Int)) (e : Ending) (w' : World) : Prop :=
  ∃ mb mg ab ag : Nat, e = .returned (.tuple #[.pointer (some ⟨mb, 0, none⟩), .pointer (some ⟨ab, 0, none⟩)]) ∧ MemAt w' mb mg (fillTo ls.flatten (28 * ls.length)) (28 * ls.length : Nat) ∧ ArAt w' ab ag 3 (bornTo ls.length ls.length) false false ∧
    w.heap.size ≤ mb ∧ w.heap.size ≤ mg ∧ w.heap.size ≤ ab ∧ w.heap.size ≤ ag ∧ Below w.heap.size w w'
/-- While they are laid. -/
structure SlAt (w : World) (mb mg ab ag : Nat) (flat : List Int) (n c i : Nat) (wr : World) : Prop where
  m : MemAt wr mb mg (fillTo flat c) (c : Nat)
  a : ArAt wr ab ag 3 (bornTo n i) false false
  bel : Below w.heap.size w wr
theorem mem_ar {w : World} {b g ab ag k : Nat} {cs : List Int} {cnt fst : Int} {l : Slots} {st db : Bool} (h : MemAt w b g cs cnt) (h' : ArAt w ab ag fst l st db) (hk : CTwo b g k) (hk' : ArTwo ab ag k) : False := by
  rcases hk with rfl | rfl <;> rcases hk' with rfl | rfl
  · exact h.top.apart h'.top (by decide) rfl
  · exact h.top.apart h'.row (by decide) rfl
  · exact h.row.apart h'.top (by decide) rfl
  · exact h.row.apart h'.row (by decide) rfl
theorem SlAt.store {w wr w' : World} {mb mg ab ag n c i : Nat} {flat : List Int} {v : Value} {e : Ending} (h : SlAt w mb mg ab ag flat n c i wr) (hb : w.heap.size ≤ mb) (hg : w.heap.size ≤ mg) (hc : c < flat.length) (hd : Did wr mb mg v ((fillTo flat c).set (3 + c) (nth flat c)) ((c : Nat) + 1) e w') : e = .returned v ∧ SlAt w mb mg ab ag flat n (c + 1) i w' := by
  obtain ⟨he, hm, ho⟩ := hd
  rw [fillTo_step _ hc] at hm
  refine ⟨he, ?_, h.a.only ho (fun hk => mem_ar h.m h.a hk (.inl rfl)) (fun hk => mem_ar h.m h.a hk (.inr rfl)), h.bel.trans (ho.below (fun k hk => by rcases hk with rfl | rfl <;> assumption) h.bel.size)⟩
  rw [show ((c + 1 : Nat) : Int) = (c : Int) + 1 by omega]
  exact hm
theorem SlAt.born {w wr w' : World} {mb mg ab ag n c i : Nat} {flat : List Int} {v : Value} {e : Ending} (h : SlAt w mb mg ab ag flat n c i wr) (hb : w.heap.size ≤ ab) (hg : w.heap.size ≤ ag) (hi : i < n) (hd : ArDid wr ab ag v 3 (bornAt (bornTo n i) i) false (false || liveAt (bornTo n i) i) e w') : e = .returned v ∧ SlAt w mb mg ab ag flat n c (i + 1) w' := by
  obtain ⟨he, ha, ho⟩ := hd
  rw [bornTo_step hi, bornTo_live hi] at ha
  exact ⟨he, h.m.only ho (fun hk => mem_ar h.m h.a (.inl rfl) hk) (fun hk => mem_ar h.m h.a (.inr rfl) hk), ha, h.bel.trans (ho.below (fun k hk => by rcases hk with rfl | rfl <;> assumption) h.bel.size)⟩

set_option maxHeartbeats 8000000 in
theorem slots_c {w : World} {v : Value} {ls : List (List Int)} (h : Wss w v ls) (h28 : All28 ls) (hn : ls.length ≤ 100) (h0 : 0 < ls.length) : Calls Try.prog 9 #[v] w (SlotsPost w ls) := by
  obtain ⟨A, c0, rfl, hc, hA⟩ := h
  obtain ⟨b0, o0, rfl, hrow⟩ := hA h0
  have HF := Lib.hid (flat_len h28)
  have HN := Lib.hid (fun i k hi hk => nth_flat h28 i k hi hk)
  have RD : Hid (∀ W i, Below w.heap.size w W → i < ls.length → ∃ (bi oi ci : Nat), W.cell? ⟨b0, o0 + i, none⟩ = some (.slice (some ⟨bi, oi, none⟩) 28 ci) ∧ ∀ k, k < 28 → W.cell? ⟨bi, oi + k, none⟩ = some (.int .i64 (nth (ls.getD i []) k))) := Lib.hid (by
    intro W i hb hi
    obtain ⟨u, hu, A, ci, rfl, hci, hz⟩ := hrow i hi
    have hl := h28 i hi
    rw [hl] at hz hu hci
    obtain ⟨bi, oi, rfl, hcell⟩ := hz (by omega)
    refine ⟨bi, oi, ci, ?_, fun k hk => ?_⟩
    · rw [hb.cell (p := ⟨b0, o0 + i, none⟩) (World.block_lt_of_cell? _ _ hu)]; exact hu
    · have e := hcell k hk
      rw [hb.cell (p := ⟨bi, oi + k, none⟩) (World.block_lt_of_cell? _ _ e)]; exact e)
  clear hA hrow
  have FIN : Hid (∀ W mb mg ab ag, SlAt w mb mg ab ag ls.flatten ls.length (28 * ls.length) ls.length W → w.heap.size ≤ mb → w.heap.size ≤ mg → w.heap.size ≤ ab → w.heap.size ≤ ag → SlotsPost w ls (.returned (.tuple #[.pointer (some ⟨mb, 0, none⟩), .pointer (some ⟨ab, 0, none⟩)])) W) := Lib.hid (fun W mb mg ab ag s a1 a2 a3 a4 => ⟨mb, mg, ab, ag, rfl, s.m, s.a, a1, a2, a3, a4, s.bel⟩)
  have HL : Hid (∀ i, ls.getD i [] = ls.getD i []) := Lib.hid (fun _ => rfl)
  obtain ⟨row, hr⟩ : ∃ row : Nat → List Int, (fun i => ls.getD i []) = row := ⟨_, rfl⟩
  have RD : Hid (∀ W i, Below w.heap.size w W → i < ls.length → ∃ (bi oi ci : Nat), W.cell? ⟨b0, o0 + i, none⟩ = some (.slice (some ⟨bi, oi, none⟩) 28 ci) ∧ ∀ k, k < 28 → W.cell? ⟨bi, oi + k, none⟩ = some (.int .i64 (nth (row i) k))) := Lib.hid (by rw [← hr]; exact RD.out)
  have HN : Hid (∀ i k, i < ls.length → k < 28 → nth ls.flatten (28 * i + k) = nth (row i) k) := Lib.hid (by rw [← hr]; exact HN.out)
  clear hr HL h28
  obtain ⟨P, hP⟩ : ∃ P, SlotsPost w ls = P := ⟨_, rfl⟩
  rw [hP] at FIN ⊢
  clear hP
  generalize ls.flatten = flat at *
  generalize ls.length = n at *
  have e1 : many (3 + 28 * (n : Int)) = 3 + flat.length := by rw [HF.out]; unfold many; omega
  have e2 : slotsOf (n : Int) = n := by unfold slotsOf; omega
  have E1 := Lib.hid e1
  have E2 := Lib.hid e2
  clear e1 e2
  go_enter Try.func9, Try.ntmps9
  go_wp2_with fail
  refine (new_mem_ex _ _).mono ?_
  rintro e w1 ⟨mb, mg, rfl, hm, hmb, hmg, hb1⟩
  have hm : MemAt w1 mb mg (fillTo flat 0) (0 : Nat) := by
    rw [fillTo_zero, ← E1.out]
    exact hm
  have HM := Lib.hid hm
  have HB1 := Lib.hid hb1
  have MB : Hid (w.heap.size ≤ mb ∧ w.heap.size ≤ mg) := Lib.hid ⟨hmb, hmg⟩
  clear hm hb1 hmb hmg
  go_wp2_with fail
  refine (arNew_any _ _ _).mono ?_
  rintro e w2 ⟨rfl, ha, hb2, hz⟩
  have hsz := HB1.out.size
  have AB : Hid (w.heap.size ≤ w1.heap.size + 1 ∧ w.heap.size ≤ w1.heap.size) := Lib.hid (by omega)
  have S0 : Hid (SlAt w mb mg (w1.heap.size + 1) w1.heap.size flat n (28 * 0) 0 w2) := Lib.hid (by
    refine ⟨HM.out.only (Only.of_below hb2 (fun _ => False)) id id, ?_, HB1.out.trans (hb2.mono hsz)⟩
    rw [E2.out] at ha
    rw [bornTo_zero]
    exact ha)
  clear HM ha hb2 hz HB1 hsz E1 E2
  generalize w1.heap.size + 1 = ab at *
  generalize w1.heap.size = ag at *
  go_wp2_with fail
  go_loopw [6] (fun iv wr => ∃ i : Nat, i ≤ n ∧ iv = .int .i64 i ∧ SlAt w mb mg ab ag flat n (28 * i) i wr) (fun iv _ => n - (intOf iv).toNat)
  case atStart => exact ⟨0, by omega, rfl, S0.out⟩
  case round =>
    obtain ⟨i, hi, rfl, hS⟩ := hrel
    have S1 := Lib.hid hS
    clear hS S0
    by_cases hlt : i < n
    · have ln := bornTo_len (show i ≤ n by omega)
      have BO := Lib.hid (born_yes i 1 S1.out.a (bornTo_gens (by omega)) (by omega) (by omega) (by omega))
      clear ln
      go_wp2_with fail
      refine BO.out.mono ?_
      intro e w3 hd
      obtain ⟨rfl, hS⟩ := S1.out.born AB.out.1 AB.out.2 hlt hd
      have S2 : Hid (SlAt w mb mg ab ag flat n (28 * i + 0) (i + 1) w3) := Lib.hid hS
      clear hS hd BO S1
      go_wp2_with fail
      go_loopw [7] (fun kv wr => ∃ k : Nat, k ≤ 28 ∧ kv = .int .i64 k ∧ SlAt w mb mg ab ag flat n (28 * i + k) (i + 1) wr) (fun kv _ => 28 - (intOf kv).toNat)
      case atStart => exact ⟨0, by omega, rfl, S2.out⟩
      case round =>
        obtain ⟨k, hk, rfl, hS⟩ := hrel
        have S1 := Lib.hid hS
        clear S2 hS
        obtain ⟨bi, oi, ci, r1, r2⟩ := RD.out _ i S1.out.bel hlt
        have hi2 : (i : Int) < n := by omega
        by_cases hk2 : k < 28
        · have r3 := r2 k hk2
          have hk3 : (k : Int) < 28 := by omega
          have hw : IntKind.i64.wrap (28 * (i : Int)) = 28 * (i : Int) := by rw [IntKind.wrap_i64]; omega
          have hw2 : IntKind.i64.wrap (3 + 28 * (i : Int)) = 3 + 28 * (i : Int) := by rw [IntKind.wrap_i64]; omega
          have hw3 : IntKind.i64.wrap (3 + 28 * (i : Int) + (k : Int)) = 3 + 28 * (i : Int) + (k : Int) := by rw [IntKind.wrap_i64]; omega
          have hf := HF.out
          have hcl : 28 * i + k < flat.length := by omega
          have ST := Lib.hid (store_in (3 + 28 * (i : Int) + (k : Int)) (nth (row i) k) S1.out.m (by omega) (by rw [fillTo_len _ (by omega)]; omega) (by omega))
          rw [show (3 + 28 * (i : Int) + (k : Int)).toNat = 3 + (28 * i + k) by omega] at ST
          clear hf
          go_wp2_with fail
          refine ST.out.mono ?_
          intro e w5 hd
          rw [← HN.out i k hlt hk2] at hd
          obtain ⟨rfl, hS⟩ := S1.out.store MB.out.1 MB.out.2 hcl hd
          have S3 := Lib.hid hS
          clear hS hd ST S1 r1 r2 r3 hw hw2 hw3
          go_wp2_with fail
          go_roundw
          case rel => exact ⟨k + 1, by omega, by go_num, S3.out⟩
          case measure => simp [intOf]; omega
        · have hk28 : k = 28 := by omega
          subst hk28
          clear r1 r2
          go_wp2_with fail
          go_roundw
          case rel => exact ⟨i + 1, by omega, by go_num, by rw [show 28 * (i + 1) = 28 * i + 28 by omega]; exact S1.out⟩
          case measure => simp [intOf]; omega
    · have hn2 : i = n := by omega
      subst hn2
      have FX := Lib.hid (FIN.out _ _ _ _ _ S1.out MB.out.1 MB.out.2 AB.out.1 AB.out.2)
      clear FIN S1 RD HN
      go_wp2_with fail
      exact FX.out
end Go.Proofs.Ytiiclmaphiajmaa

/-
  Layer 16: what the laws are told, in words; words, and what a program that does nothing does not answer.
-/
namespace Go.Proofs.Ytiiclmaphiajmaa
open Go.ChangeShapes Go.WideShapes Go.ChangeAt Go.RowKit
set_option linter.unusedVariables false

/-! What comes of a slot's words. -/
def lookFromW (x : List Int) (addr : Int) (inn : Bool) : Nat → Nat → (Int × Bool × Bool) × Nat
  | 0, i => ((0, false, false), 1 + i)
  | n + 1, i => if nth x (2 + i) ≤ addr then lookFromW x addr inn n (i + 1) else ((nth x (10 + i), inn, true), 3 + i)
def lookW (x : List Int) (addr : Int) : (Int × Bool × Bool) × Nat := if entOk (nth x 0) then lookFromW x addr (entI (nth x 0)) (entK (nth x 0)) 0 else ((0, false, false), 1)
/-- The first eight words, and noughts. -/
def eight (x : List Int) : List Int := fill (x.take 8) 28
open Classical in
noncomputable def nodeW (x : List Int) : Option Nd × Nat := if entOk (nth x 0) then (if NdF (unN x (entK (nth x 0))) then some (unN x (entK (nth x 0))) else none, 2 + 3 * entK (nth x 0)) else (none, 1)

/-- A memory in which c tells where the words x lie. -/
structure Words (m : Mm) (c : Int → Int) (x : List Int) : Prop where
  at_ : ∀ k : Nat, k < 28 → rdv m (c (k : Int)) = nth x k
  inb : ∀ k : Nat, k < 28 → inb (c (k : Int)) m = true
  len : x.length = 28
section
variable {m : Mm} {c : Int → Int} {x : List Int} {h : Int}
theorem look_from (W : Words m c x) (addr : Int) (inn : Bool) (n i : Nat) (hn : i + n ≤ 8) : (lookFrom c h addr inn n i).ans m = (lookFromW x addr inn n i).1 ∧ ((lookFrom c h addr inn n i).reads m).length + 1 + i = (lookFromW x addr inn n i).2 ∧ ∀ q ∈ (lookFrom c h addr inn n i).reads m, inb q.1 m = true ∧ q.2 = h := by
  induction n generalizing i with
  | zero => exact ⟨rfl, by simp [lookFrom, lookFromW, Sk.reads], fun q hq => by simp [lookFrom, Sk.reads] at hq⟩
  | succ n ih =>
    have e1 := W.at_ (2 + i) (by omega)
    have e2 := W.at_ (10 + i) (by omega)
    have i1 := W.inb (2 + i) (by omega)
    have i2 := W.inb (10 + i) (by omega)
    rw [show ((2 + i : Nat) : Int) = 2 + (i : Int) by omega] at e1 i1
    rw [show ((10 + i : Nat) : Int) = 10 + (i : Int) by omega] at e2 i2
    unfold lookFrom lookFromW
    simp only [Sk.ans, Sk.reads, e1]
    by_cases hle : nth x (2 + i) ≤ addr
    · rw [if_pos hle, if_pos hle]
      obtain ⟨h1, h2, h3⟩ := ih (i + 1) (by omega)
      refine ⟨h1, by rw [← h2]; simp only [List.length_cons]; omega, fun q hq => ?_⟩
      rcases List.mem_cons.1 hq with rfl | hq
      · exact ⟨i1, rfl⟩
      · exact h3 q hq
    · rw [if_neg hle, if_neg hle]
      simp only [Sk.ans, Sk.reads, e2]
      refine ⟨rfl, by simp only [List.length_cons, List.length_nil] <;> omega, fun q hq => ?_⟩
      simp only [List.mem_cons, List.not_mem_nil, or_false] at hq
      rcases hq with rfl | rfl
      · exact ⟨i1, rfl⟩
      · exact ⟨i2, rfl⟩
theorem look_ans (W : Words m c x) (addr : Int) : (lookP c h addr).ans m = (lookW x addr).1 ∧ ((lookP c h addr).reads m).length = (lookW x addr).2 ∧ ∀ q ∈ (lookP c h addr).reads m, inb q.1 m = true ∧ q.2 = h := by
  have e0 : rdv m (c 0) = nth x 0 := W.at_ 0 (by omega)
  have i0 : inb (c 0) m = true := W.inb 0 (by omega)
  unfold lookP lookW
  simp only [Sk.ans, Sk.reads, e0]
  cases hk : entOk (nth x 0) with
  | false => exact ⟨rfl, rfl, fun q hq => by simp [Sk.reads] at hq; rw [hq]; exact ⟨i0, rfl⟩⟩
  | true =>
    simp only [if_true]
    have := entK_hi (nth x 0)
    obtain ⟨h1, h2, h3⟩ := look_from (h := h) W addr (entI (nth x 0)) (entK (nth x 0)) 0 (by omega)
    refine ⟨h1, by rw [← h2]; simp, fun q hq => ?_⟩
    rcases List.mem_cons.1 hq with rfl | hq
    · exact ⟨i0, rfl⟩
    · exact h3 q hq
theorem area_from (W : Words m c x) (n i : Nat) (hn : i + n = 8) (l : List Int) (hl : l = fill (x.take i) 28) : (areaFrom c h n i l).ans m = areaOf (eight x) ∧ ((areaFrom c h n i l).reads m).length = n := by
  induction n generalizing i l with
  | zero =>
    have : i = 8 := by omega
    subst this
    subst hl
    exact ⟨rfl, rfl⟩
  | succ n ih =>
    have e1 := W.at_ i (by omega)
    have hw := W.len
    rw [areaFrom_next]
    simp only [Sk.ans, Sk.reads, e1]
    obtain ⟨h1, h2⟩ := ih (i + 1) (by omega) (l.set i (nth x i)) (by
      subst hl
      have l1 : (fill (x.take i) 28).length = 28 := fill_len (by simp; omega)
      have l2 : (fill (x.take (i + 1)) 28).length = 28 := fill_len (by simp; omega)
      apply ext_nth
      · rw [List.length_set, l1, l2]
      · intro k hk
        rw [List.length_set, l1] at hk
        rw [nth_set _ _ _ _ (by omega), nth_fill, nth_fill, nth_take, nth_take]
        by_cases h3 : k = i
        · subst h3; rw [if_pos rfl, if_pos (by omega)]
        · rw [if_neg h3]
          by_cases h4 : k < i
          · rw [if_pos h4, if_pos (by omega)]
          · rw [if_neg h4, if_neg (by omega)])
    exact ⟨h1, by simp only [List.length_cons]; rw [h2]⟩
theorem area_ans (W : Words m c x) : (areaP c h).ans m = areaOf (eight x) ∧ ((areaP c h).reads m).length = 8 := area_from W 8 0 rfl _ rfl
theorem unN_counted {x : List Int} (hl : x.length = 28) (hk : entOk (nth x 0) = true) : (unN x (entK (nth x 0))).Counted ∧ (unN x (entK (nth x 0))).first = nth x 0 ∧ (unN x (entK (nth x 0))).ends.length = entK (nth x 0) := by
  obtain ⟨h1, h2⟩ := entK_is hk
  have h3 := entK_hi (nth x 0)
  have hd := of_decide_eq_true hk
  have hm := Int.mul_tdiv_add_tmod (nth x 0) 16
  generalize entK (nth x 0) = K at *
  have hl1 : (unN x K).ends.length = K := by simp [unN]; omega
  refine ⟨⟨by omega, by omega, by simp [unN]; omega, by simp [unN]; omega⟩, ?_, hl1⟩
  unfold Nd.first
  rw [hl1]
  unfold unN
  rcases hd.2.2 with h4 | h4
  · rw [h4]
    simp only [show ((1 : Int) == 2) = false from rfl, Bool.false_eq_true, if_false]
    omega
  · rw [h4]
    simp only [show ((2 : Int) == 2) = true from rfl, if_true]
    omega
theorem node_from (W : Words m c x) (n i : Nat) (hn : i + n = entK (nth x 0)) (hk : entOk (nth x 0) = true) : (nodeFrom c h n i (refL (unN x (entK (nth x 0))) i)).ans m = nodeOf (packN (unN x (entK (nth x 0)))) ∧ ((nodeFrom c h n i (refL (unN x (entK (nth x 0))) i)).reads m).length = 3 * n := by
  obtain ⟨hc, hf, hl⟩ := unN_counted W.len hk
  have h8 := entK_hi (nth x 0)
  induction n generalizing i with
  | zero =>
    have : i = entK (nth x 0) := by omega
    subst this
    have e := refL_end hc
    rw [hl] at e
    rw [e]
    exact ⟨rfl, rfl⟩
  | succ n ih =>
    have e1 := W.at_ (2 + i) (by omega)
    have e2 := W.at_ (10 + i) (by omega)
    have e3 := W.at_ (18 + i) (by omega)
    rw [show ((2 + i : Nat) : Int) = 2 + (i : Int) by omega] at e1
    rw [show ((10 + i : Nat) : Int) = 10 + (i : Int) by omega] at e2
    rw [show ((18 + i : Nat) : Int) = 18 + (i : Int) by omega] at e3
    rw [nodeFrom_next]
    simp only [Sk.ans, Sk.reads, e1, e2, e3]
    have st := refL_step (unN x (entK (nth x 0))) i (by omega)
    have g1 : nth (unN x (entK (nth x 0))).ends i = nth x (2 + i) := by unfold unN; rw [nth_take, if_pos (by omega), nth_drop]
    have g2 : nth (unN x (entK (nth x 0))).slots i = nth x (10 + i) := by unfold unN; rw [nth_take, if_pos (by omega), nth_drop]
    have g3 : nth (unN x (entK (nth x 0))).gaps i = nth x (18 + i) := by unfold unN; rw [nth_take, if_pos (by omega), nth_drop]
    rw [g1, g2, g3] at st
    rw [st]
    obtain ⟨h1, h2⟩ := ih (i + 1) (by omega)
    exact ⟨h1, by simp only [List.length_cons]; rw [h2]; omega⟩
theorem node_ans (W : Words m c x) : (nodeP c h).ans m = (nodeW x).1 ∧ ((nodeP c h).reads m).length = (nodeW x).2 := by
  have e0 : rdv m (c 0) = nth x 0 := W.at_ 0 (by omega)
  have e1 : rdv m (c 1) = nth x 1 := W.at_ 1 (by omega)
  unfold nodeP nodeW
  simp only [Sk.ans, Sk.reads, e0]
  cases hk : entOk (nth x 0) with
  | false => exact ⟨rfl, rfl⟩
  | true =>
    simp only [if_true, Sk.ans, Sk.reads, e1]
    obtain ⟨hc, hf, hl⟩ := unN_counted W.len hk
    have z := refL_zero (unN x (entK (nth x 0)))
    rw [hf] at z
    have z' : ((List.replicate 28 0).set 0 (nth x 0)).set 1 (nth x 1) = refL (unN x (entK (nth x 0))) 0 := z
    rw [z']
    obtain ⟨h1, h2⟩ := node_from (h := h) W (entK (nth x 0)) 0 (by omega) hk
    refine ⟨?_, by simp only [List.length_cons]; rw [h2]; omega⟩
    rw [h1]
    by_cases hF : NdF (unN x (entK (nth x 0)))
    · rw [if_pos hF]
      exact nodeOf_some hF rfl
    · rw [if_neg hF]
      exact nodeOf_none (fun n hn e => hF (by rw [← pack_inj hn.cnt hc e]; exact hn))
end

/-! The laws' slots: one slot, whose handle is 65537. -/
def wiOf (n : Nat) (st : Bool) : Wi := ⟨3, bornTo n n, st, false⟩
theorem wiOf_ok (n : Nat) (st : Bool) : WiOk (wiOf n st) 1 := ⟨bornTo_gens (Nat.le_refl _), by omega, by omega⟩
theorem wiOf_right {n : Nat} (st : Bool) (i : Nat) (h : i < n) : rightB (wiOf n st).l (65537 + (i : Int)) = true := by
  have g : (wiOf n st).l.getD i (0, false) = (1, true) := by unfold wiOf; rw [bornTo_at (Nat.le_refl _), if_pos h]
  refine right_yes (i := i) (by unfold wiOf; rw [bornTo_len (Nat.le_refl _)]; exact h) ?_ ?_
  · unfold liveAt; rw [g]
  · unfold hndAt genAt; rw [g]; omega
theorem one_cell (st : Bool) (k : Nat) (hk : k < 28) : cellOf (wiOf 1 st).fst (wiOf 1 st).l.length 65537 (k : Int) = 3 + (k : Int) := by
  have e : slotOf 65537 = 1 := by decide
  unfold cellOf
  rw [e, if_pos]
  · show (3 : Int) + 28 * (1 - 1) + (k : Int) = _
    omega
  · have : (wiOf 1 st).l.length = 1 := bornTo_len (Nat.le_refl _)
    rw [this]
    omega
def oneM (x : List Int) (c : Int) : Mm := ⟨fillTo x 28, c⟩
theorem one_words {x : List Int} (hx : x.length = 28) (c : Int) (st : Bool) : Words (oneM x c) (cellOf (wiOf 1 st).fst (wiOf 1 st).l.length 65537) x := by
  have hl : (fillTo x 28).length = 31 := by rw [fillTo_len _ (by omega), hx]
  have hi : ∀ k : Nat, k < 28 → inb (3 + (k : Int)) (oneM x c) = true := fun k hk => by
    unfold inb oneM
    simp only [hl]
    simp
    omega
  refine ⟨fun k hk => ?_, fun k hk => by rw [one_cell st k hk]; exact hi k hk, hx⟩
  rw [one_cell st k hk]
  unfold rdv
  rw [hi k hk, if_pos rfl]
  show nth (fillTo x 28) _ = _
  rw [show (3 + (k : Int)).toNat = 3 + k by omega, nth_fillTo _ (by omega), if_neg (by omega), if_pos (by omega), show 3 + k - 3 = k by omega]
theorem one_fits {x : List Int} (hx : x.length = 28) (hf : Fits x) (c : Int) : Fits (oneM x c).cs := by
  intro i hi
  show -9223372036854775808 ≤ nth (fillTo x 28) i ∧ _
  have e : nth (oneM x c).cs i = nth (fillTo x 28) i := rfl
  rw [e, nth_fillTo _ (by omega)]
  split
  · omega
  · split
    · exact fits_nth hf _
    · omega
theorem rs_ans {α : Type} (q : Sk α) (f : α → Rs) (m : Mm) : (q.bind fun r => .ret (f r)).ans m = f (q.ans m) ∧ (q.bind fun r => .ret (f r)).reads m = q.reads m := by
  rw [Sk.ans_bind, Sk.reads_bind]
  exact ⟨rfl, by simp [Sk.reads]⟩
/-- One slot, laid. -/
theorem slots_one {w : World} {v : Value} {x : List Int} (h : Wss w v [x]) (hx : x.length = 28) : Calls Try.prog 9 #[v] w fun e w' => ∃ mb mg ab ag : Nat, e = .returned (.tuple #[.pointer (some ⟨mb, 0, none⟩), .pointer (some ⟨ab, 0, none⟩)]) ∧
    MemAt w' mb mg (oneM x 28).cs (oneM x 28).cnt ∧ ArAt w' ab ag 3 (bornTo 1 1) false false ∧ w.heap.size ≤ mb ∧ w.heap.size ≤ mg ∧ w.heap.size ≤ ab ∧ w.heap.size ≤ ag ∧ Below w.heap.size w w' := by
  refine (slots_c h (fun i hi => by
    have : i = 0 := by simp at hi; omega
    subst this; exact hx) (by simp) (by simp)).mono ?_
  rintro e w' ⟨mb, mg, ab, ag, rfl, h1, h2, h3, h4, h5, h6, h7⟩
  refine ⟨mb, mg, ab, ag, rfl, ?_, h2, h3, h4, h5, h6, h7⟩
  have e1 : [x].flatten = x := by simp
  rw [e1] at h1
  exact h1
theorem wss_one {w : World} {x : List Int} {A : Option Addr} {n c : Nat} (h : Wds w (.slice A n c) x) : Wss (w.alloc (.cells #[.slice A n c] 22)) (.slice (some ⟨w.heap.size, 0, none⟩) 1 1) [x] := by
  refine ⟨_, 1, rfl, by simp, fun _ => ⟨w.heap.size, 0, rfl, fun i hi => ?_⟩⟩
  have : i = 0 := by simp at hi; omega
  subst this
  exact ⟨_, (Whole.new w 22 #[.slice A n c]).cell 0, h.still (below_new _ _)⟩
/-- A looker that is alone, over one slot. -/
theorem all_one {w : World} {mb mg ab ag : Nat} {x : List Int} {cnt addr kind : Int} {st : Bool} {p : Sk Rs} (hx : x.length = 28) (hf : Fits x) (hc : cnt ≤ 1000) (M : MemAt w mb mg (oneM x cnt).cs (oneM x cnt).cnt) (A : ArAt w ab ag 3 (bornTo 1 1) st false)
    (hrun : Looks 26 mb mg ab ag 65537 addr kind p (wiOf 1 st)) (h0 : 0 < (p.reads (oneM x cnt)).length) (h1 : (p.reads (oneM x cnt)).length < 60) :
    Calls Try.prog 10 #[.pointer (some ⟨mb, 0, none⟩), .agg #[.pointer (some ⟨ab, 0, none⟩), .int .i64 65537, .int .i64 addr, .int .i64 kind, .pointer none]] w fun e w' =>
      ∃ (A1 : Option Addr) (c1 : Nat) (A2 : Option Addr) (c2 : Nat) (A3 : Option Addr) (c3 : Nat) (cnt' : Int) (st' : Bool), e = .returned (.tuple #[(p.ans (oneM x cnt)).val (.slice A1 (p.ans (oneM x cnt)).N.ends.length c1) (.slice A2 (p.ans (oneM x cnt)).N.slots.length c2) (.slice A3 (p.ans (oneM x cnt)).N.gaps.length c3), .int .i64 ((p.reads (oneM x cnt)).length : Int), .bool true]) ∧
        NdMine w.heap.size w' (p.ans (oneM x cnt)).N (.slice A1 (p.ans (oneM x cnt)).N.ends.length c1) (.slice A2 (p.ans (oneM x cnt)).N.slots.length c2) (.slice A3 (p.ans (oneM x cnt)).N.gaps.length c3) ∧
        MemAt w' mb mg (oneM x cnt').cs (oneM x cnt').cnt ∧ cnt' ≤ cnt + 60 ∧ ArAt w' ab ag 3 (bornTo 1 1) st' false ∧ Only (fun k => CTwo mb mg k ∨ ArTwo ab ag k) w w' := by
  have hcn : (oneM x cnt).cnt = cnt := rfl
  refine (all_c (x := wiOf 1 st) M A (wiOf_ok 1 st) (one_fits hx hf cnt) (by rw [hcn]; omega) h0 h1 hrun).mono ?_
  rintro e w' ⟨A1, c1, A2, c2, A3, c3, rfl, hn, hm, ha, ho⟩
  have hb := inbs_le (oneM x cnt) (p.reads (oneM x cnt))
  exact ⟨A1, c1, A2, c2, A3, c3, cnt + inbs (oneM x cnt) (p.reads (oneM x cnt)), _, rfl, hn, hm, by omega, ha, ho⟩
theorem one_below {w0 w w' : World} {mb mg ab ag : Nat} (hb : Below w0.heap.size w0 w) (ho : Only (fun k => CTwo mb mg k ∨ ArTwo ab ag k) w w') (h1 : w0.heap.size ≤ mb) (h2 : w0.heap.size ≤ mg) (h3 : w0.heap.size ≤ ab) (h4 : w0.heap.size ≤ ag) : Below w0.heap.size w0 w' :=
  hb.trans (ho.below (fun k hk => by rcases hk with (rfl | rfl) | (rfl | rfl) <;> assumption) hb.size)
theorem inbs_all (m : Mm) (l : List (Int × Int)) (h : ∀ q ∈ l, inb q.1 m = true) : inbs m l = (l.length : Int) := by
  unfold inbs
  rw [List.filter_eq_self.2 h]
end Go.Proofs.Ytiiclmaphiajmaa

/-
  Layer 16: words of whatever came, and what a program that does nothing does not answer.
-/
namespace Go.Proofs.Ytiiclmaphiajmaa
open Go.ChangeShapes Go.WideShapes Go.ChangeAt Go.RowKit
set_option linter.unusedVariables false

/-- The first 28 words, with noughts behind them. -/
def w28 (l : List Int) : List Int := fill (l.take 28) 28
theorem w28_len (l : List Int) : (w28 l).length = 28 := fill_len (by simp; omega)
theorem w28_fits {l : List Int} (h : Fits l) : Fits (w28 l) := by
  intro i hi
  unfold w28
  rw [nth_fill, nth_take]
  split
  · exact fits_nth h i
  · omega
def wTo (l : List Int) (k : Nat) : List Int := fill (l.take k) 28
theorem wTo_len (l : List Int) {k : Nat} (h : k ≤ 28) : (wTo l k).length = 28 := fill_len (by simp; omega)
theorem wTo_step (l : List Int) {k : Nat} (h : k < 28) (hl : k < l.length) : (wTo l k).set k (nth l k) = wTo l (k + 1) := by
  apply ext_nth
  · rw [List.length_set, wTo_len _ (by omega), wTo_len _ (by omega)]
  · intro i hi
    rw [List.length_set] at hi
    rw [nth_set _ _ _ _ hi]
    unfold wTo
    rw [nth_fill, nth_fill, nth_take, nth_take]
    by_cases h1 : i = k
    · subst h1; rw [if_pos rfl, if_pos (by omega)]
    · rw [if_neg h1]
      by_cases h2 : i < k
      · rw [if_pos h2, if_pos (by omega)]
      · rw [if_neg h2, if_neg (by omega)]
theorem wTo_end (l : List Int) {k : Nat} (h : k = 28 ∨ k = l.length ∧ k ≤ 28) : wTo l k = w28 l := by
  rcases h with rfl | ⟨rfl, h⟩
  · rfl
  · unfold wTo w28
    rw [List.take_length, List.take_of_length_le h]
theorem wTo_zero (l : List Int) : wTo l 0 = nul28 := rfl

/-- While they are laid. -/
structure WRow (w wr : World) (q : Nat) (L : List Int) : Prop where
  row : Whole wr q 2 (nums L)
  bel : Below w.heap.size w wr
theorem WRow.put {w wr : World} {q : Nat} {L : List Int} (h : WRow w wr q L) (hq : w.heap.size ≤ q) (i : Nat) (v : Int) : WRow w (wr.setCell ⟨q, i, none⟩ (.int .i64 v)) q (L.set i v) :=
  ⟨nums_put h.row i v, h.bel.setCell (p := ⟨q, i, none⟩) hq _⟩
set_option maxHeartbeats 4000000 in
theorem words_c {w : World} {v : Value} {l : List Int} (h : Wds w v l) (hl : l.length ≤ 60) : Calls Try.prog 8 #[v] w fun e w' => ∃ q, e = .returned (.slice (some ⟨q, 0, none⟩) 28 28) ∧ Whole w' q 2 (nums (w28 l)) ∧ w.heap.size ≤ q ∧ Below w.heap.size w w' := by
  obtain ⟨A, c, rfl, hc, hA⟩ := h
  have CA : Hid (∀ W, Below w.heap.size w W → ∀ k, k < l.length → ∃ b off, A = some ⟨b, off, none⟩ ∧ W.cell? ⟨b, off + k, none⟩ = some (.int .i64 (nth l k))) := Lib.hid (fun W hb k hk => by
    obtain ⟨b, off, rfl, ca⟩ := hA (by omega)
    have e := ca k hk
    exact ⟨b, off, rfl, by rw [hb.cell (p := ⟨b, off + k, none⟩) (World.block_lt_of_cell? w _ e)]; exact e⟩)
  clear hA
  obtain ⟨P, hP⟩ : ∃ P : Ending → World → Prop, (fun e w' => ∃ q, e = .returned (.slice (some ⟨q, 0, none⟩) 28 28) ∧ Whole w' q 2 (nums (w28 l)) ∧ w.heap.size ≤ q ∧ Below w.heap.size w w') = P := ⟨_, rfl⟩
  rw [hP]
  have FIN : Hid (∀ W q, WRow w W q (w28 l) → w.heap.size ≤ q → P (.returned (.slice (some ⟨q, 0, none⟩) 28 28)) W) := Lib.hid (fun W q h hq => by
    rw [← hP]
    exact ⟨q, rfl, h.row, hq, h.bel⟩)
  clear hP
  have R0 : Hid (WRow w (w.alloc (.cells (nums nul28) 2)) w.heap.size (wTo l 0)) := Lib.hid ⟨Whole.new _ _ _, below_new _ _⟩
  have HST := Lib.hid (fun k hk hl => wTo_step l (k := k) hk hl)
  have HEN := Lib.hid (fun k h => wTo_end l (k := k) h)
  have HLN := Lib.hid (fun k h => wTo_len l (k := k) h)
  obtain ⟨n, hn⟩ : ∃ n, l.length = n := ⟨_, rfl⟩
  rw [hn] at hl hc CA HST HEN ⊢
  have HN := Lib.hid hn
  clear hn
  have mk := make28
  go_enter Try.func8, Try.ntmps8
  go_upto_region 2 with (fail)
  have Q : Hid (w.heap.size ≤ w.heap.size) := Lib.hid (Nat.le_refl _)
  clear mk
  generalize w.alloc (.cells (nums nul28) 2) = wA at *
  have HQ2 : Hid (w.heap.size ≤ w.heap.size) := Lib.hid (Nat.le_refl _)
  go_wp2_with fail
  go_loopw [4] (fun iv wr => ∃ k : Nat, k ≤ 28 ∧ k ≤ n ∧ iv = .int .i64 k ∧ WRow w wr w.heap.size (wTo l k)) (fun iv _ => 28 - (intOf iv).toNat)
  case atStart => exact ⟨0, by omega, by omega, rfl, R0.out⟩
  case round =>
    obtain ⟨k, hk, hkn, rfl, hS⟩ := hrel
    have S1 := Lib.hid hS
    clear hS R0 Q
    by_cases hlt : k < 28
    · by_cases hln : k < n
      · obtain ⟨b, off, rfl, ya⟩ := CA.out wr S1.out.bel k hln
        have z := S1.out.row.cell k
        rw [nums_at _ _ (by rw [HLN.out k hk]; omega)] at z
        have f := S1.out.row.frozen k
        have i1 : (k : Int) < 28 := by omega
        have i2 : (k : Int) < (n : Int) := by omega
        have i3 : decide ((k : Int) < 28) = true := decide_eq_true i1
        have i4 : decide ((k : Int) < (n : Int)) = true := decide_eq_true i2
        have PT : Hid (WRow w (wr.setCell ⟨w.heap.size, k, none⟩ (.int .i64 (nth l k))) w.heap.size (wTo l (k + 1))) := Lib.hid (by
          have := S1.out.put HQ2.out k (nth l k)
          rw [HST.out k hlt hln] at this
          exact this)
        clear CA S1 HST HEN
        generalize nth l k = y at *
        generalize nth (wTo l k) k = yo at *
        go_wp2_with fail
        go_roundw
        case rel => exact ⟨k + 1, by omega, by omega, by go_num, PT.out⟩
        case measure => simp [intOf]; omega
      · have e : wTo l k = w28 l := HEN.out k (.inr ⟨by omega, hk⟩)
        rw [e] at S1
        have FX := Lib.hid (FIN.out _ _ S1.out HQ2.out)
        have i1 : (k : Int) < 28 := by omega
        have i2 : ¬ (k : Int) < (n : Int) := by omega
        have i3 : decide ((k : Int) < (n : Int)) = false := decide_eq_false i2
        clear FIN S1 CA HST HEN
        go_wp2_with fail
        exact FX.out
    · have hk28 : k = 28 := by omega
      subst hk28
      rw [HEN.out 28 (.inl rfl)] at S1
      have FX := Lib.hid (FIN.out _ _ S1.out HQ2.out)
      clear FIN S1 CA HST HEN
      go_wp2_with fail
      exact FX.out

/-- The area of the laws' first question. -/
def arWake : Ar := ⟨65536, 69632, 1, false, 0, 0⟩
theorem arWake_formed : Formed arWake := by decide
theorem arWake_words : areaOf (eight (packA arWake false)) = some (arWake, false) := by
  refine areaOf_some arWake_formed ?_
  apply ext_nth
  · rw [packA_len]; exact (fill_len (by simp [packA_len])).symm
  · intro k _
    unfold eight
    rw [nth_fill, nth_take]
    split
    · rfl
    · unfold packA
      rw [nth_fill, nth_out (by simp [listA]; omega)]
set_option maxRecDepth 4000 in
set_option maxHeartbeats 8000000 in
theorem seek_awake : Says 7 #[] (.bool true) := by
  intro w
  have CP := Lib.hid (refPackA_c arWake false w)
  have HPL := Lib.hid (packA_len arWake false)
  have HF : Hid (Fits (packA arWake false)) := Lib.hid (by
    intro i hi
    unfold packA
    rw [nth_fill]
    have h8 : ∀ k, k < 8 → -9223372036854775808 ≤ nth (listA arWake false) k ∧ nth (listA arWake false) k ≤ 9223372036854775807 := by decide
    exact fits_nth (fun k hk => h8 k hk) i)
  have HA : Hid (∀ m c, Words m c (packA arWake false) → (areaRs c 65537).ans m = ⟨0, false, true, arWake, Nd.nil⟩ ∧ ((areaRs c 65537).reads m).length = 8) := Lib.hid (fun m c W => by
    obtain ⟨h1, h2⟩ := area_ans (h := 65537) W
    obtain ⟨g1, g2⟩ := rs_ans (areaP c 65537) areaR m
    refine ⟨?_, ?_⟩
    · show ((areaP c 65537).bind fun r => .ret (areaR r)).ans m = _
      rw [g1, h1, arWake_words]; rfl
    · show (((areaP c 65537).bind fun r => .ret (areaR r)).reads m).length = 8
      rw [g2, h2])
  have HV : Hid (arWake.v = .agg #[.int .i64 65536, .int .i64 69632, .int .i64 1, .bool false, .int .i64 0, .int .i64 0]) := Lib.hid rfl
  rw [HV.out] at CP
  generalize packA arWake false = pk at *
  go_enter Try.func7, Try.ntmps7
  go_wp2_with fail
  refine CP.out.mono ?_
  rintro e w1 ⟨v, rfl, hv, hb1⟩
  obtain ⟨A, c, rfl⟩ := hv.is
  rw [HPL.out] at hv ⊢
  have SL := Lib.hid (slots_one (wss_one hv) HPL.out)
  have B1 := Lib.hid (below_then hb1 (below_new w1 (.cells #[.slice A 28 c] 22)) (Nat.le_refl _))
  clear hv hb1 CP
  go_wp2_with fail
  refine SL.out.mono ?_
  rintro e w2 ⟨mb, mg, ab, ag, rfl, hm, ha, m1, m2, m3, m4, hb2⟩
  have AL := Lib.hid (all_one HPL.out HF.out (by omega) hm ha (looks_area (x := wiOf 1 false) 65537 0 (by omega)) (by rw [(HA.out _ _ (one_words HPL.out 28 false)).2]; omega) (by rw [(HA.out _ _ (one_words HPL.out 28 false)).2]; omega))
  rw [(HA.out _ _ (one_words HPL.out 28 false)).1, (HA.out _ _ (one_words HPL.out 28 false)).2] at AL
  have MM : Hid (w.heap.size ≤ mb ∧ w.heap.size ≤ mg ∧ w.heap.size ≤ ab ∧ w.heap.size ≤ ag) := Lib.hid (by have := B1.out.size; omega)
  have B2 := Lib.hid (below_then B1.out hb2 (Nat.le_refl _))
  clear hm ha m1 m2 m3 m4 hb2 SL B1 HA
  unfold Rs.val at AL
  simp only [arWake, Nd.nil] at AL
  go_wp2_with fail
  refine AL.out.mono ?_
  rintro e w3 ⟨A1, c1, A2, c2, A3, c3, cnt', st', rfl, _, _, _, _, ho⟩
  have B3 := Lib.hid (one_below B2.out ho MM.out.1 MM.out.2.1 MM.out.2.2.1 MM.out.2.2.2)
  clear ho AL B2
  go_upto_region 3 with (fail)
  have V := Lib.hid (Whole.new w3 35 #[.int .i64 0, .bool false, .bool true, .int .i64 65536, .int .i64 69632, .int .i64 1, .bool false, .int .i64 0, .int .i64 0, .bool false, .int .i64 0, .slice A1 0 c1, .slice A2 0 c2, .slice A3 0 c3])
  have B4 := Lib.hid (B3.out.alloc B3.out.size (.cells #[.int .i64 0, .bool false, .bool true, .int .i64 65536, .int .i64 69632, .int .i64 1, .bool false, .int .i64 0, .int .i64 0, .bool false, .int .i64 0, .slice A1 0 c1, .slice A2 0 c2, .slice A3 0 c3] 35))
  generalize hw4 : w3.alloc (.cells #[.int .i64 0, .bool false, .bool true, .int .i64 65536, .int .i64 69632, .int .i64 1, .bool false, .int .i64 0, .int .i64 0, .bool false, .int .i64 0, .slice A1 0 c1, .slice A2 0 c2, .slice A3 0 c3] 35) = w4 at *
  generalize w3.heap.size = q at *
  clear hw4 B3
  obtain ⟨z0, z1, z2, z3, z4, z5, z6, z7, z8, z9, z10, z11, z12, z13⟩ := row14 V.out
  go_wp2_with fail
  go_ret
  exact ⟨rfl, B4.out⟩
end Go.Proofs.Ytiiclmaphiajmaa
