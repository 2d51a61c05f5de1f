/-
  Layer 7: Set: a contract for the call.
-/
import Derived.Test.YteockpmadpbjiaaListOps
namespace Go.Proofs.Yteockpmadpbjiaa
open Go.ChangeShapes Go.WideShapes Go.ChangeAt Go.RowKit Go.Shelf
set_option linter.unusedVariables false

/-- One area's Prot is otherwise. -/
theorem Mine.protAt {B : Nat} {w : World} {g n c : Nat} {u r : List Ar} {z : Ar} (h : Mine B w (.slice (some ⟨g, 0, none⟩) n c) (u ++ z :: r)) (pr : Int) :
    Mine B (w.setCell ⟨g, u.length * 6 + 2, none⟩ (.int .i64 pr)) (.slice (some ⟨g, 0, none⟩) n c) (u ++ z.prot pr :: r) := by
  obtain ⟨hl, h2⟩ := h
  have hlen : (cls (u ++ z.prot pr :: r)).length = (cls (u ++ z :: r)).length := by rw [cls_len, cls_len]; simp
  refine ⟨by rw [hlen, hl]; simp, ?_⟩
  rcases h2 with ⟨h0, _⟩ | ⟨g', cap, cur, hv, hb, hh, h3, h4, h5, h6⟩
  · cases h0
  · have hv' := hv
    injection hv with h1
    injection h1 with h1
    injection h1 with h1
    subst h1
    refine .inr ⟨g, cap, cur.setIfInBounds (u.length * 6 + 2) (.int .i64 pr), ?_, hb, Whole.put (t := 24) hh _ _, by simpa using h3, h4, by simpa using h5, ?_⟩
    · simpa using hv'
    · have e1 : (cls (u ++ z :: r)).set (u.length * 6 + 2) (.int .i64 pr) = cls (u ++ z.prot pr :: r) := by
        rw [cls_app, cls_app, List.set_append_right _ _ (by rw [cls_len]; omega), cls_len, show u.length * 6 + 2 - u.length * 6 = 2 by omega]
        rfl
      rw [← e1, ← h6]
      simp only [Array.toList_setIfInBounds, List.length_append, List.length_cons]
      rw [List.take_set]
/-- The first k areas have it. -/
def setTo (pr : Int) (l : List Ar) (k : Nat) : List Ar := (l.take k).map (Ar.prot pr) ++ l.drop k
theorem setTo_len (pr : Int) (l : List Ar) (k : Nat) : (setTo pr l k).length = l.length := by simp [setTo]; omega
theorem setTo_zero (pr : Int) (l : List Ar) : setTo pr l 0 = l := by simp [setTo]
theorem setTo_all (pr : Int) (l : List Ar) : setTo pr l l.length = l.map (Ar.prot pr) := by simp [setTo]
/-- Our list, and all that was there. -/
structure SetAt (w wr : World) (v : Value) (l : List Ar) : Prop where
  m : Mine w.heap.size wr v l
  bel : Below w.heap.size w wr
theorem SetAt.step {w wr : World} {g n c : Nat} {l : List Ar} {pr : Int} {k : Nat} (hk : k < l.length) (h : SetAt w wr (.slice (some ⟨g, 0, none⟩) n c) (setTo pr l k)) :
    (wr.frozen? ⟨g, k * 6 + 2, none⟩ = false ∧ ∃ u, wr.cell? ⟨g, k * 6 + 2, none⟩ = some u) ∧ SetAt w (wr.setCell ⟨g, k * 6 + 2, none⟩ (.int .i64 pr)) (.slice (some ⟨g, 0, none⟩) n c) (setTo pr l (k + 1)) := by
  have e : setTo pr l k = (l.take k).map (Ar.prot pr) ++ l[k] :: l.drop (k + 1) := by unfold setTo; rw [List.drop_eq_getElem_cons hk]
  have e2 : setTo pr l (k + 1) = (l.take k).map (Ar.prot pr) ++ (l[k]).prot pr :: l.drop (k + 1) := by
    unfold setTo; rw [List.take_succ_eq_append_getElem hk, List.map_append, List.append_assoc]; rfl
  have hlen : ((l.take k).map (Ar.prot pr)).length = k := by simp; omega
  have hm := h.m
  have hAr := hm.areas
  rw [e] at hm
  have h1 := hm.protAt pr
  rw [hlen, ← e2] at h1
  refine ⟨⟨?_, ?_⟩, h1, ?_⟩
  · rcases hm.2 with ⟨h0, _⟩ | ⟨g', cap, cur, hv, hb, hh, _⟩
    · cases h0
    · injection hv with h1
      injection h1 with h1
      injection h1 with h1
      subst h1
      exact Whole.frozen (t := 24) hh _
  · rcases hAr with h0 | ⟨b, off, hb', _, hc⟩
    · have : (setTo pr l k).length = 0 := by rw [h0]; rfl
      rw [setTo_len] at this; omega
    · injection hb' with hb'
      injection hb' with hb1 hb2
      subst hb1 hb2
      have := (hc k (by rw [setTo_len]; exact hk)).c2
      exact ⟨_, by simpa using this⟩
  · exact h.bel.trans ((Below.refl _ _).setCell (p := ⟨g, k * 6 + 2, none⟩) ((hm.lt g (by simp [Value.ownBlock])).1) _)

/-- What is set lies in a list. -/
def SetIn (lo hi pr : Int) (l y : List Ar) : Prop := RightL y ∧ ∀ p, tab y p = if Touch lo hi p then (tab l p).map (fun x => { x with p := pr }) else tab l p

set_option maxHeartbeats 1000000 in
theorem set_no (A : Option Addr) (l : List Ar) (cap : Nat) (lo hi pr : Int) (hl : l.length ≤ 10000) (hr : ¬ RightL l) (w : World) (hA : Areas w.heap.size w A l) :
    Calls Try.prog 14 #[.slice A l.length cap, .int .i64 lo, .int .i64 hi, .int .i64 pr] w fun e w' => e = .returned (.slice none 0 0) ∧ Below w.heap.size w w' := by
  have X := Lib.hid (right_any A l cap (by omega) w hA)
  rw [decide_eq_false hr] at X
  clear hr hA
  generalize l.length = n at *
  go_enter Try.func14, Try.ntmps14
  go_wp2_with fail
  refine X.out.mono ?_
  rintro e w1 ⟨rfl, hb1⟩
  have B1 := Lib.hid hb1
  clear hb1
  go_wp2_with fail
  go_ret
  exact ⟨rfl, B1.out⟩

set_option maxRecDepth 4000 in
set_option maxHeartbeats 4000000 in
theorem set_any (A : Option Addr) (l : List Ar) (cap : Nat) (lo hi pr : Int) (hr : RightL l) (h0 : 0 ≤ pr) (h7 : pr ≤ 7) (w : World) (hA : Areas w.heap.size w A l) :
    Calls Try.prog 14 #[.slice A l.length cap, .int .i64 lo, .int .i64 hi, .int .i64 pr] w fun e w' => ∃ v y, e = .returned v ∧ Mine w.heap.size w' v y ∧ SetIn lo hi pr l y ∧ Below w.heap.size w w' := by
  have hl := right_len hr
  have X := Lib.hid (right_any A l cap (by omega) w hA)
  have XI := Lib.hid (fun w1 h => inside_any A l cap lo hi (by omega) w1 h)
  have XO := Lib.hid (fun w1 h => outside_any A l cap lo hi (by omega) w1 h)
  have HA := Lib.hid hA
  have HP := Lib.hid (set_apart (lo := lo) (hi := hi) hr h0 h7)
  have hlo := outside_len lo hi l
  have hli := inside_len lo hi l
  rw [decide_eq_true hr] at X
  obtain ⟨i0, hi0, hz0, hz1, hz2⟩ := info_parts area_info
  have HI0 : Hid (Try.prog.info? 24 = some i0) := Lib.hid hi0
  have H0 : Hid (i0.zero = some Ar.nil.v) := Lib.hid hz0
  have H1 : Hid (i0.size = 6) := Lib.hid hz1
  have H2 : Hid (i0.bytes = 48) := Lib.hid hz2
  clear hi0 hz0 hz1 hz2 hA hr
  unfold setL at HP
  generalize outsideL lo hi l = out at *
  generalize insideL lo hi l = inn at *
  have hlo2 : out.length ≤ 992 := by omega
  have hli2 : inn.length ≤ 496 := by omega
  clear hlo hli
  generalize l.length = n at *
  go_enter Try.func14, Try.ntmps14
  go_wp2_with fail
  refine X.out.mono ?_
  rintro e w1 ⟨rfl, hb1⟩
  have B1 := Lib.hid hb1
  have A1 := Lib.hid ((HA.out.below hb1).mono hb1.size)
  clear hb1 X HA
  go_wp2_with fail
  refine (XI.out w1 A1.out).mono ?_
  rintro e w2 ⟨v, rfl, hm, hb2⟩
  obtain ⟨A2, c2, rfl⟩ := hm.is
  have S0 : Hid (SetAt w1 w2 (.slice A2 inn.length c2) inn) := Lib.hid ⟨hm, hb2⟩
  clear hm hb2 XI
  go_wp2_with fail
  go_loopg [10, 28] inn.length (fun g _ s28 wr => ∃ k : Nat, k ≤ inn.length ∧ inn.length - k ≤ g ∧ s28 = .int .i64 k ∧ Hid (SetAt w1 wr (.slice A2 inn.length c2) (setTo pr inn k)))
  case atStart => exact ⟨0, by omega, by omega, rfl, by rw [setTo_zero]; exact S0⟩
  case round =>
    obtain ⟨k, hk, hgk, rfl, HS⟩ := hrel
    by_cases hlt : k < inn.length
    · have hltz : (k : Int) < (inn.length : Int) := by omega
      have hz0 : (0 : Int) ≤ (k : Int) := by omega
      obtain ⟨g, rfl⟩ : ∃ g, A2 = some ⟨g, 0, none⟩ := by
        rcases HS.out.m.2 with ⟨_, h0⟩ | ⟨g, cap, cur, hv, _⟩
        · rw [setTo_len] at h0; omega
        · injection hv with h1; exact ⟨g, h1⟩
      obtain ⟨⟨fz, u, cu⟩, hs⟩ := HS.out.step hlt
      have HN := Lib.hid hs
      clear hs
      go_wp2_with fail
      go_roundg (inn.length - (k + 1))
      case measure => omega
      case rel => exact ⟨k + 1, by omega, by omega, by go_num, HN⟩
    · obtain rfl : k = inn.length := by omega
      rw [setTo_all] at HS
      have AO := Lib.hid (XO.out wr ((A1.out.below HS.out.bel).mono HS.out.bel.size))
      have hln : (inn.map (Ar.prot pr)).length = inn.length := by simp
      go_wp2_with fail
      refine AO.out.mono ?_
      rintro e w3 ⟨v3, rfl, hm3, hb3⟩
      obtain ⟨A3, c3, rfl⟩ := hm3.is
      have M3 := Lib.hid (hm3.base HS.out.bel.size)
      have B3 := Lib.hid (below_then HS.out.bel hb3 (Nat.le_refl _))
      have MI := Lib.hid (HS.out.m.still hb3)
      clear hm3 hb3 AO XO
      have S3 := Lib.hid B3.out.size
      have YJ : Hid (∀ (A4 : Option Addr) (n4 c4 : Nat) (W : World), n4 = out.length + inn.length → Below w1.heap.size w1 W → Mine w1.heap.size W (.slice A4 n4 c4) (out ++ inn.map (Ar.prot pr)) → Calls Try.prog 26 #[.slice A4 n4 c4] W fun e w' => ∃ v y, e = .returned v ∧ Mine w1.heap.size w' v y ∧ SetIn lo hi pr l y ∧ Below w1.heap.size w1 w') := Lib.hid (fun A4 n4 c4 W hn hb hm => (joined_row w1.heap.size A4 n4 c4 _ W (by simp [hn]) hm (by simp; omega)).mono fun e w' ⟨v, l', he, hp, hs, hm', ho⟩ => by
        obtain ⟨j1, j2⟩ := joined_perm HP.out.1 HP.out.2.1 hp hs
        exact ⟨v, _, he, hm'.base hb.size, ⟨j1, fun p => (j2 p).trans (HP.out.2.2 p)⟩, put_below hb hm ho⟩)
      cases A2 with
      | none =>
        have hi0 : inn.length = 0 := by
          rcases MI.out.2 with ⟨_, h0⟩ | ⟨g, cap, cur, hv, _⟩
          · simpa using h0
          · cases hv
        obtain rfl : inn = [] := List.eq_nil_of_length_eq_zero hi0
        obtain rfl : c2 = 0 := by
          rcases MI.out.2 with ⟨hv, h0⟩ | ⟨g, cap, cur, hv, _⟩
          · injection hv
          · cases hv
        simp only [List.length_nil, List.map_nil, List.append_nil] at *
        have hle : out.length ≤ c3 := by
          rcases M3.out.2 with ⟨hv, h0⟩ | ⟨g, cap, cur, hv, _, _, h3, _⟩
          · omega
          · injection hv with _ _ h4; omega
        have fin : ∀ (W : World) (A4 : Option Addr), A4 = A3 → W = w3 → Calls Try.prog 26 #[.slice A4 out.length c3] W fun e w' => ∃ v y, e = .returned v ∧ Mine w1.heap.size w' v y ∧ SetIn lo hi pr l y ∧ Below w1.heap.size w1 w' := by
          rintro W A4 rfl rfl
          exact YJ.out _ _ _ _ (by simp) B3.out M3.out
        have FIN := Lib.hid fin
        clear fin
        cases A3 with
        | none =>
          go_wp2_with fail
          refine (FIN.out _ _ rfl rfl).mono ?_
          rintro e w5 ⟨v5, y, rfl, hm5, hs5, hb5⟩
          have F := Lib.hid (And.intro (hm5.base B1.out.size) (And.intro hs5 (below_then B1.out hb5 (Nat.le_refl _))))
          clear hm5 hs5 hb5
          go_wp2_with fail
          go_ret
          exact ⟨v5, y, rfl, F.out.1, F.out.2.1, F.out.2.2⟩
        | some a3 =>
          go_wp2_with fail
          refine (FIN.out _ _ rfl rfl).mono ?_
          rintro e w5 ⟨v5, y, rfl, hm5, hs5, hb5⟩
          have F := Lib.hid (And.intro (hm5.base B1.out.size) (And.intro hs5 (below_then B1.out hb5 (Nat.le_refl _))))
          clear hm5 hs5 hb5
          go_wp2_with fail
          go_ret
          exact ⟨v5, y, rfl, F.out.1, F.out.2.1, F.out.2.2⟩
      | some ad =>
        obtain ⟨g, rfl⟩ : ∃ g, ad = ⟨g, 0, none⟩ := by
          rcases MI.out.2 with ⟨h0, _⟩ | ⟨g, cap, cur, hv, _⟩
          · cases h0
          · injection hv with h1; injection h1 with h1; exact ⟨g, h1⟩
        have HC := Lib.hid (World.ownsRow.cells MI.out (g := g) (by simp [Value.ownBlock]))
        go_wp2_with (at_builtin; go_loud (refine wpList_append_own _ rfl (.tmp 40) (.tmp 41) _ rfl w1.heap.size 24 i0 _ 6 48 Try.underlying22 HI0.out H0.out H1.out H2.out rfl (by omega) _ out.length _ rfl M3.out ⟨g, 0, none⟩ inn.length c2 (cls (inn.map (Ar.prot pr))) rfl (by rw [cls_len]; simp) HC.out (cls_one _) (by simp only [maxLen]; omega) (by omega) (by have := S3.out; omega) ?_; intro v4 w4 hown' hg' _hnil; obtain ⟨A4, c4, rfl⟩ := own_slice hown'; have M4 := Lib.hid (mine_more (l := out) (l' := inn.map (Ar.prot pr)) (by simp) hown'); have B4 := Lib.hid (B3.out.grown hg' (by have := S3.out; omega) (fun k hk => (M3.out.lt k hk).1)); clear hown' hg' _hnil))
        refine (YJ.out _ _ _ _ rfl B4.out M4.out).mono ?_
        rintro e w5 ⟨v5, y, rfl, hm5, hs5, hb5⟩
        have F := Lib.hid (And.intro (hm5.base B1.out.size) (And.intro hs5 (below_then B1.out hb5 (Nat.le_refl _))))
        clear hm5 hs5 hb5
        go_wp2_with fail
        go_ret
        exact ⟨v5, y, rfl, F.out.1, F.out.2.1, F.out.2.2⟩
end Go.Proofs.Yteockpmadpbjiaa
