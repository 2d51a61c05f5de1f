/-
  Layer 7: whether a list is right: a contract for each call.
-/
import Derived.Test.YtmppodobgkhojaaList
import Derived.Test.YtmppodobgkhojaaListJoin
import Derived.Deep.LoopGhost
namespace Go.Proofs.Ytmppodobgkhojaa
open Go.ChangeShapes Go.WideShapes Go.ChangeAt Go.RowKit Go.Shelf
set_option linter.unusedVariables false

/-- What the closure has: the area behind it, the one that it is handed. -/
structure Last (w wr : World) (q : Nat) (z a : Ar) : Prop where
  lz : ArIn wr q z
  la : ArIn wr w.heap.size a
  lne : q < w.heap.size
  only : Only (fun k => k = q) w wr
theorem Last.new {w : World} {q : Nat} {z : Ar} (h : ArIn w q z) (a : Ar) : Last w (w.alloc (.cells a.cells 35)) q z a :=
  ⟨Whole.alloc h _, Whole.new _ _ _, Whole.lt h, (Only.refl _ _).alloc _⟩
theorem Last.still {w wr w' : World} {q : Nat} {z a : Ar} (h : Last w wr q z a) (hb : Below wr.heap.size wr w') : Last w w' q z a :=
  ⟨h.lz.still hb (Whole.lt h.lz), h.la.still hb (Whole.lt h.la), h.lne, h.only.trans ((Only.of_below hb _).mono (fun _ _ h => h))⟩
theorem Last.put {w wr : World} {q : Nat} {z a : Ar} (h : Last w wr q z a) : 
    ArIn ((((((wr.setCell ⟨q, 0, none⟩ (.int .i64 a.s)).setCell ⟨q, 1, none⟩ (.int .i64 a.e)).setCell ⟨q, 2, none⟩ (.int .i64 a.p)).setCell ⟨q, 3, none⟩ (.bool a.sh)).setCell ⟨q, 4, none⟩ (.int .i64 a.bk)).setCell ⟨q, 5, none⟩ (.int .i64 a.off)) q a ∧
    Only (fun k => k = q) w ((((((wr.setCell ⟨q, 0, none⟩ (.int .i64 a.s)).setCell ⟨q, 1, none⟩ (.int .i64 a.e)).setCell ⟨q, 2, none⟩ (.int .i64 a.p)).setCell ⟨q, 3, none⟩ (.bool a.sh)).setCell ⟨q, 4, none⟩ (.int .i64 a.bk)).setCell ⟨q, 5, none⟩ (.int .i64 a.off)) :=
  ⟨put6 h.lz _ _ _ _ _ _, (((((h.only.setCell (.inl rfl) _).setCell (.inl rfl) _).setCell (.inl rfl) _).setCell (.inl rfl) _).setCell (.inl rfl) _).setCell (.inl rfl) _⟩
/-- All that the walk reads. -/
structure LastCells (wr : World) (q qa : Nat) (z a : Ar) : Prop where
  cz : wr.cell? ⟨q, 0, none⟩ = some (.int .i64 z.s) ∧ wr.cell? ⟨q, 1, none⟩ = some (.int .i64 z.e) ∧ wr.cell? ⟨q, 2, none⟩ = some (.int .i64 z.p) ∧ wr.cell? ⟨q, 3, none⟩ = some (.bool z.sh) ∧ wr.cell? ⟨q, 4, none⟩ = some (.int .i64 z.bk) ∧ wr.cell? ⟨q, 5, none⟩ = some (.int .i64 z.off)
  ca : wr.cell? ⟨qa, 0, none⟩ = some (.int .i64 a.s) ∧ wr.cell? ⟨qa, 1, none⟩ = some (.int .i64 a.e) ∧ wr.cell? ⟨qa, 2, none⟩ = some (.int .i64 a.p) ∧ wr.cell? ⟨qa, 3, none⟩ = some (.bool a.sh) ∧ wr.cell? ⟨qa, 4, none⟩ = some (.int .i64 a.bk) ∧ wr.cell? ⟨qa, 5, none⟩ = some (.int .i64 a.off)
  cf : ∀ i, wr.frozen? ⟨q, i, none⟩ = false
theorem Last.cells {w wr : World} {q : Nat} {z a : Ar} (h : Last w wr q z a) : LastCells wr q w.heap.size z a := ⟨h.lz.cs, h.la.cs, h.lz.fr⟩

set_option maxHeartbeats 2000000 in
theorem wrong_any (z a : Ar) (q : Nat) (w : World) (hq : ArIn w q z) : Calls Try.prog 36 #[a.v, .pointer (some ⟨q, 0, none⟩)] w fun e w' =>
    e = .returned (.bool (!decide (Ok z a))) ∧ ArIn w' q a ∧ Only (fun k => k = q) w w' := by
  have X1 := Lib.hid (formed_any a)
  have X2 := Lib.hid (goes_any z a)
  have L0 := Lib.hid (Last.new hq a)
  have HR : Hid (decide (Ok z a) = (decide (Formed a) && (decide (z.e ≤ a.s) && !decide (GoesA z a)))) := Lib.hid (by rw [Bool.eq_iff_iff, decide_eq_true_iff]; simp [Ok])
  rw [HR.out]
  clear HR
  generalize decide (Formed a) = r1 at *
  generalize decide (GoesA z a) = r2 at *
  clear hq
  obtain ⟨z0, z1, z2, z3, z4, z5⟩ := z
  obtain ⟨a0, a1, a2, a3, a4, a5⟩ := a
  unfold Ar.v Ar.cells at *
  simp only at X1 X2 L0 ⊢
  go_enter Try.func36, Try.ntmps36
  go_wp2_with fail
  refine (X1.out _).mono ?_
  rintro e w1 ⟨rfl, hb1⟩
  have L1 := Lib.hid (L0.out.still hb1)
  obtain ⟨⟨y0, y1, y2, y3, y4, y5⟩, ⟨c0, c1, c2, c3, c4, c5⟩, cf⟩ := L1.out.cells
  simp only at y0 y1 y2 y3 y4 y5 c0 c1 c2 c3 c4 c5
  clear hb1 L0
  cases r1 with
  | false =>
    go_wp2
    go_ret
    exact ⟨rfl, L1.out.put⟩
  | true =>
    by_cases hle : z1 ≤ a0
    · go_wp2_with fail
      refine (X2.out _).mono ?_
      rintro e w2 ⟨rfl, hb2⟩
      have L2 := Lib.hid (L1.out.still hb2)
      clear y0 y1 y2 y3 y4 y5 c0 c1 c2 c3 c4 c5 cf L1 hb2
      obtain ⟨⟨y0, y1, y2, y3, y4, y5⟩, ⟨c0, c1, c2, c3, c4, c5⟩, cf⟩ := L2.out.cells
      simp only at y0 y1 y2 y3 y4 y5 c0 c1 c2 c3 c4 c5
      go_wp2
      go_ret
      refine ⟨?_, L2.out.put⟩
      simp [hle]
    · go_wp2
      go_ret
      refine ⟨?_, L1.out.put⟩
      simp [hle]

/-- Where the first one stands that may not stand behind the one ahead of it. -/
def firstWrong : Ar → List Ar → Option Nat
  | _, [] => none
  | z, a :: l => if Ok z a then (firstWrong a l).map (· + 1) else some 0
theorem firstWrong_none : ∀ (z : Ar) (l : List Ar), firstWrong z l = none ↔ After' z l
  | _, [] => by simp [firstWrong, After']
  | z, a :: l => by
    unfold firstWrong After'
    by_cases h : Ok z a
    · rw [if_pos h]; simp [firstWrong_none a l, h]
    · rw [if_neg h]; simp [h]
/-- Right's own variable, from w on. -/
structure LastIn (w wr : World) (q : Nat) (z : Ar) : Prop where
  lz : ArIn wr q z
  only : Only (fun k => k = q) w wr
theorem after_take {z : Ar} {l : List Ar} : ∀ {k : Nat} (hk : k < l.length), After' z (l.take k) → ¬ Ok ((l.take k).getLastD z) l[k] → ¬ After' z l := by
  intro k hk h1 h2 h3
  rw [← List.take_append_drop k l, after_app] at h3
  rw [List.drop_eq_getElem_cons hk] at h3
  exact h2 h3.2.1

set_option maxRecDepth 100000 in
set_option maxHeartbeats 2000000 in
theorem indexWrong_any (q : Nat) (A : Option Addr) (l : List Ar) (cap : Nat) (hl : l.length ≤ 100000) (w : World) (hq : ArIn w q Ar.nil) (hA : Areas q w A l) :
    Calls Try.prog 38 #[.slice A l.length cap, .func (.func 36) #[] #[.pointer (some ⟨q, 0, none⟩)]] w fun e w' =>
    (∃ i : Int, e = .returned (.int .i64 i) ∧ (i < 0 ↔ RightL l)) ∧ Only (fun k => k = q) w w' := by
  have eg : ∀ args w, (callFunc 36 args).run Try.prog w = .ok (.enter 36 args) w := enters_of Try.func36 (by kernel_rfl) rfl
  have X := Lib.hid wrong_any
  generalize hL : l.length = len at *
  have HL := Lib.hid hL
  have HA := Lib.hid hA
  have HQ := Lib.hid hq
  clear hL hA hq
  go_enter Try.func38, Try.ntmps38
  go_wp2_with fail
  go_loopg [5, 8] len (fun g _ s8 wr => ∃ k : Nat, k ≤ len ∧ len - k ≤ g ∧ s8 = .int .i64 k ∧ Hid (After' Ar.nil (l.take k)) ∧ Hid (LastIn w wr q ((l.take k).getLastD Ar.nil)))
  case atStart => exact ⟨0, Nat.zero_le _, by omega, rfl, Lib.hid trivial, Lib.hid ⟨HQ.out, Only.refl _ _⟩⟩
  case round =>
    obtain ⟨k, hk, hg, rfl, HF, HI⟩ := hrel
    by_cases hlt : k < len
    · have hltz : (k : Int) < (len : Int) := by omega
      rcases HA.out with hn | ⟨b, off, rfl, hb, hcs⟩
      · have := HL.out; rw [hn] at this; simp at this; omega
      have hlk : k < l.length := by rw [HL.out]; exact hlt
      have hC := hcs k hlk
      have HC : Hid (AreaAt wr b (off + k * 6) l[k]) := Lib.hid ⟨(HI.out.only.cell (p := ⟨b, _, none⟩) (by have := Whole.lt HQ.out; simp; omega) (by simp; omega)).trans hC.c0, (HI.out.only.cell (p := ⟨b, _, none⟩) (by have := Whole.lt HQ.out; simp; omega) (by simp; omega)).trans hC.c1, (HI.out.only.cell (p := ⟨b, _, none⟩) (by have := Whole.lt HQ.out; simp; omega) (by simp; omega)).trans hC.c2,
        (HI.out.only.cell (p := ⟨b, _, none⟩) (by have := Whole.lt HQ.out; simp; omega) (by simp; omega)).trans hC.c3, (HI.out.only.cell (p := ⟨b, _, none⟩) (by have := Whole.lt HQ.out; simp; omega) (by simp; omega)).trans hC.c4, (HI.out.only.cell (p := ⟨b, _, none⟩) (by have := Whole.lt HQ.out; simp; omega) (by simp; omega)).trans hC.c5⟩
      have HT : Hid (l.take (k + 1) = l.take k ++ [l[k]]) := Lib.hid (by rw [List.take_succ_eq_append_getElem hlk])
      have HN := Lib.hid (fun h1 h2 => after_take (z := Ar.nil) (l := l) hlk h1 h2)
      have Y := Lib.hid (X.out ((l.take k).getLastD Ar.nil) l[k] q wr HI.out.lz)
      generalize l[k] = x at *
      generalize hz : (l.take k).getLastD Ar.nil = z at *
      have HZ := Lib.hid hz
      clear hz
      obtain ⟨c0, c1, c2, c3, c4, c5⟩ := HC.out
      clear hcs hC HC
      obtain ⟨x0, x1, x2, x3, x4, x5⟩ := x
      simp only [Ar.v] at c0 c1 c2 c3 c4 c5 Y
      go_wp2_with fail
      refine Y.out.mono ?_
      rintro e w1 ⟨rfl, h1, h2⟩
      have H1 := Lib.hid h1
      have H2 := Lib.hid h2
      clear h1 h2 c0 c1 c2 c3 c4 c5 Y
      by_cases hok : Ok z ⟨x0, x1, x2, x3, x4, x5⟩
      · have hd : (!decide (Ok z ⟨x0, x1, x2, x3, x4, x5⟩)) = false := by simp [hok]
        rw [hd]
        have HO := Lib.hid hok
        clear hd hok
        go_wp2
        go_roundg (len - (k + 1))
        case measure => omega
        case rel =>
          refine ⟨k + 1, by omega, by omega, by go_num, Lib.hid ?_, Lib.hid ⟨?_, HI.out.only.trans H2.out⟩⟩
          · rw [HT.out, after_app, HZ.out]
            exact ⟨HF.out, HO.out, trivial⟩
          · rw [HT.out]; simp; exact H1.out
      · have hd : (!decide (Ok z ⟨x0, x1, x2, x3, x4, x5⟩)) = true := by simp [hok]
        rw [hd]
        have HO := Lib.hid hok
        clear hd hok
        go_wp2
        go_ret
        refine ⟨⟨k, rfl, ?_⟩, HI.out.only.trans H2.out⟩
        have := HN.out HF.out HO.out
        unfold RightL
        exact ⟨fun h => by omega, fun h => absurd h this⟩
    · obtain rfl : k = len := by omega
      go_wp2
      go_ret
      refine ⟨⟨-1, rfl, ?_⟩, HI.out.only⟩
      unfold RightL
      have h1 := HF.out
      rw [← HL.out, List.take_length] at h1
      exact ⟨fun _ => h1, fun _ => by omega⟩

set_option maxHeartbeats 2000000 in
theorem right_any (A : Option Addr) (l : List Ar) (cap : Nat) (hl : l.length ≤ 100000) (w : World) (hA : Areas w.heap.size w A l) :
    Calls Try.prog 25 #[.slice A l.length cap] w fun e w' => e = .returned (.bool (decide (RightL l))) ∧ Below w.heap.size w w' := by
  have hq : ArIn (w.alloc (.cells Ar.nil.cells 35)) w.heap.size Ar.nil := ArIn.new w Ar.nil
  have X := Lib.hid (indexWrong_any w.heap.size A l cap hl _ hq (hA.below (below_new w _)))
  simp only [Ar.nil, Ar.cells] at X
  generalize l.length = len at *
  clear hA hq
  go_enter Try.func25, Try.ntmps25
  go_wp2_with fail
  refine X.out.mono ?_
  rintro e w1 ⟨⟨i, rfl, hi⟩, ho⟩
  have HI := Lib.hid hi
  have HO := Lib.hid ho
  clear hi ho X
  go_wp2
  go_ret
  refine ⟨says_bool ?_, (below_new w _).trans (HO.out.below (B := w.heap.size) (fun k hk => by omega) (by simp))⟩
  rw [Bool.eq_iff_iff]; simp [HI.out]
end Go.Proofs.Ytmppodobgkhojaa
