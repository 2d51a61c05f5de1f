/-
  Layer 7: Cut, Put, Pages: a contract for each call.
-/
import Derived.Test.YtmppodobgkhojaaListJoined
import Derived.Deep.RegionHeld3
import Derived.Deep.AppendLies
import Derived.Deep.DrawnRows
namespace Go.Proofs.Ytmppodobgkhojaa
open Go.ChangeShapes Go.WideShapes Go.ChangeAt Go.RowKit Go.Shelf
set_option linter.unusedVariables false
attribute [local go_sem ↓] Go.wp_at_zero Go.wp_at_succ

set_option maxHeartbeats 1000000 in
theorem pages_any (A : Option Addr) (l : List Ar) (cap : Nat) (hr : RightL l) (w : World) (hA : Areas w.heap.size w A l) :
    Calls Try.prog 12 #[.slice A l.length cap] w fun e w' => e = .returned (.int .i64 (sumL l / 4096)) ∧ Below w.heap.size w w' := by
  have hl := right_len hr
  obtain ⟨l2, rfl⟩ : ∃ l2 : List FAr, l = l2.map (·.1) := ⟨l.attach.map (fun x => ⟨x.1, right_formed hr x.1 x.2⟩), by simp⟩
  rw [List.length_map] at *
  have X := Lib.hid (right_any A (l2.map (·.1)) cap (by simp; omega) w hA)
  rw [decide_eq_true hr, List.length_map] at X
  have Y := Lib.hid (fun w1 h => length_any A l2 cap (by omega) w1 h)
  have hs := sum_bound l2
  have HA := Lib.hid hA
  clear hr hA
  generalize sumL (l2.map (·.1)) = s at *
  generalize l2.length = n at *
  go_enter Try.func12, Try.ntmps12
  go_wp2_with fail
  refine X.out.mono ?_
  rintro e w1 ⟨rfl, hb1⟩
  have B1 := Lib.hid hb1
  have A1 := Lib.hid ((HA.out.below hb1).mono hb1.size)
  clear hb1
  go_wp2_with fail
  refine (Y.out w1 A1.out).mono ?_
  rintro e w2 ⟨rfl, hb2⟩
  have B2 := Lib.hid hb2
  clear hb2
  go_wp2_with fail
  go_ret
  exact ⟨rfl, below_then B1.out B2.out (Nat.le_refl _)⟩

set_option maxHeartbeats 1000000 in
theorem pages_no (A : Option Addr) (l : List Ar) (cap : Nat) (hl : l.length ≤ 10000) (hr : ¬ RightL l) (w : World) (hA : Areas w.heap.size w A l) :
    Calls Try.prog 12 #[.slice A l.length cap] w fun e w' => e = .returned (.int .i64 0) ∧ Below w.heap.size w w' := by
  have X := Lib.hid (right_any A l cap (by omega) w hA)
  rw [decide_eq_false hr] at X
  clear hr hA
  generalize l.length = n at *
  go_enter Try.func12, Try.ntmps12
  go_wp2_with fail
  refine X.out.mono ?_
  rintro e w1 ⟨rfl, hb1⟩
  have B1 := Lib.hid hb1
  clear hb1
  go_wp2_with fail
  go_ret
  exact ⟨rfl, B1.out⟩

set_option maxHeartbeats 1000000 in
theorem put_no (A : Option Addr) (l : List Ar) (cap : Nat) (a : Ar) (hl : l.length ≤ 10000) (hr : ¬ (RightL l ∧ Formed a)) (w : World) (hA : Areas w.heap.size w A l) :
    Calls Try.prog 17 #[.slice A l.length cap, a.v] w fun e w' => e = .returned (.slice none 0 0) ∧ Below w.heap.size w w' := by
  have X := Lib.hid (fun w1 h => right_any A l cap (by omega) w1 h)
  have Y := Lib.hid (formed_any a)
  have HA := Lib.hid hA
  have G0 := Lib.hid ((Bag.new w).add 35 a.cells)
  clear hA
  by_cases h1 : RightL l
  · rw [decide_eq_true h1] at X
    rw [decide_eq_false (fun h => hr ⟨h1, h⟩)] at Y
    clear hr h1
    generalize l.length = n at *
    obtain ⟨a0, a1, a2, a3, a4, a5⟩ := a
    simp only [Ar.v, Ar.cells] at Y G0 ⊢
    go_enter Try.func17, Try.ntmps17
    go_wp2_with fail
    refine (X.out _ ((HA.out.below G0.out.bel).mono G0.out.bel.size)).mono ?_
    rintro e w1 ⟨rfl, hb1⟩
    have G1 := Lib.hid (G0.out.still hb1)
    clear hb1 G0
    obtain ⟨d0, d1, d2, d3, d4, d5⟩ := row6 G1.out.v0
    go_wp2_with fail
    refine (Y.out _).mono ?_
    rintro e w2 ⟨rfl, hb2⟩
    have B2 := Lib.hid (G1.out.still hb2).bel
    clear hb2 d0 d1 d2 d3 d4 d5
    go_wp2_with fail
    go_ret
    exact ⟨rfl, B2.out⟩
  · rw [decide_eq_false h1] at X
    clear hr h1
    generalize l.length = n at *
    obtain ⟨a0, a1, a2, a3, a4, a5⟩ := a
    simp only [Ar.v, Ar.cells] at Y G0 ⊢
    go_enter Try.func17, Try.ntmps17
    go_wp2_with fail
    refine (X.out _ ((HA.out.below G0.out.bel).mono G0.out.bel.size)).mono ?_
    rintro e w1 ⟨rfl, hb1⟩
    have B1 := Lib.hid (G0.out.still hb1).bel
    clear hb1 G0
    go_wp2_with fail
    go_ret
    exact ⟨rfl, B1.out⟩

/-- What is put lies in a list. -/
def PutIn (l : List Ar) (a : Ar) (y : List Ar) : Prop := RightL y ∧ ∀ p, tab y p = if Cov a p then some (a.at p) else tab l p
/-- joined, of a row whose length is spelt otherwise. -/
theorem joined_row (B : Nat) (A : Option Addr) (n c : Nat) (l : List Ar) (w : World) (hn : n = l.length) (hm : Mine B w (.slice A n c) l) (hl : l.length ≤ 50000) :
    Calls Try.prog 31 #[.slice A n c] w fun e w' => ∃ v l', e = .returned v ∧ l.Perm l' ∧ l'.Pairwise (fun a b => a.s ≤ b.s) ∧ Mine w.heap.size w' v (joinL l') ∧ Only (fun k => (Value.slice A n c).ownBlock = some k) w w' := by
  subst hn; exact joined_any B A c l w hm hl

theorem put_below {w2 w4 w5 : World} {v : Value} {l : List Ar} (h : Below w2.heap.size w2 w4) (hm : Mine w2.heap.size w4 v l) (ho : Only (fun k => v.ownBlock = some k) w4 w5) : Below w2.heap.size w2 w5 :=
  h.trans (ho.below (fun k hk => (hm.lt k hk).1) h.size)

set_option maxRecDepth 4000 in
set_option maxHeartbeats 4000000 in
theorem put_any (A : Option Addr) (l : List Ar) (cap : Nat) (a : Ar) (hr : RightL l) (hf : Formed a) (w : World) (hA : Areas w.heap.size w A l) :
    Calls Try.prog 17 #[.slice A l.length cap, a.v] w fun e w' => ∃ v y, e = .returned v ∧ Mine w.heap.size w' v y ∧ PutIn l a y ∧ Below w.heap.size w w' := by
  have hl := right_len hr
  have X := Lib.hid (fun w1 h => right_any A l cap (by omega) w1 h)
  have Y := Lib.hid (formed_any a)
  have XO := Lib.hid (fun w1 h => outside_any A l cap a.s a.e (by omega) w1 h)
  have HA := Lib.hid hA
  have G0 := Lib.hid ((Bag.new w).add 35 a.cells)
  have HP := Lib.hid (put_apart hr hf)
  have hlo := outside_len a.s a.e l
  rw [decide_eq_true hr] at X
  rw [decide_eq_true hf] at Y
  have HRR := Lib.hid hr
  have HFF := Lib.hid hf
  clear hA hr hf
  obtain ⟨i0, hi0, hz0, hz1, hz2⟩ := info_parts area_info
  have HI0 : Hid (Try.prog.info? 35 = some i0) := Lib.hid hi0
  have H0 : Hid (i0.zero = some Ar.nil.v) := Lib.hid hz0
  have H1 : Hid (i0.size = 6) := Lib.hid hz1
  have H2 : Hid (i0.bytes = 48) := Lib.hid hz2
  clear hi0 hz0 hz1 hz2
  have HN : Hid (outsideL a.s a.e l = outsideL a.s a.e l) := Lib.hid rfl
  generalize hout : outsideL a.s a.e l = out at *
  have HOUT := Lib.hid hout
  clear hout HN
  have hln : l.length ≤ 496 := hl
  have HLL := Lib.hid hl
  have hlo2 : out.length ≤ 992 := by omega
  clear hl hlo
  generalize l.length = n at *
  obtain ⟨a0, a1, a2, a3, a4, a5⟩ := a
  simp only [Ar.v, Ar.cells] at Y G0 XO ⊢
  go_enter Try.func17, Try.ntmps17
  go_wp2_with fail
  refine (X.out _ ((HA.out.below G0.out.bel).mono G0.out.bel.size)).mono ?_
  rintro e w1 ⟨rfl, hb1⟩
  have G1 := Lib.hid (G0.out.still hb1)
  clear hb1 G0 X
  obtain ⟨d0, d1, d2, d3, d4, d5⟩ := row6 G1.out.v0
  go_wp2_with fail
  refine (Y.out _).mono ?_
  rintro e w2 ⟨rfl, hb2⟩
  have G2 := Lib.hid (G1.out.still hb2)
  clear hb2 d0 d1 d2 d3 d4 d5 G1 Y
  have HK : Hid (∀ w', Below w2.heap.size w2 w' → (w'.cell? ⟨w.heap.size, 0, none⟩ = some (.int .i64 a0) ∧ w'.cell? ⟨w.heap.size, 1, none⟩ = some (.int .i64 a1) ∧ w'.cell? ⟨w.heap.size, 2, none⟩ = some (.int .i64 a2) ∧ w'.cell? ⟨w.heap.size, 3, none⟩ = some (.bool a3) ∧ w'.cell? ⟨w.heap.size, 4, none⟩ = some (.int .i64 a4) ∧ w'.cell? ⟨w.heap.size, 5, none⟩ = some (.int .i64 a5))) := Lib.hid (fun w' h => row6 (G2.out.still h).v0)
  have AO : Hid (∀ w', Below w2.heap.size w2 w' → Calls Try.prog 32 #[.slice A n cap, .int .i64 a0, .int .i64 a1] w' fun e w'' => ∃ v, e = .returned v ∧ Mine w2.heap.size w'' v out ∧ Below w2.heap.size w2 w'' ∧ Below w'.heap.size w' w'') := Lib.hid (fun w' h => (XO.out w' ((HA.out.below (G2.out.still h).bel).mono (G2.out.still h).bel.size)).mono fun e w'' ⟨v, he, hm, hb⟩ => ⟨v, he, hm.base h.size, below_then h hb (Nat.le_refl _), hb⟩)
  clear XO
  have S2 : Hid (w.heap.size < w2.heap.size) := Lib.hid G2.out.v0.lt
  obtain ⟨d0, d1, d2, d3, d4, d5⟩ := HK.out w2 (Below.refl _ _)
  go_wp2_with fail
  clear d0 d1 d2 d3 d4 d5
  go_region_held3 (fun w' => w'.cell? ⟨w.heap.size, 0, none⟩ = some (.int .i64 a0) ∧ w'.cell? ⟨w.heap.size, 1, none⟩ = some (.int .i64 a1) ∧ w'.cell? ⟨w.heap.size, 2, none⟩ = some (.int .i64 a2) ∧ w'.cell? ⟨w.heap.size, 3, none⟩ = some (.bool a3) ∧ w'.cell? ⟨w.heap.size, 4, none⟩ = some (.int .i64 a4) ∧ w'.cell? ⟨w.heap.size, 5, none⟩ = some (.int .i64 a5))
    (first | exact HK.out _ (below_drew (Below.refl _ _)) | exact HK.out _ ((below_drew (Below.refl _ _)).alloc (Nat.le_refl _) _) | exact HK.out _ B5.out | exact HK.out _ B4.out | exact HK.out _ B3.out | exact HK.out _ (B3.out.alloc B3.out.size _))
    (first
    | (go_at_call 32; refine (AO.out _ (by first | exact below_drew (Below.refl _ _) | exact (below_drew (Below.refl _ _)).alloc (Nat.le_refl _) _)).mono ?_; rintro e w3 ⟨v3, rfl, hm3, hb3, hc3⟩; obtain ⟨A3, k3, rfl⟩ := hm3.is; have M3 := Lib.hid hm3; have B3 := Lib.hid hb3; have C3 := Lib.hid hc3; clear hm3 hb3 hc3)
    | (go_at_call 31; refine (joined_row w2.heap.size _ _ _ (out ++ [⟨a0, a1, a2, a3, a4, a5⟩]) _ (by simp) M4.out (by simp; omega)).mono ?_; rintro e w5 ⟨v5, l5, rfl, hp5, hs5, hm5, ho5⟩; have P5 := Lib.hid (joined_perm HP.out.1 HP.out.2.1 hp5 hs5); have M5 := Lib.hid hm5; have B5 := Lib.hid (put_below B4.out M4.out ho5); clear hp5 hs5 hm5 ho5)
    | (refine step_append_lies _ (by rfl) (.tmp 18) (.tmp 20) _ (by rfl) w2.heap.size 35 i0 _ 6 48 Try.underlying22 HI0.out H0.out H1.out H2.out rfl (by omega) _ out.length _ (by rfl) (World.ownsRow.alloc M3.out _) ⟨w3.heap.size, 0, none⟩ 1 1 (Ar.cl ⟨a0, a1, a2, a3, a4, a5⟩) (by rfl) rfl (new6 w3 ⟨a0, a1, a2, a3, a4, a5⟩ 35) (cl_one _) (by omega) (by simp only [maxLen]; omega) (by omega) (by have := B3.out.size; simp; omega) (w3.heap.size + 1) (by simp) ?_; intro g4 c4 w4 hown hgrow hat hlt; have M4 := Lib.hid (mine_more (l := out) (l' := [⟨a0, a1, a2, a3, a4, a5⟩]) rfl (by rw [cls_single]; exact hown)); have B4 := Lib.hid ((B3.out.alloc B3.out.size _).grown hgrow (by have := B3.out.size; simp; omega) (fun k hk => (M3.out.lt k hk).1)); clear hown hgrow hat hlt)
    | (refine step_append_lies _ (by rfl) (.tmp 18) (.tmp 20) _ (by rfl) w2.heap.size 35 i0 _ 6 48 Try.underlying22 HI0.out H0.out H1.out H2.out rfl (by omega) _ out.length _ (by rfl) M3.out ⟨w2.heap.size, 0, none⟩ 1 1 (Ar.cl ⟨a0, a1, a2, a3, a4, a5⟩) (by rfl) rfl (fun j u hu => (Below.cell C3.out (p := (⟨w2.heap.size, 0, none⟩ : Addr).add j) (by rw [Addr.add_lit]; simp)).trans (new6 w2.drew ⟨a0, a1, a2, a3, a4, a5⟩ 35 j u hu)) (cl_one _) (by omega) (by simp only [maxLen]; omega) (by omega) (by have := B3.out.size; omega) w3.heap.size rfl ?_; intro g4 c4 w4 hown hgrow hat hlt; have M4 := Lib.hid (mine_more (l := out) (l' := [⟨a0, a1, a2, a3, a4, a5⟩]) rfl (by rw [cls_single]; exact hown)); have B4 := Lib.hid (B3.out.grown hgrow (by have := B3.out.size; omega) (fun k hk => (M3.out.lt k hk).1)); clear hown hgrow hat hlt))
  all_goals (
    go_wp2_with fail
    go_ret
    exact ⟨v5, _, rfl, M5.out.base (Nat.le_trans G2.out.bel.size B4.out.size), ⟨P5.out.1, fun p => (P5.out.2 p).trans (HP.out.2.2 p)⟩, below_then G2.out.bel B5.out (Nat.le_refl _)⟩)
end Go.Proofs.Ytmppodobgkhojaa
