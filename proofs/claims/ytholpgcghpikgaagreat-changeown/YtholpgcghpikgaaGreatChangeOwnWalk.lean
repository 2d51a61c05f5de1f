/-
  Layer 14: what is handed in stays.
-/
import Derived.Test.YtholpgcghpikgaaGreatPkCg
import Derived.Test.YtholpgcghpikgaaGreatPkB
import Derived.Deep.DeepCutAuto
import Derived.Deep.CutBlock
import Derived.Deep.LoopGhost
namespace Go.Proofs.YtholpgcghpikgaaGreat
open Go.ChangeShapes Go.WideShapes Go.ChangeAt Go.RowKit Go.Shelf
set_option linter.unusedVariables false

/-- A slice of areas in memory that is new, and the variable that holds it: all that the law wants of them. -/
def RowA (B : Nat) (w : World) (A : Option Addr) (n : Nat) : Prop := n = 0 ∨ ∃ g cs, A = some ⟨g, 0, none⟩ ∧ B ≤ g ∧ Whole w g 52 cs ∧ n * 6 ≤ cs.size
theorem Mine.rowA {B : Nat} {w : World} {A : Option Addr} {n c : Nat} {l : List Ar} (h : Mine B w (.slice A n c) l) : RowA B w A l.length := by
  rcases h.2 with ⟨_, h0⟩ | ⟨g, cap, cur, hv, hb, hh, h3, _, h5, _⟩
  · exact .inl h0
  · injection hv with h1
    subst h1
    exact .inr ⟨g, cur, rfl, hb, hh, by rw [h5]; exact Nat.mul_le_mul_right 6 h3⟩
theorem RowA.still {B : Nat} {w w' : World} {A : Option Addr} {n : Nat} (h : RowA B w A n) (hb : Below w.heap.size w w') : RowA B w' A n := by
  rcases h with h | ⟨g, cs, rfl, h1, h2, h3⟩
  · exact .inl h
  · exact .inr ⟨g, cs, rfl, h1, h2.below hb h2.lt, h3⟩
structure OwnR (wd wr : World) (A : Option Addr) (n qx : Nat) (cs : Array Value) : Prop where
  bel : Below wd.heap.size wd wr
  row : RowA wd.heap.size wr A n
  var : Whole wr qx 26 cs
theorem OwnR.step {wd wr : World} {A : Option Addr} {n qx k : Nat} {cs : Array Value} (h : OwnR wd wr A n qx cs) (hk : k < n) :
    ∃ g, A = some ⟨g, 0, none⟩ ∧ wr.frozen? ⟨g, k * 6 + 4, none⟩ = false ∧ (∃ u, wr.cell? ⟨g, k * 6 + 4, none⟩ = some u) ∧ ∀ u, OwnR wd (wr.setCell ⟨g, k * 6 + 4, none⟩ u) A n qx cs := by
  rcases h.row with h0 | ⟨g, ds, rfl, h1, h2, h3⟩
  · omega
  · refine ⟨g, rfl, h2.frozen _, ⟨ds[k * 6 + 4]'(by omega), ?_⟩, fun u => ⟨h.bel.setCell (p := ⟨g, k * 6 + 4, none⟩) h1 _, .inr ⟨g, _, rfl, h1, h2.put _ u, by simpa using h3⟩, h.var.far (h.var.apart h2 (by decide)) u⟩⟩
    rw [h2.cell, Array.getElem?_eq_getElem]

set_option maxHeartbeats 2000000 in
theorem own_many (A : Option Addr) (n cc : Nat) (c : Cl) (w : World) (hn : 30 < n) :
    Calls Tryz.prog 7 #[.slice A n cc, c.v] w fun e w' => e = .returned (.bool true) ∧ Below w.heap.size w w' := by
  have W0 := Lib.hid ch_awake
  have G := Lib.hid ((Bag.new w).add 38 c.cells)
  have hz : (30 : Int) < (n : Int) := by omega
  obtain ⟨ck, ca, cn, cnw, ctw, cp, cf, cb, co⟩ := c
  unfold Cl.v at *
  simp only [Cl.cells] at *
  go_enter Tryz.func7, Tryz.ntmps7
  go_wp2_with fail
  refine (W0.out _).mono ?_
  rintro e w1 ⟨rfl, hb⟩
  have G := Lib.hid (G.out.still hb)
  clear hb
  go_wp2_with fail
  refine (W0.out _).mono ?_
  rintro e w2 ⟨rfl, hb⟩
  have G := Lib.hid (G.out.still hb)
  clear hb
  go_wp2_with fail
  go_ret
  exact ⟨rfl, G.out.bel⟩

set_option maxRecDepth 4000 in
set_option maxHeartbeats 8000000 in
theorem own_few (l : List Cl) (A : Option Addr) (cc : Nat) (c : Cl) (w : World) (hl : l.length ≤ 30) (hA : CallsAt w A l) (hB : ∀ k, k < l.length → i64 (nthC l k).f ∧ i64 (nthC l k).o) (hco : i64 c.o) :
    Calls Tryz.prog 7 #[.slice A l.length cc, c.v] w fun e w' => e = .returned (.bool true) ∧ Below w.heap.size w w' := by
  have W0 := Lib.hid ch_awake
  have G := Lib.hid ((Bag.new w).add 38 c.cells)
  have CP : Hid (∀ W, Below w.heap.size w W → Calls Tryz.prog 9 #[.slice A l.length cc] W fun r w' => ∃ v' q, r = .returned (.tuple #[.agg #[v', .int .i64 (plS l l.length).n], .slice (some ⟨q, 0, none⟩) l.length l.length]) ∧ W.heap.size ≤ q ∧ Whole w' q 34 (ansA (plA l) l.length) ∧ Mine W.heap.size w' v' (plS l l.length).l ∧ Below W.heap.size W w') := Lib.hid (fun W h => play_c l A cc W (by omega) (hA.below h) (fun k hk => (hB k hk).2))
  have hS := pl_right l l.length
  obtain ⟨ck, ca, cn, cnw, ctw, cp, cf, cb, co⟩ := c
  unfold Cl.v at *
  simp only [Cl.cells] at *
  generalize plS l l.length = S at *
  obtain ⟨X, N⟩ := S
  simp only at *
  obtain ⟨Y, N1, ae, ax, ⟨ap, ah, ab, ao⟩, hr⟩ : ∃ Y N1 e x t, chR ⟨X, N⟩ ⟨ck, ca, cn, cnw, ctw, cp, cf, cb, co⟩ = (⟨Y, N1⟩, ⟨e, x, t⟩) := ⟨_, _, _, _, _, rfl⟩
  have hYl : Y.length ≤ 24 := by
    have := (chR_right hS ⟨ck, ca, cn, cnw, ctw, cp, cf, cb, co⟩).1.2
    rw [hr] at this
    exact this
  have hXl : X.length ≤ 24 := hS.1.2
  have CD : Hid (∀ W u, Holds W u X → Calls Tryz.prog 10 #[.agg #[u, .int .i64 N], .agg #[.int .i64 ck, .int .i64 ca, .int .i64 cn, .int .i64 cnw, .int .i64 ctw, .int .i64 cp, .int .i64 cf, .int .i64 cb, .int .i64 co]] W fun e w' => ∃ v', e = .returned (.tuple #[.agg #[v', .int .i64 N1], .agg #[.int .i64 ae, .int .i64 ax, .int .i64 ap, .bool ah, .int .i64 ab, .int .i64 ao]]) ∧ Mine W.heap.size w' v' Y ∧ Below W.heap.size W w') := Lib.hid (fun W u h => by
    have := do_c (s := ⟨X, N⟩) h (sc_len hS) ⟨ck, ca, cn, cnw, ctw, cp, cf, cb, co⟩ hco
    unfold GivesS scV at this
    rw [hr] at this
    exact this)
  have CQ : Hid (∀ W u u', Holds W u X → Holds W u' X → Calls Tryz.prog 17 #[u, u'] W fun e w' => e = .returned (.bool true) ∧ Below W.heap.size W w') := Lib.hid (fun W u u' h h' => same_c h h' rfl hS.1.1)
  obtain ⟨i0, hi0, hz0, hz1, hz2⟩ := info_parts area_info
  have HI0 : Hid (Tryz.prog.info? 52 = some i0) := Lib.hid hi0
  have H0 : Hid (i0.zero = some Ar.nil.v) := Lib.hid hz0
  have H1 : Hid (i0.size = 6) := Lib.hid hz1
  have H2 : Hid (i0.bytes = 48) := Lib.hid hz2
  clear hi0 hz0 hz1 hz2 hr hB hA hS hco
  generalize hn : l.length = n at *
  clear hn
  have hz : ¬ (30 : Int) < (n : Int) := by omega
  go_enter Tryz.func7, Tryz.ntmps7
  go_wp2_with fail
  refine (W0.out _).mono ?_
  rintro e w1 ⟨rfl, hb⟩
  have G := Lib.hid (G.out.still hb)
  clear hb
  go_wp2_with fail
  refine (CP.out _ G.out.bel).mono ?_
  rintro e w2 ⟨vs, q1, rfl, hq1, hW, hm, hb⟩
  obtain ⟨As, cs, rfl⟩ := hm.is
  have SZ := Lib.hid G.out.bel.size
  have LT := Lib.hid (G.out.still hb).low
  have G := Lib.hid ((G.out.still hb).add 26 #[.slice As X.length cs, .int .i64 N])
  have KS := Lib.hid ((hm.base SZ.out).still (below_new w2 (.cells #[.slice As X.length cs, .int .i64 N] 26)))
  clear hb hm hW hq1 SZ CP
  clear LT
  obtain ⟨s0, s1⟩ := row2c G.out.v0
  go_upto_region 4 with (fail)
  generalize World.alloc w2 _ = W at *
  generalize w2.heap.size = qs at *
  have O1 : Hid ((W.alloc (.cells #[] 52)).ownsRow W.heap.size 52 6 (.slice (some ⟨W.heap.size, 0, none⟩) 0 0) 0 []) := Lib.hid (World.ownsRow_made W #[] 0 (Nat.le_refl _) (by simp) rfl)
  obtain ⟨t0, t1⟩ := row2c (G.out.still (below_new W (.cells #[] 52))).v0
  go_cut [7] (fun s7 wc => Hid (Mine W.heap.size wc s7 X ∧ Below W.heap.size W wc))
  case first =>
    by_cases hx0 : X.length = 0
    · obtain rfl : X = [] := List.eq_nil_of_length_eq_zero hx0
      simp only [List.length_nil] at *
      cases As with
      | none =>
        go_wp2_with fail
        go_meet
        exact Lib.hid ⟨O1.out, below_new _ _⟩
      | some ad5 =>
        go_wp2_with fail
        go_meet
        exact Lib.hid ⟨O1.out, below_new _ _⟩
    · obtain ⟨g, rfl⟩ : ∃ g, As = some ⟨g, 0, none⟩ := by
        rcases KS.out.2 with ⟨_, h0⟩ | ⟨g, cap, cur, hv, _⟩
        · omega
        · injection hv with h1; exact ⟨g, h1⟩
      have HXC : Hid (∀ w', Below W.heap.size W w' → ∀ j u, (cls X)[j]? = some u → w'.cell? ((⟨g, 0, none⟩ : Addr).add j) = some u) := Lib.hid (fun w' h => World.ownsRow.cells (KS.out.still h) (g := g) (by simp [Value.ownBlock]))
      go_wp2_with (at_builtin; go_loud (refine wpList_append_own _ rfl (.tmp 24) (.tmp 26) _ rfl W.heap.size 52 i0 _ 6 48 Tryz.underlying24 HI0.out H0.out H1.out H2.out rfl (by omega) (.slice (some ⟨W.heap.size, 0, none⟩) 0 0) 0 _ rfl O1.out ⟨g, 0, none⟩ X.length cs (cls X) rfl (by rw [cls_len]) (HXC.out _ (below_new W _)) (cls_one _) (by simp only [maxLen]; omega) (by omega) (by simp) ?_; intro v3 w3 hown' hg' _hnil; rw [Nat.zero_add, List.nil_append] at hown'; have M3 : Hid (Mine W.heap.size w3 v3 X) := Lib.hid hown'; have B3 := Lib.hid ((below_new W (.cells #[] 52)).grown hg' (by simp) (fun k hk => by have e : W.heap.size = k := by { simpa [Value.ownBlock] using hk }; omega)); clear hown' hg' _hnil))
      go_meet
      exact Lib.hid ⟨M3.out, B3.out⟩
  case rest =>
  have KW := Lib.hid hcut.out.1.holds
  have BC := Lib.hid hcut.out.2
  have G := Lib.hid (G.out.still BC.out)
  have KS := Lib.hid (KS.out.still BC.out)
  clear O1 hcut BC s0 s1 t0 t1 HI0 H0 H1 H2
  obtain ⟨Aw, cw, hv⟩ := KW.out.is
  subst hv
  obtain ⟨c0, c1, c2, c3, c4, c5, c6, c7, c8⟩ := nine G.out.v1
  obtain ⟨s0, s1⟩ := row2c G.out.v0
  go_wp2_with fail
  refine (CD.out _ _ KS.out.holds).mono ?_
  rintro e w4 ⟨v4, rfl, hm, hb⟩
  obtain ⟨A4, c4x, rfl⟩ := hm.is
  have RA := Lib.hid hm.rowA
  have BB := Lib.hid hb
  have BN := Lib.hid (below_new2 w4 (.cells #[.slice A4 Y.length c4x, .int .i64 N1] 26) (.cells #[.int .i64 ae, .int .i64 ax, .int .i64 ap, .bool ah, .int .i64 ab, .int .i64 ao] 34))
  have VR := Lib.hid ((Whole.new w4 26 #[.slice A4 Y.length c4x, .int .i64 N1]).alloc (.cells #[.int .i64 ae, .int .i64 ax, .int .i64 ap, .bool ah, .int .i64 ab, .int .i64 ao] 34))
  clear hb hm CD c0 c1 c2 c3 c4 c5 c6 c7 c8 s0 s1
  have OR : Hid (OwnR wc _ A4 Y.length w4.heap.size #[.slice A4 Y.length c4x, .int .i64 N1]) := Lib.hid ⟨below_then BB.out BN.out (Nat.le_refl _), RA.out.still BN.out, VR.out⟩
  clear BN VR RA BB
  have SQ := Lib.hid (fun W2 (hb : Below wc.heap.size wc W2) => row2c (G.out.still hb).v0)
  have KQ := Lib.hid (fun W2 (hb : Below wc.heap.size wc W2) => KS.out.holds.still hb)
  have WQ := Lib.hid (fun W2 (hb : Below wc.heap.size wc W2) => KW.out.still hb)
  have GB := Lib.hid (fun W2 (hb : Below wc.heap.size wc W2) => (G.out.still hb).bel)
  clear KS KW G
  generalize Y.length = m at *
  go_wp2_with fail
  generalize World.alloc (World.alloc w4 _) _ = w5 at *
  generalize w4.heap.size = qx at *
  go_loopg [10] m (fun g s10 wr => ∃ k : Nat, k ≤ m ∧ m - k ≤ g ∧ s10 = .int .i64 k ∧ Hid (OwnR wc wr A4 m qx #[.slice A4 m c4x, .int .i64 N1]))
  case atStart => exact ⟨0, by omega, by omega, rfl, OR⟩
  case round =>
    clear OR
    obtain ⟨k, hk, hg, rfl, OR⟩ := hrel
    obtain ⟨x0, x1⟩ := row2c OR.out.var
    by_cases hlt : k < m
    · have hltz : (k : Int) < (m : Int) := by omega
      have hz0 : (0 : Int) ≤ (k : Int) := by omega
      obtain ⟨g1, rfl, hf, ⟨u, hu⟩, hs⟩ := OR.out.step hlt
      have HS := Lib.hid hs
      clear hs
      go_wp2_with fail
      go_roundg (m - (k + 1))
      case measure => omega
      case rel => exact ⟨k + 1, by omega, by omega, by go_num, Lib.hid (HS.out _)⟩
    · obtain rfl : k = m := by omega
      have hz1 : ¬ (k : Int) < (k : Int) := by omega
      obtain ⟨s0, s1⟩ := SQ.out _ OR.out.bel
      have GB := Lib.hid (GB.out _ OR.out.bel)
      have KS := Lib.hid (KQ.out _ OR.out.bel)
      have KW := Lib.hid (WQ.out _ OR.out.bel)
      clear SQ KQ WQ OR
      go_wp2_with fail
      refine (CQ.out _ _ _ KS.out KW.out).mono ?_
      rintro e w6 ⟨rfl, hb⟩
      have GB := Lib.hid (below_then GB.out hb (Nat.le_refl _))
      clear hb
      go_wp2_with fail
      go_ret
      exact ⟨rfl, GB.out⟩

theorem own_any (l : List Cl) (A : Option Addr) (cc : Nat) (c : Cl) (w : World) (hA : CallsAt w A l) (hB : ∀ k, k < l.length → i64 (nthC l k).f ∧ i64 (nthC l k).o) (hco : i64 c.o) :
    Calls Tryz.prog 7 #[.slice A l.length cc, c.v] w fun e w' => e = .returned (.bool true) ∧ Below w.heap.size w w' := by
  by_cases hl : l.length ≤ 30
  · exact own_few l A cc c w hl hA hB hco
  · exact own_many A l.length cc c w (by omega)
end Go.Proofs.YtholpgcghpikgaaGreat
