/-
  Layer 7: what is handed in stays.
-/
import Derived.Test.YteockpmadpbjiaaListHold
import Derived.Deep.DeepCutAuto
import Derived.Deep.CutBlock
namespace Go.Proofs.Yteockpmadpbjiaa
open Go.ChangeShapes Go.WideShapes Go.ChangeAt Go.RowKit Go.Shelf
set_option linter.unusedVariables false

theorem row2' {w : World} {q : Nat} {t : TypeId} {a b : Value} (h : Whole w q t #[a, b]) : w.cell? ⟨q, 0, none⟩ = some a ∧ w.cell? ⟨q, 1, none⟩ = some b := ⟨h.cell 0, h.cell 1⟩
/-- Two numbers, as the program has them. -/
def two' (t0 t1 : Int) : Value := .agg #[.int .i64 t0, .int .i64 t1]
/-- A slice of areas in memory that is new: all that the laws want of it. -/
def Row (B : Nat) (w : World) (A : Option Addr) (n : Nat) : Prop := n = 0 ∨ ∃ g cs, A = some ⟨g, 0, none⟩ ∧ B ≤ g ∧ Whole w g 24 cs ∧ n * 6 ≤ cs.size
theorem Mine.row {B : Nat} {w : World} {A : Option Addr} {n c : Nat} {l : List Ar} (h : Mine B w (.slice A n c) l) : Row B w A l.length := by
  rcases h.2 with ⟨_, h0⟩ | ⟨g, cap, cur, hv, hb, hh, h3, _, h5, _⟩
  · exact .inl h0
  · injection hv with h1
    subst h1
    exact .inr ⟨g, cur, rfl, hb, hh, by rw [h5]; exact Nat.mul_le_mul_right 6 h3⟩
theorem Row.still {B : Nat} {w w' : World} {A : Option Addr} {n : Nat} (h : Row B w A n) (hb : Below w.heap.size w w') : Row B w' A n := by
  rcases h with h | ⟨g, cs, rfl, h1, h2, h3⟩
  · exact .inl h
  · exact .inr ⟨g, cs, rfl, h1, h2.below hb h2.lt, h3⟩
theorem Row.put {B : Nat} {w : World} {A : Option Addr} {n : Nat} (h : Row B w A n) (b i : Nat) (u : Value) : Row B (w.setCell ⟨b, i, none⟩ u) A n := by
  rcases h with h | ⟨g, cs, rfl, h1, h2, h3⟩
  · exact .inl h
  · by_cases e : g = b
    · subst e; exact .inr ⟨g, _, rfl, h1, h2.put i u, by simpa using h3⟩
    · exact .inr ⟨g, cs, rfl, h1, h2.far e u, h3⟩
theorem Row.base {B B' : Nat} {w : World} {A : Option Addr} {n : Nat} (h : Row B w A n) (hb : B' ≤ B) : Row B' w A n := by
  rcases h with h | ⟨g, cs, rfl, h1, h2⟩
  · exact .inl h
  · exact .inr ⟨g, cs, rfl, Nat.le_trans hb h1, h2⟩
/-- Three new rows; all that was there is as it was. -/
structure OwnAt (w wr : World) (A1 A2 A3 : Option Addr) (n1 n2 n3 : Nat) : Prop where
  bel : Below w.heap.size w wr
  r1 : Row w.heap.size wr A1 n1
  r2 : Row w.heap.size wr A2 n2
  r3 : Row w.heap.size wr A3 n3
theorem OwnAt.step {w wr : World} {A1 A2 A3 : Option Addr} {n1 n2 n3 : Nat} (h : OwnAt w wr A1 A2 A3 n1 n2 n3) {A : Option Addr} {n k : Nat} (hr : Row w.heap.size wr A n) (hk : k < n) :
    ∃ g, A = some ⟨g, 0, none⟩ ∧ wr.frozen? ⟨g, k * 6 + 4, none⟩ = false ∧ (∃ u, wr.cell? ⟨g, k * 6 + 4, none⟩ = some u) ∧ ∀ u, OwnAt w (wr.setCell ⟨g, k * 6 + 4, none⟩ u) A1 A2 A3 n1 n2 n3 := by
  rcases hr with h0 | ⟨g, cs, rfl, h1, h2, h3⟩
  · omega
  · refine ⟨g, rfl, h2.frozen _, ⟨cs[k * 6 + 4]'(by omega), ?_⟩, fun u => ⟨h.bel.setCell (p := ⟨g, k * 6 + 4, none⟩) h1 _, h.r1.put _ _ _, h.r2.put _ _ _, h.r3.put _ _ _⟩⟩
    rw [h2.cell, Array.getElem?_eq_getElem]

set_option maxHeartbeats 2000000 in
theorem own_many (A : Option Addr) (n c : Nat) (t0 t1 : Int) (w : World) (hn : 20 < n) :
    Calls Try.prog 8 #[.slice A n c, two' t0 t1] w fun e w' => e = .returned (.bool true) ∧ Below w.heap.size w w' := by
  have W0 := Lib.hid list_awake
  have hz : (20 : Int) < (n : Int) := by omega
  simp only [two']
  go_enter Try.func8, Try.ntmps8
  go_wp2_with fail
  refine (W0.out _).mono ?_
  rintro e w1 ⟨rfl, hb1⟩
  have B1 := Lib.hid (below_then (below_new w _) hb1 (Nat.le_refl _))
  clear hb1
  go_wp2_with fail
  refine (W0.out _).mono ?_
  rintro e w2 ⟨rfl, hb2⟩
  have B2 := Lib.hid (below_then B1.out hb2 (Nat.le_refl _))
  clear hb2
  go_wp2_with fail
  go_ret
  exact ⟨rfl, B2.out⟩

set_option maxRecDepth 4000 in
set_option maxHeartbeats 8000000 in
/-- From where x and its copy are there. -/
theorem own_few (l : List Ar) (v : Value) (t0 t1 : Int) (w : World) (hl : l.length ≤ 20) (hA : Holds w v l) :
    Calls Try.prog 8 #[v, two' t0 t1] w fun e w' => e = .returned (.bool true) ∧ Below w.heap.size w w' := by
  have W0 := Lib.hid list_awake
  have G0 := Lib.hid ((Bag.new w).add 25 #[.int .i64 t0, .int .i64 t1])
  have KL := Lib.hid (hA.still (below_new w (.cells #[.int .i64 t0, .int .i64 t1] 25)))
  have CM : Hid (∀ w' u, Holds w' u l → Calls Try.prog 11 #[u] w' fun e w'' => ∃ v', e = .returned v' ∧ Mine w'.heap.size w'' v' (madeL l) ∧ Below w'.heap.size w' w'') := Lib.hid (fun w' u h => by
    obtain ⟨A, c, rfl, hc, hA⟩ := h
    exact made_any A c l (by omega) hc w' hA)
  have hlm := madeL_len l hl
  have hX := madeL_right l
  generalize madeL l = X at *
  have hCl := outside_len t0 t1 X
  have hDl := outside_len 5 5 X
  have hSl := right_len (setC_right hX t0 t1 (pr := 5) (by omega) (by omega))
  have CS : Hid (∀ w' u, Holds w' u X → Calls Try.prog 14 #[u, .int .i64 t0, .int .i64 t1, .int .i64 5] w' fun e w'' => ∃ A n c, e = .returned (.slice A n c) ∧ n ≤ 496 ∧ Row w'.heap.size w'' A n ∧ Below w'.heap.size w' w'') := Lib.hid (fun w' u h => by
    obtain ⟨A, c, rfl, hc, hA⟩ := h
    exact (set_any A X c t0 t1 5 hX (by omega) (by omega) w' hA).mono fun e w'' ⟨v', y, he, hm, hs, hb⟩ => by
      obtain ⟨A', c', rfl⟩ := hm.is
      exact ⟨A', _, c', he, right_len hs.1, hm.row, hb⟩)
  have CC : Hid (∀ w' u lo hi, Holds w' u X → Calls Try.prog 13 #[u, .int .i64 lo, .int .i64 hi] w' fun e w'' => ∃ A n c, e = .returned (.slice A n c) ∧ n ≤ 496 ∧ Row w'.heap.size w'' A n ∧ Below w'.heap.size w' w'') := Lib.hid (fun w' u lo hi h => by
    obtain ⟨A, c, rfl, hc, hA⟩ := h
    exact (cut_any A X c lo hi (by omega) hX w' hA).mono fun e w'' ⟨v', he, hm, hb⟩ => by
      obtain ⟨A', c', rfl⟩ := hm.is
      exact ⟨A', _, c', he, right_len (outside_right lo hi hX), hm.row, hb⟩)
  have SX : Hid (∀ w' u u', Holds w' u X → Holds w' u' X → Calls Try.prog 15 #[u, u'] w' fun e w'' => e = .returned (.bool true) ∧ Below w'.heap.size w' w'') := Lib.hid (fun w' u u' h h' => same_c h h' rfl hX)
  obtain ⟨A, c, rfl⟩ : ∃ A c, v = .slice A l.length c := by obtain ⟨A, c, e, _⟩ := hA; exact ⟨A, c, e⟩
  obtain ⟨i0, hi0, hz0, hz1, hz2⟩ := info_parts area_info
  have HI0 : Hid (Try.prog.info? 24 = some i0) := Lib.hid hi0
  have H0 : Hid (i0.zero = some Ar.nil.v) := Lib.hid hz0
  have H1 : Hid (i0.size = 6) := Lib.hid hz1
  have H2 : Hid (i0.bytes = 48) := Lib.hid hz2
  clear hi0 hz0 hz1 hz2 hA hX hCl hDl hSl
  generalize l.length = n at *
  have hz : ¬ (20 : Int) < (n : Int) := by omega
  simp only [two']
  go_enter Try.func8, Try.ntmps8
  go_wp2_with fail
  refine (W0.out _).mono ?_
  rintro e w1 ⟨rfl, hb⟩
  have G1 := Lib.hid (G0.out.still hb)
  have K1 := Lib.hid (KL.out.still hb)
  clear hb G0 KL
  go_wp2_with fail
  refine (CM.out _ _ K1.out).mono ?_
  rintro e w2 ⟨vx, rfl, hm, hb⟩
  have G2 := Lib.hid (G1.out.still hb)
  have M2 := Lib.hid hm
  clear hb G1 K1 CM hm
  obtain ⟨A5, c5, rfl⟩ := M2.out.is
  have O1 : Hid ((w2.alloc (.cells #[] 24)).ownsRow w2.heap.size 24 6 (.slice (some ⟨w2.heap.size, 0, none⟩) 0 0) 0 []) := Lib.hid (World.ownsRow_made w2 #[] 0 (Nat.le_refl _) (by simp) rfl)
  go_upto_region 4 with (fail)
  go_cut [6] (fun s6 wc => Hid (Mine w2.heap.size wc s6 X ∧ Below w2.heap.size w2 wc))
  case first =>
    by_cases hx0 : X.length = 0
    · obtain rfl : X = [] := List.eq_nil_of_length_eq_zero hx0
      simp only [List.length_nil] at *
      cases A5 with
      | none =>
        go_wp2_with fail
        go_meet
        exact Lib.hid ⟨O1.out, below_new _ _⟩
      | some ad5 =>
        go_wp2_with fail
        go_meet
        exact Lib.hid ⟨O1.out, below_new _ _⟩
    · obtain ⟨g, rfl⟩ : ∃ g, A5 = some ⟨g, 0, none⟩ := by
        rcases M2.out.2 with ⟨_, h0⟩ | ⟨g, cap, cur, hv, _⟩
        · omega
        · injection hv with h1; exact ⟨g, h1⟩
      have HXC : Hid (∀ w', Below w2.heap.size w2 w' → ∀ j u, (cls X)[j]? = some u → w'.cell? ((⟨g, 0, none⟩ : Addr).add j) = some u) := Lib.hid (fun w' h => World.ownsRow.cells (M2.out.still h) (g := g) (by simp [Value.ownBlock]))
      go_wp2_with (at_builtin; go_loud (refine wpList_append_own _ rfl (.tmp 23) (.tmp 24) _ rfl w2.heap.size 24 i0 _ 6 48 Try.underlying22 HI0.out H0.out H1.out H2.out rfl (by omega) (.slice (some ⟨w2.heap.size, 0, none⟩) 0 0) 0 _ rfl O1.out ⟨g, 0, none⟩ X.length c5 (cls X) rfl (by rw [cls_len]) (HXC.out _ (below_new w2 _)) (cls_one _) (by simp only [maxLen]; omega) (by omega) (by simp) ?_; intro v3 w3 hown' hg' _hnil; rw [Nat.zero_add, List.nil_append] at hown'; have M3 : Hid (Mine w2.heap.size w3 v3 X) := Lib.hid hown'; have B3 := Lib.hid ((below_new w2 (.cells #[] 24)).grown hg' (by simp) (fun k hk => by have e : w2.heap.size = k := by { simpa [Value.ownBlock] using hk }; omega)); clear hown' hg' _hnil))
      go_meet
      exact Lib.hid ⟨M3.out, B3.out⟩
  case rest =>
  have G4 := Lib.hid (G2.out.still hcut.out.2)
  have KX := Lib.hid (M2.out.holds.still hcut.out.2)
  have KW := Lib.hid hcut.out.1.holds
  clear O1 M2 G2 hcut
  obtain ⟨f0, f1⟩ := row2' G4.out.v0
  go_wp2_with fail
  refine (CS.out _ _ KX.out).mono ?_
  rintro e w4 ⟨A1, n1, k1, rfl, hn1, hr1, hb⟩
  have B4 := Lib.hid hb
  have R1 := Lib.hid hr1
  have KX4 := Lib.hid (KX.out.still hb)
  have G5 := Lib.hid (G4.out.still hb)
  clear hr1 hb f0 f1 CS
  obtain ⟨f0, f1⟩ := row2' G5.out.v0
  go_wp2_with fail
  refine (CC.out _ _ _ _ KX4.out).mono ?_
  rintro e w5 ⟨A2, n2, k2, rfl, hn2, hr2, hb⟩
  have B5 := Lib.hid (below_then B4.out hb (Nat.le_refl _))
  have R2 := Lib.hid (hr2.base B4.out.size)
  have R1 := Lib.hid (R1.out.still hb)
  have KX5 := Lib.hid (KX4.out.still hb)
  clear hr2 hb f0 f1
  go_wp2_with fail
  refine (CC.out _ _ _ _ KX5.out).mono ?_
  rintro e w6 ⟨A3, n3, k3, rfl, hn3, hr3, hb⟩
  have S6 : Hid (OwnAt wc w6 A1 A2 A3 n1 n2 n3) := Lib.hid ⟨below_then B5.out hb (Nat.le_refl _), R1.out.still hb, R2.out.still hb, hr3.base B5.out.size⟩
  clear hr3 hb R1 R2 B4 B5 KX4 KX5 CC G5
  have SS := S6
  clear S6
  go_wp2_with fail
  go_loopg [10] n1 (fun g s wr => ∃ k : Nat, k ≤ n1 ∧ n1 - k ≤ g ∧ s = .int .i64 k ∧ Hid (OwnAt wc wr A1 A2 A3 n1 n2 n3))
  case atStart => exact ⟨0, by omega, by omega, rfl, SS⟩
  case round =>
    obtain ⟨k, hk, hgk, rfl, HO⟩ := hrel
    by_cases hlt : k < n1
    · have hltz : (k : Int) < (n1 : Int) := by omega
      have hz0 : (0 : Int) ≤ (k : Int) := by omega
      obtain ⟨gg, rfl, fz, ⟨u, cu⟩, hnx⟩ := HO.out.step HO.out.r1 hlt
      have HN := Lib.hid hnx
      clear hnx
      go_wp2_with fail
      go_roundg (n1 - (k + 1))
      case measure => omega
      case rel => exact ⟨k + 1, by omega, by omega, by go_num, Lib.hid (HN.out _)⟩
    · obtain rfl : n1 = k := by omega
      have SS := HO
      clear HO
      go_wp2_with fail
      go_loopg [11] n2 (fun g s wr => ∃ k : Nat, k ≤ n2 ∧ n2 - k ≤ g ∧ s = .int .i64 k ∧ Hid (OwnAt wc wr A1 A2 A3 n1 n2 n3))
      case atStart => exact ⟨0, by omega, by omega, rfl, SS⟩
      case round =>
        obtain ⟨k, hk, hgk, rfl, HO⟩ := hrel
        by_cases hlt : k < n2
        · have hltz : (k : Int) < (n2 : Int) := by omega
          have hz0 : (0 : Int) ≤ (k : Int) := by omega
          obtain ⟨gg, rfl, fz, ⟨u, cu⟩, hnx⟩ := HO.out.step HO.out.r2 hlt
          have HN := Lib.hid hnx
          clear hnx
          go_wp2_with fail
          go_roundg (n2 - (k + 1))
          case measure => omega
          case rel => exact ⟨k + 1, by omega, by omega, by go_num, Lib.hid (HN.out _)⟩
        · obtain rfl : n2 = k := by omega
          have SS := HO
          clear HO
          go_wp2_with fail
          go_loopg [12] n3 (fun g s wr => ∃ k : Nat, k ≤ n3 ∧ n3 - k ≤ g ∧ s = .int .i64 k ∧ Hid (OwnAt wc wr A1 A2 A3 n1 n2 n3))
          case atStart => exact ⟨0, by omega, by omega, rfl, SS⟩
          case round =>
            obtain ⟨k, hk, hgk, rfl, HO⟩ := hrel
            by_cases hlt : k < n3
            · have hltz : (k : Int) < (n3 : Int) := by omega
              have hz0 : (0 : Int) ≤ (k : Int) := by omega
              obtain ⟨gg, rfl, fz, ⟨u, cu⟩, hnx⟩ := HO.out.step HO.out.r3 hlt
              have HN := Lib.hid hnx
              clear hnx
              go_wp2_with fail
              go_roundg (n3 - (k + 1))
              case measure => omega
              case rel => exact ⟨k + 1, by omega, by omega, by go_num, Lib.hid (HN.out _)⟩
            · obtain rfl : n3 = k := by omega
              have SS := HO
              clear HO
              go_wp2_with fail
              refine (SX.out _ _ _ (KX.out.still SS.out.bel) (KW.out.still SS.out.bel)).mono ?_
              rintro e w9 ⟨rfl, hb⟩
              have B9 := Lib.hid (below_then SS.out.bel hb (Nat.le_refl _))
              clear hb
              go_wp2_with fail
              go_ret
              exact ⟨rfl, below_then G4.out.bel B9.out (Nat.le_refl _)⟩
theorem own_any (l : List Ar) (v : Value) (t0 t1 : Int) (w : World) (hA : Holds w v l) :
    Calls Try.prog 8 #[v, two' t0 t1] w fun e w' => e = .returned (.bool true) ∧ Below w.heap.size w w' := by
  by_cases hn : l.length ≤ 20
  · exact own_few l v t0 t1 w hn hA
  · obtain ⟨A, c, rfl⟩ : ∃ A c, v = .slice A l.length c := by obtain ⟨A, c, e, _⟩ := hA; exact ⟨A, c, e⟩
    exact own_many A l.length c t0 t1 w (by omega)
end Go.Proofs.Yteockpmadpbjiaa
