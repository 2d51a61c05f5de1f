/-
  Texts of our own, one behind the other (ProtRef): what the laws' proofs rest on; each says at its head what it holds. No conditions.
-/
import Derived.Test.YtholpgcghpikgaaGreatPkPc
import Derived.Test.YtholpgcghpikgaaGreatPkB
/-
  Layer 11: the reference's Protect: a contract.
-/
namespace Go.Proofs.YtholpgcghpikgaaGreat
open Go.ChangeShapes Go.WideShapes Go.ChangeAt Go.RowKit Go.Shelf
set_option linter.unusedVariables false
attribute [local go_sem ↓] Go.wp_at_zero Go.wp_at_succ

/-- Pages whose Prot is another one, from m on, ahead of n. -/
def protTo (s : Sp) (m n : Nat) (pr : Int) : Sp := fun p => if m ≤ p ∧ p < n then (s p).map (fun x => { x with p := pr }) else s p
theorem protTo_put (s : Sp) (m n : Nat) (pr : Int) (h : m ≤ n) {x : At} (hs : s n = some x) : (protTo s m n pr).put n (some { x with p := pr }) = protTo s m (n + 1) pr := by
  funext p
  unfold Sp.put protTo
  by_cases hp : p = n
  · subst hp; rw [if_pos rfl, if_pos ⟨h, by omega⟩, hs]; rfl
  · rw [if_neg hp]
    by_cases h1 : m ≤ p ∧ p < n
    · rw [if_pos h1, if_pos ⟨h1.1, by omega⟩]
    · rw [if_neg h1, if_neg (fun h => h1 ⟨h.1, by omega⟩)]
theorem spl_prot {s : Sp} {N p : Nat} {x : At} (pr : Int) (hp : p < N) (hs : s p = some x) : (spl s N).set (p * 5 + 1) (.int .i64 pr) = spl (s.put p (some { x with p := pr })) N := by
  apply List.ext_getElem?
  intro i
  rw [List.getElem?_set]
  by_cases hi : i < N * 5
  · have e1 := spl_at (s.put p (some { x with p := pr })) N (i / 5) (by omega) (i % 5) (by omega)
    have e2 := spl_at s N (i / 5) (by omega) (i % 5) (by omega)
    rw [show i / 5 * 5 + i % 5 = i by omega] at e1 e2
    rw [e1, e2, spl_len]
    by_cases h1 : i / 5 = p
    · rw [h1, hs]
      unfold Sp.put
      rw [if_pos rfl]
      rcases (show i % 5 = 0 ∨ i % 5 = 1 ∨ i % 5 = 2 ∨ i % 5 = 3 ∨ i % 5 = 4 by omega) with h | h | h | h | h
      · rw [if_neg (by omega), h]; rfl
      · rw [if_pos (by omega), if_pos (by omega), h]; rfl
      · rw [if_neg (by omega), h]; rfl
      · rw [if_neg (by omega), h]; rfl
      · rw [if_neg (by omega), h]; rfl
    · unfold Sp.put
      rw [if_neg h1, if_neg (by omega)]
  · rw [if_neg (by omega), List.getElem?_eq_none (by rw [spl_len]; omega), List.getElem?_eq_none (by rw [spl_len]; omega)]
theorem spc_prot {s : Sp} {p : Nat} {x : At} (pr : Int) (hp : p < 512) (hs : s p = some x) : (spc s).setIfInBounds (p * 5 + 1) (.int .i64 pr) = spc (s.put p (some { x with p := pr })) := by
  have h := spl_prot (N := 512) pr hp hs
  unfold spc
  rw [← h]
  simp only [List.setIfInBounds_toArray]
theorem protTo_good {s : Sp} (hs : GoodS s) (m n : Nat) {pr : Int} (h0 : 0 ≤ pr) (h7 : pr ≤ 7) : GoodS (protTo s m n pr) := fun p x h => by
  unfold protTo at h
  by_cases hc : m ≤ p ∧ p < n
  · rw [if_pos hc] at h
    cases hp : s p with
    | none => rw [hp] at h; cases h
    | some y =>
      rw [hp] at h
      obtain rfl : ({ y with p := pr } : At) = x := by simpa using h
      have := hs p y hp
      unfold Good at this ⊢
      simp only; omega
  · rw [if_neg hc] at h; exact hs p x h
theorem prot_list {X : List Ar} (hX : RightL X) {m0 m1 : Nat} (hm : m0 < m1) {pr : Int} (h0 : 0 ≤ pr) (h7 : pr ≤ 7) : listTo (protTo (spK X X.length) m0 m1 pr) 512 = setC (4096 * (m0 : Int)) (4096 * (m1 : Int)) pr X := by
  refine list_is (protTo_good (spK_good hX) _ _ h0 h7) (setC_right hX _ _ h0 h7) fun p _ _ => ?_
  rw [(setC_is hX h0 h7).2]
  unfold protTo spK
  rw [List.take_length]
  by_cases h : m0 ≤ p ∧ p < m1
  · rw [if_pos h, if_pos (show Touch _ _ _ from by unfold Touch; omega)]
  · rw [if_neg h, if_neg (fun k : Touch _ _ _ => h (by unfold Touch at k; omega))]

theorem row5 {w : World} {q : Nat} {t : TypeId} {c : Cl} (h : Whole w q t c.cells) : w.cell? ⟨q, 5, none⟩ = some (.int .i64 c.p) := h.cell 5

section
variable {w : World} {v : Value} {X : List Ar}
set_option maxRecDepth 100000 in
set_option maxHeartbeats 4000000 in
theorem rprt_range (h : Holds w v X) (hX : MayL X) (c : Cl) (hre : rgE c.a c.n ≠ 0) : Calls Tryz.prog 30 #[v, c.v] w (GivesH w X (rgE c.a c.n) 0) := by
  have G := Lib.hid (((Bag.new w).add 38 c.cells).add 34 (ansC 0 0))
  rw [World.size_alloc] at G
  have KX := Lib.hid (h.still G.out.bel)
  have HA := Lib.hid h
  have CR := Lib.hid (refRange_any c.a c.n)
  have CO : Hid (∀ w' u, Holds w' u X → Calls Tryz.prog 63 #[u] w' fun e w'' => e = .returned (.agg (spl (spK X X.length) 512).toArray) ∧ Below w'.heap.size w' w'') := Lib.hid (fun w' u h => by
    obtain ⟨A, c, rfl, hc, hA⟩ := h
    exact ofL_any X hX.1 A c w' hA)
  obtain ⟨r1, r2⟩ := rg_err hre
  rw [r1, r2] at CR
  have he1 : (rgE c.a c.n != 0) = true := by simpa using hre
  have he2 : (rgE c.a c.n == 0) = false := by simpa using hre
  clear r1 r2 hX
  generalize rgE c.a c.n = re at *
  generalize spK X X.length = s at *
  obtain ⟨A, cc, rfl⟩ := h.is
  clear h
  generalize hn : X.length = n at *
  clear hn
  obtain ⟨ck, ca, cn, cnw, ctw, cp, cf, cb, co⟩ := c
  unfold Cl.v
  simp only [Cl.cells] at *
  go_enter Tryz.func30, Tryz.ntmps30
  go_wp2_with fail
  refine (CR.out _).mono ?_
  rintro e w1 ⟨rfl, hb⟩
  have G := Lib.hid (G.out.still hb)
  have KX := Lib.hid (KX.out.still hb)
  clear hb CR
  have c5 : w1.cell? ⟨w.heap.size, 5, none⟩ = some (.int .i64 cp) := (G.out.v1).cell 5
  go_wp2_with fail
  refine (CO.out _ _ KX.out).mono ?_
  rintro e w2 ⟨rfl, hb⟩
  have G := Lib.hid (G.out.still hb)
  clear hb CO KX
  have HC := Lib.hid (ChAt.new (Below.refl w2.heap.size w2) s)
  have TH : Hid ((w2.alloc (.cells Tryz.zeroCells97 97)).there w2.heap.size 0 (spl s 512).toArray.size) := Lib.hid (SpIn.there (s := fun _ => none) (by rw [zero_spc]; exact Whole.new _ _ _))
  have HG : Hid (w.heap.size ≤ w2.heap.size) := Lib.hid G.out.bel.size
  have HQ : Hid (w2.heap.size ≠ w.heap.size + 1 ∧ w2.heap.size ≠ w.heap.size) := Lib.hid (by have := (G.out.v0).lt; have := (G.out.v1).lt; omega)
  have G := Lib.hid ((G.out.still HC.out.bel).join HC.out.s)
  clear HC
  go_wp2_with (refine wpList_store_mid rfl 97 (.tmp 9) (.tmp 33) (by rfl) w2.heap.size 0 (spl s 512).toArray (by rfl) (by rfl) TH.out (space_size' _) (spl_one _ _) ?_)
  generalize w2.heap.size = q at *
  clear TH
  generalize World.setCells _ _ _ _ = W1 at *
  go_loopg [8, 10] 0 (fun g s8 s10 wr => s8 = .int .i64 re ∧ s10 = .int .i64 0 ∧ Hid (Bag w wr [(q, 97, spc s), (w.heap.size + 1, 34, ansC 0 0), (w.heap.size, 38, #[.int .i64 ck, .int .i64 ca, .int .i64 cn, .int .i64 cnw, .int .i64 ctw, .int .i64 cp, .int .i64 cf, .int .i64 cb, .int .i64 co])]))
  case atStart => exact ⟨rfl, by rfl, G⟩
  case round =>
    obtain ⟨rfl, rfl, GG⟩ := hrel
    clear G c5
    obtain ⟨⟨d0, d1, d2, d3, d4, d5⟩, ⟨f0, f1, f2, f3, f4, f5⟩⟩ := six_of (GG.out.v1)
    go_wp2_with fail
    refine bodyPost_ret (results_tmp_row rfl _ _ (w.heap.size + 1) 34 (ansC re 0) (0, 0) _ rfl (six_put (GG.out.v1) _ _ _ _ _ _) Tryz.underlying34 rfl (by kernel_rfl)) rfl ?_
    have HB := GG.out.bel.trans ((six_only _ (w.heap.size + 1) (.int .i64 re) (.int .i64 0) (.int .i64 0) (.bool false) (.int .i64 0) (.int .i64 0)).below (fun k hk => by omega) GG.out.bel.size)
    exact ⟨_, rfl, HA.out.still HB, HB⟩

set_option maxRecDepth 100000 in
set_option maxHeartbeats 4000000 in
theorem rprt_low (h : Holds w v X) (hX : MayL X) (c : Cl) (hre : rgE c.a c.n = 0) (hp : c.p < 0) : Calls Tryz.prog 30 #[v, c.v] w (GivesH w X 1 0) := by
  have G := Lib.hid (((Bag.new w).add 38 c.cells).add 34 (ansC 0 0))
  rw [World.size_alloc] at G
  have KX := Lib.hid (h.still G.out.bel)
  have HA := Lib.hid h
  have CR := Lib.hid (refRange_any c.a c.n)
  have CO : Hid (∀ w' u, Holds w' u X → Calls Tryz.prog 63 #[u] w' fun e w'' => e = .returned (.agg (spl (spK X X.length) 512).toArray) ∧ Below w'.heap.size w' w'') := Lib.hid (fun w' u h => by
    obtain ⟨A, c, rfl, hc, hA⟩ := h
    exact ofL_any X hX.1 A c w' hA)
  have hrg := rg_ok hre
  have hsz := sz_pages hrg.2.1
  obtain ⟨m0, hm0⟩ : ∃ m0 : Nat, rgA c.a c.n = 4096 * (m0 : Int) := ⟨(rgA c.a c.n / 4096).toNat, by omega⟩
  obtain ⟨m1, hm1⟩ : ∃ m1 : Nat, rgB c.a c.n = 4096 * (m1 : Int) := ⟨(rgB c.a c.n / 4096).toNat, by omega⟩
  have hm : 16 ≤ m0 ∧ m0 < m1 ∧ m1 ≤ 512 := by omega
  have q0 : (rgA c.a c.n).tdiv 4096 = (m0 : Int) := by rw [hm0, tdiv_up (by omega)]; omega
  have q1 : (rgB c.a c.n).tdiv 4096 = (m1 : Int) := by rw [hm1, tdiv_up (by omega)]; omega
  have d0 : (rgA c.a c.n) / 4096 = (m0 : Int) := by omega
  have d1 : (rgB c.a c.n) / 4096 = (m1 : Int) := by omega
  have zs : (0 : Int) ≤ rgA c.a c.n := by omega
  have ze : (0 : Int) ≤ rgB c.a c.n := by omega
  have hz2 : (m0 : Int) < (m1 : Int) := by omega
  rw [hre] at CR
  clear hre hrg hsz hX hm0 hm1
  generalize rgA c.a c.n = ra at *
  generalize rgB c.a c.n = rb at *
  generalize spK X X.length = s at *
  obtain ⟨A, cc, rfl⟩ := h.is
  clear h
  generalize hn : X.length = n at *
  clear hn
  obtain ⟨ck, ca, cn, cnw, ctw, cp, cf, cb, co⟩ := c
  unfold Cl.v
  simp only [Cl.cells] at *
  go_enter Tryz.func30, Tryz.ntmps30
  go_wp2_with fail
  refine (CR.out _).mono ?_
  rintro e w1 ⟨rfl, hb⟩
  have G := Lib.hid (G.out.still hb)
  have KX := Lib.hid (KX.out.still hb)
  clear hb CR
  have c5 : w1.cell? ⟨w.heap.size, 5, none⟩ = some (.int .i64 cp) := (G.out.v1).cell 5
  go_wp2_with fail
  refine (CO.out _ _ KX.out).mono ?_
  rintro e w2 ⟨rfl, hb⟩
  have G := Lib.hid (G.out.still hb)
  clear hb CO KX
  have HC := Lib.hid (ChAt.new (Below.refl w2.heap.size w2) s)
  have TH : Hid ((w2.alloc (.cells Tryz.zeroCells97 97)).there w2.heap.size 0 (spl s 512).toArray.size) := Lib.hid (SpIn.there (s := fun _ => none) (by rw [zero_spc]; exact Whole.new _ _ _))
  have HG : Hid (w.heap.size ≤ w2.heap.size) := Lib.hid G.out.bel.size
  have HQ : Hid (w2.heap.size ≠ w.heap.size + 1 ∧ w2.heap.size ≠ w.heap.size) := Lib.hid (by have := (G.out.v0).lt; have := (G.out.v1).lt; omega)
  have G := Lib.hid ((G.out.still HC.out.bel).join HC.out.s)
  clear HC
  go_wp2_with (refine wpList_store_mid rfl 97 (.tmp 9) (.tmp 33) (by rfl) w2.heap.size 0 (spl s 512).toArray (by rfl) (by rfl) TH.out (space_size' _) (spl_one _ _) ?_)
  generalize w2.heap.size = q at *
  clear TH
  generalize World.setCells _ _ _ _ = W1 at *
  go_loopg [8, 10] 0 (fun g s8 s10 wr => s8 = .int .i64 1 ∧ s10 = .int .i64 m0 ∧ Hid (Bag w wr [(q, 97, spc s), (w.heap.size + 1, 34, ansC 0 0), (w.heap.size, 38, #[.int .i64 ck, .int .i64 ca, .int .i64 cn, .int .i64 cnw, .int .i64 ctw, .int .i64 cp, .int .i64 cf, .int .i64 cb, .int .i64 co])]))
  case atStart => exact ⟨rfl, by rfl, G⟩
  case round =>
    obtain ⟨rfl, rfl, GG⟩ := hrel
    clear G c5
    obtain ⟨⟨d0, d1, d2, d3, d4, d5⟩, ⟨f0, f1, f2, f3, f4, f5⟩⟩ := six_of (GG.out.v1)
    go_wp2_with fail
    refine bodyPost_ret (results_tmp_row rfl _ _ (w.heap.size + 1) 34 (ansC 1 0) (0, 0) _ rfl (six_put (GG.out.v1) _ _ _ _ _ _) Tryz.underlying34 rfl (by kernel_rfl)) rfl ?_
    have HB := GG.out.bel.trans ((six_only _ (w.heap.size + 1) (.int .i64 1) (.int .i64 0) (.int .i64 0) (.bool false) (.int .i64 0) (.int .i64 0)).below (fun k hk => by omega) GG.out.bel.size)
    exact ⟨_, rfl, HA.out.still HB, HB⟩

set_option maxRecDepth 100000 in
set_option maxHeartbeats 4000000 in
theorem rprt_high (h : Holds w v X) (hX : MayL X) (c : Cl) (hre : rgE c.a c.n = 0) (hp0 : 0 ≤ c.p) (hp : 7 < c.p) : Calls Tryz.prog 30 #[v, c.v] w (GivesH w X 1 0) := by
  have G := Lib.hid (((Bag.new w).add 38 c.cells).add 34 (ansC 0 0))
  rw [World.size_alloc] at G
  have KX := Lib.hid (h.still G.out.bel)
  have HA := Lib.hid h
  have CR := Lib.hid (refRange_any c.a c.n)
  have CO : Hid (∀ w' u, Holds w' u X → Calls Tryz.prog 63 #[u] w' fun e w'' => e = .returned (.agg (spl (spK X X.length) 512).toArray) ∧ Below w'.heap.size w' w'') := Lib.hid (fun w' u h => by
    obtain ⟨A, c, rfl, hc, hA⟩ := h
    exact ofL_any X hX.1 A c w' hA)
  have hrg := rg_ok hre
  have hsz := sz_pages hrg.2.1
  obtain ⟨m0, hm0⟩ : ∃ m0 : Nat, rgA c.a c.n = 4096 * (m0 : Int) := ⟨(rgA c.a c.n / 4096).toNat, by omega⟩
  obtain ⟨m1, hm1⟩ : ∃ m1 : Nat, rgB c.a c.n = 4096 * (m1 : Int) := ⟨(rgB c.a c.n / 4096).toNat, by omega⟩
  have hm : 16 ≤ m0 ∧ m0 < m1 ∧ m1 ≤ 512 := by omega
  have q0 : (rgA c.a c.n).tdiv 4096 = (m0 : Int) := by rw [hm0, tdiv_up (by omega)]; omega
  have q1 : (rgB c.a c.n).tdiv 4096 = (m1 : Int) := by rw [hm1, tdiv_up (by omega)]; omega
  have d0 : (rgA c.a c.n) / 4096 = (m0 : Int) := by omega
  have d1 : (rgB c.a c.n) / 4096 = (m1 : Int) := by omega
  have zs : (0 : Int) ≤ rgA c.a c.n := by omega
  have ze : (0 : Int) ≤ rgB c.a c.n := by omega
  have hz2 : (m0 : Int) < (m1 : Int) := by omega
  rw [hre] at CR
  clear hre hrg hsz hX hm0 hm1
  generalize rgA c.a c.n = ra at *
  generalize rgB c.a c.n = rb at *
  generalize spK X X.length = s at *
  obtain ⟨A, cc, rfl⟩ := h.is
  clear h
  generalize hn : X.length = n at *
  clear hn
  obtain ⟨ck, ca, cn, cnw, ctw, cp, cf, cb, co⟩ := c
  unfold Cl.v
  simp only [Cl.cells] at *
  go_enter Tryz.func30, Tryz.ntmps30
  go_wp2_with fail
  refine (CR.out _).mono ?_
  rintro e w1 ⟨rfl, hb⟩
  have G := Lib.hid (G.out.still hb)
  have KX := Lib.hid (KX.out.still hb)
  clear hb CR
  have c5 : w1.cell? ⟨w.heap.size, 5, none⟩ = some (.int .i64 cp) := (G.out.v1).cell 5
  go_wp2_with fail
  refine (CO.out _ _ KX.out).mono ?_
  rintro e w2 ⟨rfl, hb⟩
  have G := Lib.hid (G.out.still hb)
  clear hb CO KX
  have HC := Lib.hid (ChAt.new (Below.refl w2.heap.size w2) s)
  have TH : Hid ((w2.alloc (.cells Tryz.zeroCells97 97)).there w2.heap.size 0 (spl s 512).toArray.size) := Lib.hid (SpIn.there (s := fun _ => none) (by rw [zero_spc]; exact Whole.new _ _ _))
  have HG : Hid (w.heap.size ≤ w2.heap.size) := Lib.hid G.out.bel.size
  have HQ : Hid (w2.heap.size ≠ w.heap.size + 1 ∧ w2.heap.size ≠ w.heap.size) := Lib.hid (by have := (G.out.v0).lt; have := (G.out.v1).lt; omega)
  have G := Lib.hid ((G.out.still HC.out.bel).join HC.out.s)
  clear HC
  go_wp2_with (refine wpList_store_mid rfl 97 (.tmp 9) (.tmp 33) (by rfl) w2.heap.size 0 (spl s 512).toArray (by rfl) (by rfl) TH.out (space_size' _) (spl_one _ _) ?_)
  generalize w2.heap.size = q at *
  clear TH
  generalize World.setCells _ _ _ _ = W1 at *
  go_loopg [8, 10] 0 (fun g s8 s10 wr => s8 = .int .i64 1 ∧ s10 = .int .i64 m0 ∧ Hid (Bag w wr [(q, 97, spc s), (w.heap.size + 1, 34, ansC 0 0), (w.heap.size, 38, #[.int .i64 ck, .int .i64 ca, .int .i64 cn, .int .i64 cnw, .int .i64 ctw, .int .i64 cp, .int .i64 cf, .int .i64 cb, .int .i64 co])]))
  case atStart => exact ⟨rfl, by rfl, G⟩
  case round =>
    obtain ⟨rfl, rfl, GG⟩ := hrel
    clear G c5
    obtain ⟨⟨d0, d1, d2, d3, d4, d5⟩, ⟨f0, f1, f2, f3, f4, f5⟩⟩ := six_of (GG.out.v1)
    go_wp2_with fail
    refine bodyPost_ret (results_tmp_row rfl _ _ (w.heap.size + 1) 34 (ansC 1 0) (0, 0) _ rfl (six_put (GG.out.v1) _ _ _ _ _ _) Tryz.underlying34 rfl (by kernel_rfl)) rfl ?_
    have HB := GG.out.bel.trans ((six_only _ (w.heap.size + 1) (.int .i64 1) (.int .i64 0) (.int .i64 0) (.bool false) (.int .i64 0) (.int .i64 0)).below (fun k hk => by omega) GG.out.bel.size)
    exact ⟨_, rfl, HA.out.still HB, HB⟩

set_option maxRecDepth 100000 in
set_option maxHeartbeats 8000000 in
theorem rprt_go (h : Holds w v X) (hX : MayL X) (c : Cl) (hre : rgE c.a c.n = 0) (hp0 : 0 ≤ c.p) (hp7 : c.p ≤ 7) {Z : List Ar} {ae : Int}
    (hk : ∀ m0 m1 : Nat, m0 < m1 → rgA c.a c.n = 4096 * (m0 : Int) → rgB c.a c.n = 4096 * (m1 : Int) → (∀ p, m0 ≤ p → p < m1 → spK X X.length p ≠ none) → ∀ w' u, Holds w' u X → Calls Tryz.prog 61 #[u, .agg (spc (protTo (spK X X.length) m0 m1 c.p)), .int .i64 0] w' (GivesK w' u X Z ae 0))
    (hn : ∀ m0 m1 : Nat, m0 < m1 → rgA c.a c.n = 4096 * (m0 : Int) → rgB c.a c.n = 4096 * (m1 : Int) → ∀ p, m0 ≤ p → p < m1 → spK X X.length p = none → Z = X ∧ ae = 7) :
    Calls Tryz.prog 30 #[v, c.v] w (GivesH w Z ae 0) := by
  have G := Lib.hid (((Bag.new w).add 38 c.cells).add 34 (ansC 0 0))
  rw [World.size_alloc] at G
  have KX := Lib.hid (h.still G.out.bel)
  have HA := Lib.hid h
  have CR := Lib.hid (refRange_any c.a c.n)
  have CO : Hid (∀ w' u, Holds w' u X → Calls Tryz.prog 63 #[u] w' fun e w'' => e = .returned (.agg (spl (spK X X.length) 512).toArray) ∧ Below w'.heap.size w' w'') := Lib.hid (fun w' u h => by
    obtain ⟨A, c, rfl, hc, hA⟩ := h
    exact ofL_any X hX.1 A c w' hA)
  have hrg := rg_ok hre
  have hsz := sz_pages hrg.2.1
  obtain ⟨m0, hm0⟩ : ∃ m0 : Nat, rgA c.a c.n = 4096 * (m0 : Int) := ⟨(rgA c.a c.n / 4096).toNat, by omega⟩
  obtain ⟨m1, hm1⟩ : ∃ m1 : Nat, rgB c.a c.n = 4096 * (m1 : Int) := ⟨(rgB c.a c.n / 4096).toNat, by omega⟩
  have hm : 16 ≤ m0 ∧ m0 < m1 ∧ m1 ≤ 512 := by omega
  have HK := Lib.hid (hk m0 m1 hm.2.1 hm0 hm1)
  have HN := Lib.hid (hn m0 m1 hm.2.1 hm0 hm1)
  clear hk hn
  have q0 : (rgA c.a c.n).tdiv 4096 = (m0 : Int) := by rw [hm0, tdiv_up (by omega)]; omega
  have q1 : (rgB c.a c.n).tdiv 4096 = (m1 : Int) := by rw [hm1, tdiv_up (by omega)]; omega
  have d0 : (rgA c.a c.n) / 4096 = (m0 : Int) := by omega
  have d1 : (rgB c.a c.n) / 4096 = (m1 : Int) := by omega
  have zs : (0 : Int) ≤ rgA c.a c.n := by omega
  have ze : (0 : Int) ≤ rgB c.a c.n := by omega
  have hz2 : (m0 : Int) < (m1 : Int) := by omega
  rw [hre] at CR
  clear hre hrg hsz hX hm0 hm1
  generalize rgA c.a c.n = ra at *
  generalize rgB c.a c.n = rb at *
  have HP := Lib.hid (fun n x h hs => protTo_put (spK X X.length) m0 n c.p h (x := x) hs)
  have HS0 : Hid (protTo (spK X X.length) m0 m0 c.p = spK X X.length) := Lib.hid (by funext p; unfold protTo; rw [if_neg (by omega)])
  generalize spK X X.length = s at *
  obtain ⟨A, cc, rfl⟩ := h.is
  clear h
  generalize hn : X.length = n at *
  clear hn
  obtain ⟨ck, ca, cn, cnw, ctw, cp, cf, cb, co⟩ := c
  unfold Cl.v
  simp only [Cl.cells] at *
  go_enter Tryz.func30, Tryz.ntmps30
  go_wp2_with fail
  refine (CR.out _).mono ?_
  rintro e w1 ⟨rfl, hb⟩
  have G := Lib.hid (G.out.still hb)
  have KX := Lib.hid (KX.out.still hb)
  clear hb CR
  have c5 : w1.cell? ⟨w.heap.size, 5, none⟩ = some (.int .i64 cp) := (G.out.v1).cell 5
  go_wp2_with fail
  refine (CO.out _ _ KX.out).mono ?_
  rintro e w2 ⟨rfl, hb⟩
  have G := Lib.hid (G.out.still hb)
  clear hb CO KX
  have HC := Lib.hid (ChAt.new (Below.refl w2.heap.size w2) s)
  have TH : Hid ((w2.alloc (.cells Tryz.zeroCells97 97)).there w2.heap.size 0 (spl s 512).toArray.size) := Lib.hid (SpIn.there (s := fun _ => none) (by rw [zero_spc]; exact Whole.new _ _ _))
  have HG : Hid (w.heap.size ≤ w2.heap.size) := Lib.hid G.out.bel.size
  have HQ : Hid (w2.heap.size ≠ w.heap.size + 1 ∧ w2.heap.size ≠ w.heap.size) := Lib.hid (by have := (G.out.v0).lt; have := (G.out.v1).lt; omega)
  have G := Lib.hid ((G.out.still HC.out.bel).join HC.out.s)
  clear HC
  go_wp2_with (refine wpList_store_mid rfl 97 (.tmp 9) (.tmp 33) (by rfl) w2.heap.size 0 (spl s 512).toArray (by rfl) (by rfl) TH.out (space_size' _) (spl_one _ _) ?_)
  generalize w2.heap.size = q at *
  clear TH
  generalize World.setCells _ _ _ _ = W1 at *
  go_loopg [8, 10] (m1 - m0) (fun g s8 s10 wr => ∃ n : Nat, m0 ≤ n ∧ n ≤ m1 ∧ m1 - n ≤ g ∧ s10 = .int .i64 n ∧
    ((s8 = .int .i64 0 ∧ Hid (Bag w wr [(q, 97, spc (protTo s m0 n cp)), (w.heap.size + 1, 34, ansC 0 0), (w.heap.size, 38, #[.int .i64 ck, .int .i64 ca, .int .i64 cn, .int .i64 cnw, .int .i64 ctw, .int .i64 cp, .int .i64 cf, .int .i64 cb, .int .i64 co])]) ∧ Hid (∀ p, m0 ≤ p → p < n → s p ≠ none)) ∨ (s8 = .int .i64 7 ∧ Hid (∃ cs, Bag w wr [(q, 97, cs), (w.heap.size + 1, 34, ansC 0 0), (w.heap.size, 38, #[.int .i64 ck, .int .i64 ca, .int .i64 cn, .int .i64 cnw, .int .i64 ctw, .int .i64 cp, .int .i64 cf, .int .i64 cb, .int .i64 co])]) ∧ Hid (Z = X ∧ ae = 7))))
  case atStart => exact ⟨m0, by omega, by omega, by omega, by rfl, .inl ⟨rfl, by rw [HS0.out]; exact G, Lib.hid (fun p h1 h2 => by omega)⟩⟩
  case round =>
    clear G c5
    obtain ⟨n, hn0, hn1, hgn, rfl, hst⟩ := hrel
    by_cases hlt : n < m1
    · have hz1 : (n : Int) < 512 := by omega
      have hz0 : (0 : Int) ≤ (n : Int) := by omega
      have hz3 : (n : Int) < (m1 : Int) := by omega
      rcases hst with ⟨rfl, GG, HS⟩ | ⟨rfl, GG, HS⟩
      · have c5 : wr.cell? ⟨w.heap.size, 5, none⟩ = some (.int .i64 cp) := (GG.out.v2).cell 5
        have PN : protTo s m0 n cp n = s n := by unfold protTo; rw [if_neg (by omega)]
        have GS := Lib.hid (GG.out.set0 (n * 5 + 1) (.int .i64 cp) (by intro x hx; simp at hx; rcases hx with rfl | rfl <;> simp <;> have := HQ.out <;> omega) HG.out)
        cases hs : s n with
        | none =>
          obtain ⟨⟨e0, e1, e2, e3, e4⟩, fz⟩ := SpIn.five (GG.out.v0) (p := n) (by omega) (PN.trans hs)
          have HE := Lib.hid (HN.out n hn0 hlt hs)
          clear hs PN GG HS
          go_wp2_with fail
          go_roundg (m1 - (n + 1))
          case measure => omega
          case rel => exact ⟨n + 1, by omega, by omega, by omega, by go_num, .inr ⟨rfl, Lib.hid ⟨_, GS.out⟩, HE⟩⟩
        | some x =>
          obtain ⟨e0, e1, e2, e3, e4⟩ := SpIn.some (GG.out.v0) (p := n) (by omega) (PN.trans hs)
          have fz := (GG.out.v0).frozen
          rw [spc_prot cp (by omega) (PN.trans hs), HP.out n x hn0 hs] at GS
          have HS2 : Hid (∀ p, m0 ≤ p → p < n + 1 → s p ≠ none) := Lib.hid (fun p h1 h2 => by
            rcases Nat.lt_or_ge p n with h | h
            · exact HS.out p h1 h
            · obtain rfl : p = n := by omega
              rw [hs]; simp)
          clear hs PN GG HS
          go_wp2_with fail
          go_roundg (m1 - (n + 1))
          case measure => omega
          case rel => exact ⟨n + 1, by omega, by omega, by omega, by go_num, .inl ⟨rfl, GS, HS2⟩⟩
      · obtain ⟨cs, GG⟩ := GG.out
        obtain ⟨rfl, rfl⟩ := HS.out
        have GG := Lib.hid GG
        obtain ⟨⟨d0, d1, d2, d3, d4, d5⟩, ⟨f0, f1, f2, f3, f4, f5⟩⟩ := six_of (GG.out.v1)
        go_wp2_with fail
        refine bodyPost_ret (results_tmp_row rfl _ _ (w.heap.size + 1) 34 (ansC 7 0) (0, 0) _ rfl (six_put (GG.out.v1) _ _ _ _ _ _) Tryz.underlying34 rfl (by kernel_rfl)) rfl ?_
        have HB := GG.out.bel.trans ((six_only _ (w.heap.size + 1) (.int .i64 7) (.int .i64 0) (.int .i64 0) (.bool false) (.int .i64 0) (.int .i64 0)).below (fun k hk => by omega) GG.out.bel.size)
        exact ⟨_, rfl, HA.out.still HB, HB⟩
    · obtain rfl : n = m1 := by omega
      rcases hst with ⟨rfl, GG, HS⟩ | ⟨rfl, GG, HS⟩
      · have CK : Hid (∀ w' u, Holds w' u X → Calls Tryz.prog 61 #[u, .agg (spl (protTo s m0 n cp) 512).toArray, .int .i64 0] w' (GivesK w' u X Z ae 0)) := Lib.hid (HK.out HS.out)
        have KX := Lib.hid (HA.out.still GG.out.bel)
        clear HK HS HN
        go_wp2_with (refine wpList_load_mid rfl 97 (.tmp 9) (by rfl) q 0 (by rfl) (spl (protTo s m0 n cp) 512) _ (SpIn.range (GG.out.v0)) Tryz.underlying97 rfl (space_size _) ?_)
        refine (CK.out _ _ KX.out).mono ?_
        rintro e w4 ⟨v4, rfl, hh, hb⟩
        have SZ := Lib.hid GG.out.bel.size
        have GG := Lib.hid (GG.out.still hb)
        clear hb CK KX
        obtain ⟨⟨c0, c1, c2, c3, c4, c5⟩, ⟨f0, f1, f2, f3, f4, f5⟩⟩ := six_of (GG.out.v1)
        have HH := Lib.hid hh
        clear hh
        unfold ansV ansC
        go_wp2_with fail
        refine bodyPost_ret (results_tmp_row rfl _ _ (w.heap.size + 1) 34 (ansC ae 0) (0, 0) _ rfl (six_put (GG.out.v1) _ _ _ _ _ _) Tryz.underlying34 rfl (by kernel_rfl)) rfl ?_
        have HB := GG.out.bel.trans ((six_only w4 (w.heap.size + 1) (.int .i64 ae) (.int .i64 0) (.int .i64 0) (.bool false) (.int .i64 0) (.int .i64 0)).below (fun k hk => by omega) GG.out.bel.size)
        refine ⟨v4, rfl, ?_, HB⟩
        rcases HH.out with ⟨rfl, rfl⟩ | hm
        · exact HA.out.still HB
        · exact (mine_far (hm.base SZ.out) (GG.out.v1) _ _ _ _ _ _).holds
      · obtain ⟨cs, GG⟩ := GG.out
        obtain ⟨rfl, rfl⟩ := HS.out
        have GG := Lib.hid GG
        obtain ⟨⟨d0, d1, d2, d3, d4, d5⟩, ⟨f0, f1, f2, f3, f4, f5⟩⟩ := six_of (GG.out.v1)
        go_wp2_with fail
        refine bodyPost_ret (results_tmp_row rfl _ _ (w.heap.size + 1) 34 (ansC 7 0) (0, 0) _ rfl (six_put (GG.out.v1) _ _ _ _ _ _) Tryz.underlying34 rfl (by kernel_rfl)) rfl ?_
        have HB := GG.out.bel.trans ((six_only _ (w.heap.size + 1) (.int .i64 7) (.int .i64 0) (.int .i64 0) (.bool false) (.int .i64 0) (.int .i64 0)).below (fun k hk => by omega) GG.out.bel.size)
        exact ⟨_, rfl, HA.out.still HB, HB⟩

theorem tab_spK (X : List Ar) (p : Nat) : spK X X.length p = tab X p := by unfold spK; rw [List.take_length]
theorem prt_e {X : List Ar} (hX : MayL X) (c : Cl) : prtE X c = firstE [rgE c.a c.n, prE c.p, cvE X (rgA c.a c.n) (rgB c.a c.n)] := by
  unfold prtE liE
  rw [if_pos hX, firstE, if_pos rfl]
theorem refProt_c (h : Holds w v X) (hX : MayL X) (c : Cl) : Calls Tryz.prog 30 #[v, c.v] w (GivesH w (prtR X c).1 (prtR X c).2 0) := by
  by_cases hre : rgE c.a c.n = 0
  · by_cases hp : 0 ≤ c.p ∧ c.p ≤ 7
    · have hpe : prE c.p = 0 := by unfold prE; rw [if_pos hp]
      have he : prtE X c = cvE X (rgA c.a c.n) (rgB c.a c.n) := by
        rw [prt_e hX, firstE, if_pos hre, firstE, if_pos hpe, firstE]
        by_cases h : cvE X (rgA c.a c.n) (rgB c.a c.n) = 0
        · rw [if_pos h, h]; rfl
        · rw [if_neg h]
      refine rprt_go h hX c hre hp.1 hp.2 (fun m0 m1 hm h0 h1 hs w' u hu => ?_) (fun m0 m1 hm h0 h1 p p0 p1 hp => ?_)
      · have hc : cvE X (rgA c.a c.n) (rgB c.a c.n) = 0 := by
          unfold cvE cvB
          rw [h0, h1, (cvL_iff hX.1 hm).2 (fun p q0 q1 => by rw [← tab_spK]; exact hs p q0 q1), decide_eq_true hX.1]
          rfl
        have hl := prot_list hX.1 hm hp.1 hp.2
        rw [← h0, ← h1] at hl
        unfold prtR
        rw [he, if_pos hc]
        by_cases hm : (prtL X c).length ≤ 24
        · rw [if_pos hm]
          exact refKept_c hu _ (protTo_good (spK_good hX.1) _ _ hp.1 hp.2) hl 0 (.inr ⟨hm, rfl, rfl, rfl⟩)
        · rw [if_neg hm]
          exact refKept_c hu _ (protTo_good (spK_good hX.1) _ _ hp.1 hp.2) hl 0 (.inl ⟨by unfold prtL at hm; omega, rfl, rfl, rfl⟩)
      · have hc : cvE X (rgA c.a c.n) (rgB c.a c.n) = 7 := by
          unfold cvE cvB
          rw [if_neg]
          intro hb
          rw [h0, h1, Bool.and_eq_true] at hb
          exact (cvL_iff hX.1 hm).1 hb.2 p p0 p1 (by rw [← tab_spK]; exact hp)
        unfold prtR
        rw [he, if_neg (by rw [hc]; decide), hc]
        exact ⟨rfl, rfl⟩
    · have hpe : prE c.p = 1 := by unfold prE; rw [if_neg hp]
      have he : prtE X c = 1 := by rw [prt_e hX, firstE, if_pos hre, firstE, if_neg (by rw [hpe]; decide), hpe]
      unfold prtR
      rw [he, if_neg (by decide)]
      by_cases h0 : c.p < 0
      · exact rprt_low h hX c hre h0
      · exact rprt_high h hX c hre (by omega) (by omega)
  · have he : prtE X c = rgE c.a c.n := by rw [prt_e hX, firstE, if_neg hre]
    unfold prtR
    rw [he, if_neg hre]
    exact rprt_range h hX c hre
end
end Go.Proofs.YtholpgcghpikgaaGreat
