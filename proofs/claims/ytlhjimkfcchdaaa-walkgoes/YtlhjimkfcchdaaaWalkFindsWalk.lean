/-
  Of whatever words in slots, and all addresses: what is found is the reference's, in as many accesses: the law's walk.
-/
import Derived.Test.YtlhjimkfcchdaaaPkZf
namespace Go.Proofs.Ytlhjimkfcchdaaa
open Go.ChangeShapes Go.WideShapes Go.ChangeAt Go.RowKit
set_option linter.unusedVariables false

theorem map28 (ls : List (List Int)) : All28 (ls.map w28) := fun i hi => by
  have hi : i < ls.length := by simpa using hi
  rw [List.getD_eq_getElem?_getD, List.getElem?_map, List.getElem?_eq_getElem hi]
  exact w28_len _
theorem map_fits {ls : List (List Int)} (h : ∀ i, i < ls.length → Fits (ls.getD i [])) : ∀ i, i < (ls.map w28).length → Fits ((ls.map w28).getD i []) := fun i hi => by
  have hi : i < ls.length := by simpa using hi
  have := h i hi
  rw [List.getD_eq_getElem?_getD, List.getElem?_eq_getElem hi] at this
  rw [List.getD_eq_getElem?_getD, List.getElem?_map, List.getElem?_eq_getElem hi]
  exact w28_fits this
set_option maxRecDepth 4000 in
set_option maxHeartbeats 8000000 in
theorem walkFinds_any {v : Value} {ls : List (List Int)} {root addr : Int} (w : World) (h : Wss w v ls) (hf : ∀ i, i < ls.length → Fits (ls.getD i [])) (h1 : -9223372036854775808 ≤ root) (h2 : root ≤ 9223372036854775807) :
    Calls Try.prog 3 #[v, .int .i64 root, .int .i64 addr] w fun e w' => e = .returned (.bool true) ∧ Below w.heap.size w w' := by
  have hnot : ∀ (x : Bool) (w : World), (Op.unary .not (.bool x)).run Try.prog w = .ok (.bool (!x)) w := fun _ _ => rfl
  obtain ⟨R, hR⟩ : ∃ R : Ending → World → Prop, (fun e w' => e = .returned (.bool true) ∧ Below w.heap.size w w') = R := ⟨_, rfl⟩
  rw [hR]
  have FIN : Hid (∀ W, Below w.heap.size w W → R (.returned (.bool true)) W) := Lib.hid (fun W hb => by rw [← hR]; exact ⟨rfl, hb⟩)
  clear hR
  have HW := Lib.hid h
  have HF := Lib.hid hf
  have HR := Lib.hid (And.intro h1 h2)
  obtain ⟨A, c, rfl, _, _⟩ := h
  generalize hn : ls.length = n at *
  have HN := Lib.hid hn
  clear hn hf h1 h2
  go_enter Try.func3, Try.ntmps3
  go_wp2_with fail
  refine (walk_awake _).mono ?_
  rintro e w1 ⟨rfl, hb1⟩
  have B1 := Lib.hid hb1
  have FC := Lib.hid (few17_c (HW.out.still hb1))
  clear hb1
  go_wp2_with fail
  refine FC.out.mono ?_
  rintro e w2 ⟨r, rfl, hr, rfl⟩
  have RR := Lib.hid hr
  clear hr FC
  cases r with
  | false =>
    clear RR HW HF
    go_wp2_with fail
    refine (walk_awake _).mono ?_
    rintro e w3 ⟨rfl, hb3⟩
    have FX := Lib.hid (FIN.out _ (below_then B1.out hb3 (Nat.le_refl _)))
    clear hb3 FIN B1
    go_wp2_with fail
    exact FX.out
  | true =>
    obtain ⟨q8, q60⟩ := RR.out rfl
    have WC := Lib.hid (words17_c (HW.out.still B1.out) q8 q60)
    have h8 : n ≤ 8 := by rw [← HN.out]; exact q8
    have HX28 := Lib.hid (map28 ls)
    have HXF := Lib.hid (map_fits (ls := ls) (by rw [HN.out]; exact HF.out))
    have HXN : Hid ((ls.map w28).length = n) := Lib.hid (by rw [List.length_map]; exact HN.out)
    clear RR HW HF q8 q60 HN
    generalize ls.map w28 = X at *
    go_wp2_with fail
    refine WC.out.mono ?_
    rintro e w3 ⟨v', rfl, hv, hb3⟩
    have B3 := Lib.hid (below_then B1.out hb3 (Nat.le_refl _))
    have HV := Lib.hid hv
    obtain ⟨A', c', rfl, _, _⟩ := hv
    have SL := Lib.hid (slots_many HV.out HX28.out (by rw [HXN.out]; omega))
    rw [HXN.out] at HV SL ⊢
    clear hb3 WC B1
    go_wp2_with fail
    refine SL.out.mono ?_
    rintro e w4 ⟨mb, mg, ab, ag, rfl, hm, ha, m1, m2, m3, m4, hb4⟩
    have AL := Lib.hid (alone_find (cnt := (28 * n : Nat)) (root := root) (addr := addr) HX28.out HXF.out (by omega) (by exact hm) (by rw [HXN.out]; exact ha) HR.out.2)
    have MM : Hid (w3.heap.size ≤ mb ∧ w3.heap.size ≤ mg ∧ w3.heap.size ≤ ab ∧ w3.heap.size ≤ ag) := Lib.hid ⟨m1, m2, m3, m4⟩
    have B4 := Lib.hid hb4
    clear hm ha m1 m2 m3 m4 hb4 SL
    go_wp2_with fail
    refine AL.out.mono ?_
    rintro e w5 ⟨A1, c1, A2, c2, cnt', st', rfl, _, _, _, _, _, ho, _⟩
    have B5 := Lib.hid (many_below B4.out ho MM.out)
    clear ho AL B4 MM
    have hb6 := below_new w5 (.cells #[.int .i64 (findW X addr 8 root).1.1, .bool (findW X addr 8 root).1.2, .slice A1 0 c1, .slice A2 0 c2] 33)
    have V6 := Lib.hid (Whole.new w5 33 #[.int .i64 (findW X addr 8 root).1.1, .bool (findW X addr 8 root).1.2, .slice A1 0 c1, .slice A2 0 c2])
    have B6 := Lib.hid (below_then B5.out hb6 (Nat.le_refl _))
    have RF := Lib.hid (refFind_c HV.out HXN.out h8 HX28.out HXF.out root addr HR.out.1 HR.out.2 _ B6.out)
    have HK : Hid ((findW X addr 8 root).2 ≤ 80) := Lib.hid (findW_most X addr 8 root)
    clear hb6 B5
    generalize findW X addr 8 root = q at *
    obtain ⟨⟨f, ok⟩, k⟩ := q
    simp only [List.length_nil] at *
    go_upto_region 6 with (fail)
    obtain ⟨wB, hwB⟩ : ∃ wB, w5.alloc (.cells #[.int .i64 f, .bool ok, .slice A1 0 c1, .slice A2 0 c2] 33) = wB := ⟨_, rfl⟩
    rw [hwB] at V6 B6 RF ⊢
    clear hwB
    generalize w5.heap.size = q at *
    clear HX28 HXF HXN HV
    go_wp2_with fail
    refine RF.out.mono ?_
    rintro e w7 ⟨rfl, hb7⟩
    have FX := Lib.hid (FIN.out _ (below_then B3.out (below_then B6.out hb7 (Nat.le_refl _)) (Nat.le_refl _)))
    obtain ⟨z0, z1, z2, z3⟩ := grow4 (V6.out.below hb7 V6.out.lt)
    have j1 : (f == f) = true := by simp
    have j2 : (ok == ok) = true := by simp
    have j3 : ((k : Int) == (k : Int)) = true := by simp
    have j4 : decide ((k : Int) ≤ 80) = true := decide_eq_true (by have := HK.out; omega)
    clear hb7 FIN B3 B6 V6 RF HR HK
    go_wp2_with fail
    exact FX.out
end Go.Proofs.Ytlhjimkfcchdaaa
