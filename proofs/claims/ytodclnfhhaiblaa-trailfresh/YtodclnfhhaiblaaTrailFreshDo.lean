/-
  Layer 3: the walk of the task that notes where it was fresh.
-/
import Derived.Test.YtodclnfhhaiblaaTrailFreshRun
namespace Go.Proofs.Ytodclnfhhaiblaa
open Go.ChangeShapes Go.WideShapes Go.ChangeAt Go.RowKit
set_option linter.unusedVariables false

section
variable {w w' w'' : World} {b g tb sb : Nat} {tv mv tv' mv' sv sv' tv'' mv'' sv'' : Value} {T : Tr} {m m' : Mm} {l : List Int}

set_option maxHeartbeats 4000000 in
set_option maxRecDepth 100000 in
theorem fresher_runs (x : Fst) (h : St w b g tb tv mv x.T x.m) (hf : Fine x.T) (hs : SeenAt w sb sv x.l) (ht : x.T.told.length ≤ 900) (hl : x.l.length ≤ 900) (hc : x.m.cnt ≤ 1000000) :
    Calls Try.prog 24 #[.agg #[.pointer (some ⟨sb, 0, none⟩)], .pointer (some ⟨tb, 0, none⟩)] w (FrEnd w b g tb tv mv sb sv x) := by
  obtain ⟨i0, hi0, hz0, hz1, hz2⟩ := int_info'
  have R0 : Hid (FrRel w b g tb tv mv sb sv w.heap.size x (.int .i64 0) (w.alloc (.cells #[.pointer (some ⟨sb, 0, none⟩)] 62))) := by
    have hb : Below w.heap.size w (w.alloc (.cells #[.pointer (some ⟨sb, 0, none⟩)] 62)) := (Below.refl _ _).alloc (Nat.le_refl _) _
    exact ⟨0, tv, mv, sv, by omega, rfl, h.still hb, hs.still hb, SeenMoved.still hb .., Whole.new w _ _⟩
  have HB := Lib.hid (And.intro ht (And.intro hl hc))
  have HF := Lib.hid hf
  clear h hf hs ht hl hc
  go_enter Try.func24, Try.ntmps24
  go_wp2_with fail
  go_loopw [4] (fun iv wr => FrRel w b g tb tv mv sb sv w.heap.size x iv wr) (fun iv _ => 3 - (intOf iv).toNat)
  case atStart => exact R0.out
  case round =>
    obtain ⟨i, tv1, mv1, sv1, hi, rfl, s1, n1, m1, bx⟩ := hrel
    have bx0 : wr.cell? ⟨w.heap.size, 0, none⟩ = some (.pointer (some ⟨sb, 0, none⟩)) := bx.cell 0
    by_cases hlt : i < 3
    · have hb : Hid ((frun i x).T.told.length + 1 ≤ 1000 ∧ (frun i x).m.cnt + 1 ≤ 4611686018427387904 ∧ (frun i x).l.length ≤ 903) := by
        have h1 := frun_len i x; have h2 := HB.out
        exact ⟨by omega, by omega, by omega⟩
      have LD := Lib.hid (trLoad i s1 (frun_fine i x HF.out) hb.out.1 hb.out.2.1)
      have S1 := Lib.hid s1
      have N1 := Lib.hid n1
      have M1 := Lib.hid m1
      have BX := Lib.hid bx
      clear s1 n1 m1 bx bx0
      go_wp2_with fail
      refine LD.out.mono ?_
      rintro e w2 ⟨rfl, tv2, mv2, s2, m2⟩
      have f2 : Fine (accT 0 i 0 (frun i x).T (frun i x).m) := accT_fine (frun_fine i x HF.out)
      have FR := Lib.hid (freshs s2 f2)
      have S2 := Lib.hid s2
      have N2 := Lib.hid (N1.out.moved S1.out m2)
      have M2 := Lib.hid (M1.out.trans (m2.seen sb sv1))
      have BX2 := Lib.hid (BX.out.only m2.only (not_all S1.out BX.out (by decide) (by decide) (by decide) (by decide)))
      have bx0 : w2.cell? ⟨w.heap.size, 0, none⟩ = some (.pointer (some ⟨sb, 0, none⟩)) := BX2.out.cell 0
      have HX : Hid ((frun (i + 1) x).T = accT 0 i 0 (frun i x).T (frun i x).m ∧ (frun (i + 1) x).m = accM 0 i 0 0 (frun i x).T (frun i x).m ∧ (frun (i + 1) x).l = if fresh (accT 0 i 0 (frun i x).T (frun i x).m) then (frun i x).l ++ [(i : Int)] else (frun i x).l) := ⟨rfl, rfl, rfl⟩
      generalize accT 0 i 0 (frun i x).T (frun i x).m = T2 at *
      generalize accM 0 i 0 0 (frun i x).T (frun i x).m = mm2 at *
      clear s2 m2 f2 LD S1 N1 M1 BX
      cases hfr : fresh T2 with
      | false =>
        rw [hfr] at FR HX
        go_wp2_with (go_at_call 25; refine FR.out.mono ?_; rintro e w3 ⟨rfl, rfl⟩)
        go_roundw
        case rel =>
          refine ⟨i + 1, tv2, mv2, sv1, by omega, by go_num, ?_, ?_, M2.out, BX2.out⟩
          · rw [HX.out.1, HX.out.2.1]; exact S2.out
          · rw [HX.out.2.2]; exact N2.out
        case measure => simp [intOf]; omega
      | true =>
        rw [hfr] at FR HX
        have hbl := hb.out.2.2
        obtain ⟨A, c, rfl⟩ := own_slice N2.out.own
        have c0 : w2.cell? ⟨sb, 0, none⟩ = some (.slice A (frun i x).l.length c) := N2.out.top.cell 0
        have O := Lib.hid N2.out.own
        have BC : Hid (∀ w1, (w2.drew.alloc (.cells #[.int .i64 (i : Int)] 3)).grownBy w1 (Value.slice A (frun i x).l.length c).ownBlock → w1.cell? ⟨sb, 0, none⟩ = some (.slice A (frun i x).l.length c) ∧ w1.frozen? ⟨sb, 0, none⟩ = false ∧ w1.cell? ⟨w.heap.size, 0, none⟩ = some (.pointer (some ⟨sb, 0, none⟩))) := by
          intro w1 hg
          have hw := (N2.out.top.drew.alloc (.cells #[.int .i64 (i : Int)] 3)).grown hg (fun he => own_apart N2.out.own N2.out.top (by decide) he.symm)
          have hv := (BX2.out.drew.alloc (.cells #[.int .i64 (i : Int)] 3)).grown hg (fun he => own_apart N2.out.own BX2.out (by decide) he.symm)
          exact ⟨hw.cell 0, hw.frozen 0, hv.cell 0⟩
        have a0 : (w2.alloc (.cells #[.int .i64 (i : Int)] 3)).cell? ⟨sb, 0, none⟩ = some (.slice A (frun i x).l.length c) := box_cell _ _ _ _ c0
        have a1 : (w2.alloc (.cells #[.int .i64 (i : Int)] 3)).cell? ⟨w.heap.size, 0, none⟩ = some (.pointer (some ⟨sb, 0, none⟩)) := box_cell _ _ _ _ bx0
        generalize hll : (frun i x).l = ll at *
        generalize hk : ll.length = k at *
        have HK := Lib.hid hk
        clear hk hll
        go_upto_region 6 with (go_at_call 25; refine FR.out.mono ?_; rintro e w3 ⟨rfl, rfl⟩)
        go_region_law
          ((refine step_append_lies _ (by rfl) _ _ _ (by rfl) 0 3 i0 _ 1 8 Try.underlying59 hi0 hz0 hz1 hz2 rfl (by omega) _ k _ (by rfl) (O.out.alloc _)
                ⟨w2.heap.size, 0, none⟩ 1 1 [.int .i64 (i : Int)] (by rfl) (by rfl) (World.news_of_block (cs := #[.int .i64 (i : Int)]) (t := 3) (fr := (0, 0)) (heap_alloc_new w2 _)) (by simp [Value.oneCell'])
                (by omega) (by simp only [maxLen]; omega) (by omega) (by simp) (w2.heap.size + 1) (by simp) ?_; intro gg cap w1 hown1 hgrow hat hlt'; have b2 := (BC.out _ hgrow).1; have bf := (BC.out _ hgrow).2.1; have b3 := (BC.out _ hgrow).2.2))
        all_goals
          go_wp2_with fail
          go_roundw
          case rel =>
            obtain ⟨n3, s3, m3⟩ := (N2.out.still (below_drew (Below.refl _ _))).append (x := (i : Int)) (sv' := .slice (some ⟨gg, 0, none⟩) (k + 1) cap) S2.out.drew hgrow (by rw [HK.out]; exact hown1) (hat.imp id (fun h => by rw [h]; simp [Value.ownBlock]))
            refine ⟨i + 1, tv2, mv2, _, by omega, by go_num, ?_, ?_, M2.out.trans ((SeenMoved.still (below_drew (Below.refl _ _)) ..).trans m3), ?_⟩
            · rw [HX.out.1, HX.out.2.1]; exact s3
            · rw [HX.out.2.2]; exact n3
            · exact BX2.out.drew.only m3.only (by
                rintro (h1 | h1 | h1)
                · exact not_all S2.out.drew BX2.out.drew (by decide) (by decide) (by decide) (by decide) h1
                · exact BX2.out.apart N2.out.top (by decide) h1
                · exact own_apart N2.out.own BX2.out (by decide) h1)
          case measure => simp [intOf]; omega
    · have hi3 : i = 3 := by omega
      subst hi3
      have FIN : Hid (FrEnd w b g tb tv mv sb sv x (.returned (.tuple #[])) wr) := ⟨rfl, tv1, mv1, sv1, s1, n1, m1⟩
      clear s1 n1 m1 bx
      go_wp2_with fail
      go_end0
      exact FIN.out
end
end Go.Proofs.Ytodclnfhhaiblaa
