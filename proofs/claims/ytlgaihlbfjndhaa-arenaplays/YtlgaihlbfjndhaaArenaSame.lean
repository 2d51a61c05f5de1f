/-
  Layer 2: both arenas are held against each other.
-/
import Derived.Test.YtlgaihlbfjndhaaArenaRefDo
import Derived.Test.YtlgaihlbfjndhaaArenaLive
import Derived.Deep.RegionHeld3
namespace Go.Proofs.Ytlgaihlbfjndhaa
open Go.ChangeShapes Go.WideShapes Go.ChangeAt Go.RowKit
set_option linter.unusedVariables false

/-- The loop's relation: k slots were held against each other. -/
def ArSameRel (w1 : World) (l : Slots) (nv iv : Value) (wr : World) : Prop :=
  ∃ k : Nat, k ≤ l.length ∧ iv = .int .i64 k ∧ nv = .int .i64 (liveTo l k).length ∧ Below w1.heap.size w1 wr

set_option maxHeartbeats 4000000 in
set_option maxRecDepth 100000 in
theorem arSame {w : World} {ab ag rb base : Nat} {A B : Option Addr} {c d : Nat} {fst fst' : Int} {l : Slots} {st db : Bool} (G : Int) (Ha : ArAt w ab ag fst l st db) (Hr : RfAt w rb base A c B d fst' l st db) (hG : Gens l G) (hG0 : 0 ≤ G) (hG1 : G ≤ 1099511627776) :
    Calls Try.prog 17 #[.pointer (some ⟨ab, 0, none⟩), .pointer (some ⟨rb, 0, none⟩)] w fun e w' => e = .returned (.bool true) ∧ Below w.heap.size w w' := by
  have hfew := Ha.few
  have HA := Lib.hid Ha
  have HR := Lib.hid Hr
  have HG := Lib.hid hG
  clear Ha Hr hG
  go_enter Try.func17, Try.ntmps17
  go_wp2_with fail
  refine (live_any G HA.out HG.out hG0 hG1).mono ?_
  rintro e w1 ⟨lA, lc, rfl, hown, hb1⟩
  have HA1 := Lib.hid (HA.out.still hb1)
  have HR1 := Lib.hid (HR.out.still hb1)
  have HO := Lib.hid hown
  have HB1 := Lib.hid hb1
  have htl := liveTo_le l l.length
  clear hb1 hown HA HR
  go_wp2_with fail
  go_loopw [6, 7] (fun nv iv wr => ArSameRel w1 l nv iv wr) (fun _ iv _ => l.length - (intOf iv).toNat)
  case atStart => exact ⟨0, by omega, by go_num, by rw [liveTo_zero]; go_num, Below.refl _ _⟩
  case round =>
    obtain ⟨k, hk, rfl, rfl, hb⟩ := hrel
    have har := HA1.out.still hb
    have hrr := HR1.out.still hb
    have hc1 := hrr.c1
    have hc2 := hrr.c2
    have hle := liveTo_le l k
    by_cases hlt : k < l.length
    · obtain ⟨g, q, rfl, rfl, hgq, hgb, hqb⟩ := hrr.form (by omega)
      have cg := hrr.gen k hlt
      have cl := hrr.live k hlt
      have hgm := gen_mem HG.out k hG0
      have g0 := hgm.1
      have g1 := hgm.2
      have HAR := Lib.hid har
      have HRR := Lib.hid hrr
      have HB := Lib.hid hb
      clear har hrr hb hgm
      cases hv : liveAt l k with
      | false =>
        rw [hv] at cl
        have HL := Lib.hid (liveTo_no hv)
        clear hv
        generalize hm : (liveTo l k).length = m at *
        have HM := Lib.hid hm
        clear hm
        go_wp2_with fail
        go_roundw
        case rel => exact ⟨k + 1, by omega, by go_num, by rw [HL.out, HM.out], HB.out⟩
        case measure => simp [intOf]; omega
      | true =>
        rw [hv] at cl
        have HL := Lib.hid (liveTo_yes hv)
        obtain ⟨hm1, hm2⟩ := liveTo_at hv hlt
        have HRT : Hid (rightB l (hndAt l k) = true) := right_yes hlt hv rfl
        have ch : hndAt l k = genAt l k * 65536 + ((k : Int) + 1) := rfl
        have hown := own_still HO.out HB.out
        obtain ⟨lg, rfl, _, hlg⟩ := own_form hown (by omega)
        have cx := own_int hown _ hm1
        rw [hm2, ch] at cx
        rw [ch] at HRT
        have hy1 : genAt l k * 65536 + ((k : Int) + 1) ≤ 9223372036854775807 := by omega
        clear hv hm2 ch hown
        generalize hx : genAt l k = x at *
        have HX := Lib.hid hx
        clear hx
        generalize hm : (liveTo l k).length = m at *
        have HM := Lib.hid hm
        clear hm
        generalize ht : (liveTo l l.length).length = tl at *
        have HT := Lib.hid ht
        clear ht
        have i0 : (0 : Int) ≤ (m : Int) := by omega
        have i1 : (m : Int) < (tl : Int) := by omega
        have i2 : IntKind.i64.wrap ((k : Int) + 1) = (k : Int) + 1 := by rw [IntKind.wrap_i64]; omega
        have hne : (x * 65536 + ((k : Int) + 1) != x * 65536 + ((k : Int) + 1)) = false := by simp
        have hge : decide ((tl : Int) ≤ (m : Int)) = false := by simp; omega
        have hge' : decide (tl ≤ m) = false := by simp; omega
        go_upto_region 7 with (fail)
        go_region_held3 (fun w' => w'.cell? ⟨lg, m, none⟩ = some (.int .i64 (x * 65536 + ((k : Int) + 1))) ∧ Below w1.heap.size w1 w') (first | exact ⟨cx, HB.out⟩ | exact ⟨cx, below_drew HB.out⟩ | exact ⟨(hb'.cell (p := ⟨lg, m, none⟩) hlg).trans cx, (below_drew HB.out).trans (hb'.mono HB.out.size)⟩)
          (first
          | (go_at_call 28; refine (rfHandle rb g l.length c k x _ ?_ ?_ hlt hfew g0 (by omega) _ rfl).mono ?_; (first | exact hc1 | (simp; exact hc1)); (first | exact cg | (simp; exact cg)); rintro e w' ⟨rfl, rfl⟩)
          | (go_at_call 16; refine (right_any (g := ag) (fst := fst) (st := st) (db := db) _ G ?_ HG.out hG0 hG1 hy1).mono ?_; (first | exact HAR.out | exact HAR.out.drew); rw [HRT.out]; rintro e w' ⟨rfl, hb'⟩))
        go_wp2_with fail
        go_roundw
        case rel => exact ⟨k + 1, by omega, by go_num, by rw [HL.out, List.length_append, HM.out]; go_num, (below_drew HB.out).trans (Below.mono hb' HB.out.size)⟩
        case measure => simp [intOf]; omega
    · obtain rfl : k = l.length := by omega
      have c2 := har.c2
      have c3 := har.c3
      have c1 := har.c1
      have d3 := hrr.c3
      have d4 := hrr.c4
      have HB := Lib.hid hb
      clear har hrr hb
      generalize hm : (liveTo l l.length).length = m at *
      have HM := Lib.hid hm
      clear hm
      have e1 : ((m : Int) == (m : Int)) = true := by simp
      have e2 : (st == st) = true := by simp
      have e3 : (db == db) = true := by simp
      have e4 : ((l.length : Int) == (l.length : Int)) = true := by simp
      go_upto_region 10 with (fail)
      go_quiet ((first | (go_at_call 18; exact quietly (slots_any _ _ _ _ c1)) | (go_at_call 24; exact quietly (stale_any _ _ _ c2)) | (go_at_call 25; exact quietly (double_any _ _ _ c3))))
      go_wp2_with fail
      go_ret
      exact ⟨rfl, below_drewN (HB1.out.trans (HB.out.mono HB1.out.size)) _⟩
end Go.Proofs.Ytlgaihlbfjndhaa
