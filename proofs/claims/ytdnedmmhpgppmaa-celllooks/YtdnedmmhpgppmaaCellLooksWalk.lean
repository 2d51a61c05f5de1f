/-
  Layer 1: the walk of the statement on looks.
-/
import Derived.Test.YtdnedmmhpgppmaaCellLook
import Derived.BigQuiet
import Derived.Deep.QuietTactic
import Derived.Deep.DeepCutAuto
namespace Go.Proofs.Ytdnedmmhpgppmaa
open Go.ChangeShapes Go.WideShapes Go.ChangeAt Go.RowKit
set_option linter.unusedVariables false

set_option maxHeartbeats 1000000 in
theorem awake1 (w : World) : Calls Try.prog 8 #[] w fun e w' => e = .returned (.bool true) ∧ Below w.heap.size w w' := by
  have h3 : ∀ w : World, (Instr.makeSlice 39 (.int .i64 3) (.int .i64 3)).run Try.prog w = .ok (.slice (some ⟨w.heap.size, 0, none⟩) 3 3) (w.alloc (.cells #[.int .i64 0, .int .i64 0, .int .i64 0] 2)) := fun w => by kernel_rfl
  go_enter Try.func8, Try.ntmps8
  go_wp2
  go_ret
  exact ⟨rfl, ((Below.refl _ _).alloc (Nat.le_refl _) _).alloc (by simp) _⟩

/-- A slice of numbers that came in: where it has any, they lie in a row that was there. -/
def Came (w : World) (A : Option Addr) (zs : List Int) : Prop :=
  0 < zs.length → ∃ b off, A = some ⟨b, off, none⟩ ∧ b < w.heap.size ∧ ∀ i, i < zs.length → w.cell? ⟨b, off + i, none⟩ = some (.int .i64 (nth zs i))

theorem looks_many (A : Option Addr) (cap : Nat) (zs : List Int) (i n : Int) (w : World) (h : 100 < zs.length) :
    Calls Try.prog 5 #[.slice A zs.length cap, .int .i64 i, .int .i64 n] w fun e w' => e = .returned (.bool true) ∧ Below w.heap.size w w' := by
  generalize zs.length = len at *
  go_enter Try.func5, Try.ntmps5
  go_wp2_with fail
  refine (awake1 _).mono ?_
  rintro e w1 ⟨rfl, hb1⟩
  go_wp2_with fail
  refine (awake1 _).mono ?_
  rintro e w2 ⟨rfl, hb2⟩
  go_wp2_with fail
  go_ret
  exact ⟨rfl, hb1.trans (hb2.mono hb1.size)⟩

/-- k numbers are laid. -/
def laidTo (zs : List Int) (k : Nat) : List Int := zs.take k ++ List.replicate (zs.length - k) 0
theorem laidTo_length (zs : List Int) (k : Nat) (h : k ≤ zs.length) : (laidTo zs k).length = zs.length := by simp [laidTo]; omega
theorem laidTo_step (zs : List Int) (k : Nat) (h : k < zs.length) : (laidTo zs k).set k (nth zs k) = laidTo zs (k + 1) := by
  unfold laidTo
  apply List.ext_getElem?
  intro j
  rw [List.getElem?_set]
  by_cases hj : k = j
  · subst hj
    have : k < (zs.take k ++ List.replicate (zs.length - k) 0).length := by simp; omega
    rw [if_pos rfl, if_pos this, List.getElem?_append_left (by simp; omega), List.getElem?_take_of_lt (by omega), nth, List.getD_eq_getElem?_getD, List.getElem?_eq_getElem h]
    rfl
  · rw [if_neg hj]
    by_cases hlt : j < k
    · rw [List.getElem?_append_left (by simp; omega), List.getElem?_append_left (by simp; omega), List.getElem?_take_of_lt hlt, List.getElem?_take_of_lt (by omega)]
    · rw [List.getElem?_append_right (by simp; omega), List.getElem?_append_right (by simp; omega)]
      simp only [List.length_take, List.getElem?_replicate]
      rw [show min k zs.length = k from by omega, show min (k + 1) zs.length = k + 1 from by omega]
      by_cases h2 : j < zs.length
      · rw [if_pos (by omega), if_pos (by omega)]
      · rw [if_neg (by omega), if_neg (by omega)]
theorem laidTo_all (zs : List Int) : laidTo zs zs.length = zs := by simp [laidTo]


/-- The second loop's relation: from the k-th on the numbers are as they were seen. -/
def BumpRel (w : World) (b g base : Nat) (zs ss : List Int) (v : Value) (kv : Value) (wr : World) : Prop :=
  ∃ k : Nat, k ≤ ss.length ∧ kv = .int .i64 k ∧ (∃ xs, wr.ownsRow base 2 1 v ss.length xs ∧ ∀ j, k ≤ j → xs[j]? = (ss.map (Value.int .i64))[j]?) ∧ MemAt wr b g zs zs.length ∧ Below w.heap.size w wr

theorem own_form {w : World} {base : Nat} {e : TypeId} {A : Option Addr} {n c : Nat} {xs : List Value} (h : w.ownsRow base e 1 (.slice A n c) n xs) (hn : 0 < n) : ∃ g, A = some ⟨g, 0, none⟩ ∧ base ≤ g ∧ g < w.heap.size := by
  rcases h.2 with ⟨_, h0⟩ | ⟨g, cap, cur, hv, hb, hh, _⟩
  · omega
  · injection hv with h1
    refine ⟨g, h1, hb, ?_⟩
    rcases Nat.lt_or_ge g w.heap.size with hlt | hge
    · exact hlt
    · rw [Array.getElem?_eq_none hge] at hh; cases hh

theorem seen_at (zs : List Int) (i n : Int) (f k : Nat) (hf : f = min i.toNat zs.length) (hk : k < (seen zs i n).length) : (seen zs i n)[k]? = some (nth zs (f + k)) ∧ f + k < zs.length := by
  rw [seen_length] at hk
  have h1 : i.toNat = f := by omega
  have h2 : f + k < zs.length := by omega
  refine ⟨?_, h2⟩
  unfold seen
  rw [List.getElem?_take_of_lt (by omega), List.getElem?_drop, h1, nth, List.getD_eq_getElem?_getD, List.getElem?_eq_getElem h2]
  rfl

/-- The first loop's relation: k numbers are laid. -/
def LayRel (w : World) (b g : Nat) (zs : List Int) (kv : Value) (wr : World) : Prop :=
  ∃ k : Nat, k ≤ zs.length ∧ kv = .int .i64 k ∧ MemAt wr b g (laidTo zs k) k ∧ Below w.heap.size w wr

set_option maxHeartbeats 4000000 in
set_option maxRecDepth 100000 in
theorem looks_few (A : Option Addr) (cap : Nat) (zs : List Int) (i n : Int) (w : World) (h : zs.length ≤ 100) (hz : Came w A zs) :
    Calls Try.prog 5 #[.slice A zs.length cap, .int .i64 i, .int .i64 n] w fun e w' => e = .returned (.bool true) ∧ Below w.heap.size w w' := by
  have HZ := Lib.hid hz
  clear hz
  have hmany : many (zs.length : Int) = zs.length := by unfold many; omega
  have HM := Lib.hid hmany
  clear hmany
  go_enter Try.func5, Try.ntmps5
  go_wp2_with fail
  refine (awake1 _).mono ?_
  rintro e w1 ⟨rfl, hb1⟩
  go_wp2_with fail
  refine (new_mem _ _).mono ?_
  rw [HM.out]
  rintro e w2 ⟨rfl, hmem, hb2, hs2⟩
  have hbw : Below w.heap.size w w2 := hb1.trans (hb2.mono hb1.size)
  have hlo := hb1.size
  have hlo2 := hb2.size
  obtain ⟨mb, mg, hmb, hmg, hmo⟩ : ∃ mb mg, mb = w1.heap.size + 1 ∧ mg = w1.heap.size ∧ w.heap.size ≤ mg ∧ mg < mb := ⟨_, _, rfl, rfl, hlo, by omega⟩
  rw [← hmb, ← hmg] at hmem
  rw [← hmb]
  have BW := Lib.hid hbw
  have HME := Lib.hid hmem
  clear hmb hmg hbw hmem hb2 hs2 hb1 hlo hlo2
  go_wp2_with fail
  go_loopw [8] (fun kv wr => LayRel w mb mg zs kv wr) (fun kv _ => zs.length - (intOf kv).toNat)
  case atStart => exact ⟨0, by omega, by go_num, by simpa [laidTo] using HME.out, BW.out⟩
  case round =>
    obtain ⟨k, hk, rfl, hm, hb⟩ := hrel
    by_cases hlt : k < zs.length
    · obtain ⟨zb, off, rfl, hzb, hzc⟩ := HZ.out (by omega)
      have hc := (hb.cell (p := ⟨zb, off + k, none⟩) hzb).trans (hzc k hlt)
      have HS := Lib.hid (laidTo_step zs k hlt)
      have HL := Lib.hid (laidTo_length zs k hk)
      have HMM := Lib.hid hm
      have HBB := Lib.hid hb
      clear hm hb hzc
      generalize nth zs k = x at *
      go_wp2_with fail
      refine (store_in _ _ HMM.out (by omega) (by rw [HL.out]; omega) (by omega)).mono ?_
      rintro e w3 ⟨rfl, hm3, ho3⟩
      have hb3 : Below w.heap.size w w3 := HBB.out.trans (ho3.below (fun j hj => by rcases hj with rfl | rfl <;> omega) HBB.out.size)
      rw [Int.toNat_natCast, HS.out] at hm3
      have HM3 := Lib.hid hm3
      have HB3 := Lib.hid hb3
      clear hm3 hb3 ho3
      go_wp2_with fail
      go_roundw
      case rel => exact ⟨k + 1, by omega, by go_num, by simpa using HM3.out, HB3.out⟩
      case measure => simp [intOf]; omega
    · have hkl : k = zs.length := by omega
      subst hkl
      rw [laidTo_all] at hm
      have HMM := Lib.hid hm
      have HBB := Lib.hid hb
      clear hm hb hk hlt
      go_wp2_with fail
      refine (look_any i n HMM.out).mono ?_
      rintro e w4 ⟨lv, rfl, hown, hb4⟩
      obtain ⟨lA, lc, rfl⟩ := own_slice hown
      have hb5 : Below w.heap.size w w4 := HBB.out.trans (hb4.mono HBB.out.size)
      have hm4 := HMM.out.only (Only.of_below hb4 (fun _ => False)) id id
      have hsl := seen_length zs i n
      obtain ⟨f, hf1, hf2⟩ : ∃ f : Nat, f = min i.toNat zs.length ∧ f ≤ zs.length := ⟨_, rfl, by omega⟩
      obtain ⟨L, hL1, hL2, hL3⟩ : ∃ L : Nat, L = (seen zs i n).length ∧ L = min n.toNat (zs.length - f) ∧ L ≤ zs.length - f := ⟨_, rfl, by omega, by omega⟩
      rw [← hL1] at hown
      rw [← hL1]
      have HF := Lib.hid hf1
      have HL1 := Lib.hid hL1
      have HL2 := Lib.hid hL2
      have HM4 := Lib.hid hm4
      have HB5 := Lib.hid hb5
      have HO := Lib.hid hown
      have hbase : w.heap.size ≤ wr.heap.size := HBB.out.size
      have hbase2 : wr.heap.size ≤ w4.heap.size := hb4.size
      have hmb2 : mb < wr.heap.size := HMM.out.top.lt
      have hmg2 : mg < wr.heap.size := HMM.out.row.lt
      clear hf1 hL1 hL2 hm4 hb5 hown hsl hb4 HMM HBB
      obtain ⟨wo, rfl⟩ : ∃ wo : World, wo = wr := ⟨_, rfl⟩
      go_upto_region 9 with (fail)
      go_cut [10] (fun s wx => s = .int .i64 (f : Int) ∧ w4 = wx)
      case first =>
        have hcases : (i < 0 ∧ Hid (f = 0)) ∨ (0 ≤ i ∧ i ≤ zs.length ∧ Hid (i = f)) ∨ ((zs.length : Int) < i ∧ 0 ≤ i ∧ Hid (f = zs.length)) := by
          have := HF.out
          unfold Hid
          omega
        rcases hcases with ⟨h1, H2⟩ | ⟨h1, h2, H2⟩ | ⟨h1, h2, H2⟩
        all_goals
          go_wp2_with fail
          go_meet
          first | exact ⟨by rw [H2.out]; rfl, rfl⟩ | exact ⟨by rw [H2.out], rfl⟩ | exact ⟨by rw [← H2.out], rfl⟩
      case rest =>
        obtain ⟨rfl, rfl⟩ := hcut
        go_upto_if 53 with (fail)
        go_cut [11] (fun s wx => s = .int .i64 (L : Int) ∧ w4 = wx)
        case first =>
          have hcases : ((n < (zs.length : Int) - f) ∧ n < 0 ∧ Hid (L = 0)) ∨ ((n < (zs.length : Int) - f) ∧ 0 ≤ n ∧ Hid (n = (L : Int))) ∨ (((zs.length : Int) - f) ≤ n ∧ Hid ((zs.length : Int) - f = (L : Int))) := by
            have := HL2.out
            unfold Hid
            omega
          rcases hcases with ⟨h1, h2, H2⟩ | ⟨h1, h2, H2⟩ | ⟨h1, H2⟩
          all_goals
            go_wp2_with fail
            go_meet
            first | exact ⟨by rw [H2.out]; rfl, rfl⟩ | exact ⟨by rw [H2.out], rfl⟩
        case rest =>
          obtain ⟨rfl, rfl⟩ := hcut
          have hcnt := HM4.out.c1
          have hnb1 : ((L : Int) != (L : Int)) = false := by simp
          have hnb2 : ((zs.length : Int) != (zs.length : Int)) = false := by simp
          go_wp2_with (go_at_call 17; refine (count_any mb _ _ hcnt).mono ?_; rintro e w' ⟨rfl, rfl⟩)
          clear hnb1 hnb2 hcnt
          go_loopw [12] (fun kv wx => BumpRel w mb mg wo.heap.size zs (seen zs i n) (.slice lA L lc) kv wx) (fun kv _ => L - (intOf kv).toNat)
          case atStart =>
            exact ⟨0, by omega, by go_num, ⟨_, by rw [← HL1.out]; exact HO.out, fun _ _ => rfl⟩, HM4.out, HB5.out⟩
          case round =>
            obtain ⟨k, hk, rfl, ⟨xs, hown, hxs⟩, hm, hb⟩ := hrel
            rw [← HL1.out] at hk hown
            by_cases hlt : k < L
            · obtain ⟨lg, rfl, hlg1, hlg2⟩ := own_form hown (by omega)
              obtain ⟨hsk, hfk⟩ := seen_at zs i n f k HF.out (by rw [← HL1.out]; exact hlt)
              obtain ⟨zb, off, rfl, hzb, hzc⟩ := HZ.out (by omega)
              have hc1 : wr.cell? ⟨lg, k, none⟩ = some (.int .i64 (nth zs (f + k))) := by
                rw [hown.cellAt k (by omega), hxs k (Nat.le_refl _), List.getElem?_map, hsk]; rfl
              have hf1 : wr.frozen? ⟨lg, k, none⟩ = false := hown.frozenAt k
              have hc2 : wr.cell? ⟨zb, off + (f + k), none⟩ = some (.int .i64 (nth zs (f + k))) := (hb.cell (p := ⟨zb, off + (f + k), none⟩) hzb).trans (hzc (f + k) hfk)
              have hlk : (k : Int) < L := by omega
              have hx1 : IntKind.i64.wrap ((f : Int) + k) = (f : Int) + k := IntWalk.i64_in _ (by omega)
              have hx2 : 0 ≤ (f : Int) + k := by omega
              have hx3 : ((f : Int) + k).toNat = f + k := by omega
              have hx4 : (f : Int) + k < zs.length := by omega
              generalize nth zs (f + k) = x at *
              have HOW := Lib.hid hown
              have HXS := Lib.hid hxs
              have HMM := Lib.hid hm
              have HBB := Lib.hid hb
              clear hown hxs hm hb hzc hsk
              have hne : (x != x) = false := by simp
              go_upto_region 18 with (fail)
              go_quiet (fail)
              clear hx1 hx2 hx3
              go_wp2_with fail
              go_roundw
              case rel =>
                refine ⟨k + 1, by rw [← HL1.out]; omega, by go_num, ⟨_, by rw [← HL1.out]; exact (World.ownsRow.stored (w := World.drewN wr _) HOW.out k _).1, fun j hj => ?_⟩, ?_, ?_⟩
                · rw [List.getElem?_set_ne (by omega)]; exact HXS.out j (by omega)
                · exact MemAt.only (HMM.out.only (Only.drewN (Only.refl (fun _ => False) wr) _) id id) ((Only.refl (fun j => j = lg) _).setCell (.inl rfl) _) (by omega) (by omega)
                · exact Below.setCell (below_drewN HBB.out _) (by show _ ≤ lg; omega) _
              case measure => simp [intOf]; omega
            · have HOW := Lib.hid hown
              have HMM := Lib.hid hm
              have HBB := Lib.hid hb
              have hb9 := hb.size
              clear hown hxs hm hb
              go_wp2_with fail
              refine (look_any i n HMM.out).mono ?_
              rintro e w5 ⟨av, rfl, hown, hb5⟩
              obtain ⟨aA, ac, rfl⟩ := own_slice hown
              rw [← HL1.out] at hown
              rw [← HL1.out]
              by_cases hL0 : L = 0
              · subst hL0
                clear hown
                have HBB5 := Lib.hid hb5
                clear hb5
                go_upto_region 22 with (fail)
                go_quiet (fail)
                go_wp2_with fail
                go_ret
                exact ⟨rfl, below_drewN (HBB.out.trans (HBB5.out.mono hb9)) _⟩
              · obtain ⟨ag, rfl, _, hag⟩ := own_form hown (by omega)
                obtain ⟨hs0, hf0⟩ := seen_at zs i n f 0 HF.out (by rw [← HL1.out]; omega)
                obtain ⟨zb, off, rfl, hzb, hzc⟩ := HZ.out (by omega)
                have hbw5 : Below w.heap.size w w5 := HBB.out.trans (hb5.mono hb9)
                have hc1 : w5.cell? ⟨ag, 0, none⟩ = some (.int .i64 (nth zs f)) := by
                  rw [hown.cellAt 0 (by omega), List.getElem?_map, hs0]; rfl
                have hc2 : w5.cell? ⟨zb, off + f, none⟩ = some (.int .i64 (nth zs f)) := (hbw5.cell (p := ⟨zb, off + f, none⟩) hzb).trans (hzc f hf0)
                have hL1 : ((L : Int) == 0) = false := beq_eq_false_iff_ne.2 (by omega)
                have hL2 : 0 < (L : Int) := by omega
                have hL3 : 0 < L := by omega
                have hf9 : (f : Int) < zs.length := by omega
                generalize nth zs f = x at *
                have hxx : (x == x) = true := by simp
                have HB9 := Lib.hid hbw5
                clear hown hb5 hbw5 hzc hs0 hL0
                go_upto_region 22 with (fail)
                go_quiet (fail)
                go_wp2_with fail
                go_ret
                exact ⟨rfl, below_drewN HB9.out _⟩
end Go.Proofs.Ytdnedmmhpgppmaa
