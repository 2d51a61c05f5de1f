/-
  Texts of our own, one behind the other (RbMade): what the laws' proofs rest on; each says at its head what it holds. No conditions.
-/
import Derived.Test.YtejkhnphplpkeaaPkZi
import Derived.Test.YtejkhnphplpkeaaPkZj
/-
  Layer 18: the laws' entries, of sizes, with one that is changed.
-/
namespace Go.Proofs.Ytejkhnphplpkeaa
open Go.ChangeShapes Go.WideShapes Go.ChangeAt Go.RowKit
set_option linter.unusedVariables false

/-- The entry that is made at a place. -/
def mkOne (s : Int) (i : Nat) (at_ bad : Int) (more : En) : En :=
  if (i : Int) = bad then ⟨wrap64 (at_ + more.lo), wrap64 (at_ + 4096 * (1 + s % 8) + more.hi), wrap64 ((if s % 2 = 1 then 65536 + (i : Int) else 0) + more.h)⟩
  else ⟨at_, at_ + 4096 * (1 + s % 8), if s % 2 = 1 then 65536 + (i : Int) else 0⟩
/-- Where the next one begins. -/
def mkAt (e : En) : Int := if 2457600 < e.hi ∨ e.hi < 0 then 65536 else e.hi
/-- The first k. -/
def mkTo (ss : List Int) (bad : Int) (more : En) : Nat → List En × Int
  | 0 => ([], 65536)
  | k + 1 => ((mkTo ss bad more k).1 ++ [mkOne (nth ss k) k (mkTo ss bad more k).2 bad more], mkAt (mkOne (nth ss k) k (mkTo ss bad more k).2 bad more))
def mkL (ss : List Int) (bad : Int) (more : En) : List En := (mkTo ss bad more ss.length).1
theorem mkTo_len (ss : List Int) (bad : Int) (more : En) (k : Nat) : (mkTo ss bad more k).1.length = k := by
  induction k with
  | zero => rfl
  | succ k ih => show (_ ++ [_]).length = _; rw [List.length_append, ih]; rfl
theorem mkTo_at (ss : List Int) (bad : Int) (more : En) (k : Nat) : 0 ≤ (mkTo ss bad more k).2 ∧ (mkTo ss bad more k).2 ≤ 2457600 := by
  cases k with
  | zero => show (0 : Int) ≤ 65536 ∧ (65536 : Int) ≤ 2457600; omega
  | succ k =>
    show 0 ≤ mkAt _ ∧ mkAt _ ≤ 2457600
    unfold mkAt
    split <;> omega
theorem wrap_conv (a b : Int) : wrap64 (IntKind.u64.wrap (a + IntKind.u64.wrap b)) = wrap64 (a + b) := by
  rw [IntKind.wrap_u64, IntKind.wrap_u64]
  unfold wrap64
  omega
theorem wrap_conv0 (b : Int) : wrap64 (IntKind.u64.wrap (IntKind.u64.wrap b)) = wrap64 (0 + b) := by
  rw [IntKind.wrap_u64, IntKind.wrap_u64]
  unfold wrap64
  omega
/-- A slice of bytes, as it reads. -/
def Bys (w : World) (v : Value) (l : List Int) : Prop := ∃ A c, v = .slice A l.length c ∧ l.length ≤ c ∧ (0 < l.length → ∃ b off, A = some ⟨b, off, none⟩ ∧ ∀ k, k < l.length → w.cell? ⟨b, off + k, none⟩ = some (.int .u8 (nth l k)) ∧ 0 ≤ nth l k ∧ nth l k ≤ 255)
theorem Bys.still {w w' : World} {v : Value} {l : List Int} (h : Bys w v l) (hb : Below w.heap.size w w') : Bys w' v l := by
  obtain ⟨A, c, rfl, hc, h⟩ := h
  refine ⟨A, c, rfl, hc, fun h0 => ?_⟩
  obtain ⟨b, off, rfl, k⟩ := h h0
  refine ⟨b, off, rfl, fun i hi => ?_⟩
  obtain ⟨k0, k1⟩ := k i hi
  exact ⟨by rw [hb.cell (p := ⟨b, off + i, none⟩) (World.block_lt_of_cell? w _ k0)]; exact k0, k1⟩
set_option maxRecDepth 10000 in
set_option maxHeartbeats 8000000 in
theorem made_ens {w : World} {v : Value} {ss : List Int} {bad : Int} {more : En} (h : Bys w v ss) (hl : ss.length ≤ 1000) : Calls Try.prog 21 #[v, .int .i64 bad, .agg #[.int .i64 more.lo, .int .i64 more.hi, .int .i64 more.h]] w fun e w' => ∃ v', e = .returned v' ∧ Mes w.heap.size w' v' (mkL ss bad more) ∧ Below w.heap.size w w' := by
  obtain ⟨A, c, rfl, hc, hA⟩ := h
  have CA : Hid (∀ W, Below w.heap.size w W → ∀ i, i < ss.length → ∃ b off, A = some ⟨b, off, none⟩ ∧ W.cell? ⟨b, off + i, none⟩ = some (.int .u8 (nth ss i)) ∧ 0 ≤ nth ss i ∧ nth ss i ≤ 255) := Lib.hid (fun W hb i hi => by
    obtain ⟨b, off, rfl, k⟩ := hA (by omega)
    obtain ⟨k0, k1⟩ := k i hi
    exact ⟨b, off, rfl, by rw [hb.cell (p := ⟨b, off + i, none⟩) (World.block_lt_of_cell? w _ k0)]; exact k0, k1⟩)
  clear hA
  obtain ⟨R, hR⟩ : ∃ R : Ending → World → Prop, (fun e w' => ∃ v', e = .returned v' ∧ Mes w.heap.size w' v' (mkL ss bad more) ∧ Below w.heap.size w w') = R := ⟨_, rfl⟩
  rw [hR]
  have FIN : Hid (∀ v W, Mes w.heap.size W v (mkTo ss bad more ss.length).1 → Below w.heap.size w W → R (.returned v) W) := Lib.hid (fun v W h1 h2 => by rw [← hR]; exact ⟨v, rfl, h1, h2⟩)
  clear hR hc
  have B0 := Lib.hid (below_new w (.cells #[.int .i64 more.lo, .int .i64 more.hi, .int .i64 more.h] 44))
  have P0 := Lib.hid (Whole.new w 44 #[.int .i64 more.lo, .int .i64 more.hi, .int .i64 more.h])
  obtain ⟨j0, hj0, hjz0, hjz1, hjz2⟩ := wentry_info'
  obtain ⟨n, hn⟩ : ∃ n, ss.length = n := ⟨_, rfl⟩
  rw [hn] at hl CA FIN ⊢
  clear hn
  go_enter Try.func21, Try.ntmps21
  go_upto_region 1 with (fail)
  generalize w.alloc _ = wA at *
  obtain ⟨qm, hqm⟩ : ∃ qm, w.heap.size = qm := ⟨_, rfl⟩
  rw [hqm] at P0 ⊢
  have HQM := Lib.hid hqm
  clear hqm
  go_wp2_with fail
  go_loopw [7, 8, 9] (fun ov av iv wr => ∃ i : Nat, i ≤ n ∧ iv = .int .i64 i ∧ av = .int .i64 (mkTo ss bad more i).2 ∧ Mes (w.heap.size + 1) wr ov (mkTo ss bad more i).1 ∧ Below w.heap.size w wr ∧ Whole wr qm 44 #[.int .i64 more.lo, .int .i64 more.hi, .int .i64 more.h]) (fun _ _ iv _ => n - (intOf iv).toNat)
  case atStart => exact ⟨0, by omega, rfl, rfl, Mes.nil _ _, B0.out, P0.out⟩
  case round =>
    obtain ⟨i, hi, rfl, rfl, hm, hb, hp⟩ := hrel
    have hi8 : (i : Int) ≤ 1000 := by omega
    have HM := Lib.hid hm
    have HB := Lib.hid hb
    have HP := Lib.hid hp
    obtain ⟨B1, c1, rfl⟩ := hm.is
    have hat := mkTo_at ss bad more i
    rw [mkTo_len] at HM ⊢
    by_cases hlt : i < n
    · have j1 : (i : Int) < (n : Int) := by omega
      obtain ⟨b, off, rfl, k0, s0, s1⟩ := CA.out wr hb i hlt
      have NXT : Hid (mkTo ss bad more (i + 1) = ((mkTo ss bad more i).1 ++ [mkOne (nth ss i) i (mkTo ss bad more i).2 bad more], mkAt (mkOne (nth ss i) i (mkTo ss bad more i).2 bad more))) := Lib.hid rfl
      have HLN := Lib.hid (mkTo_len ss bad more i)
      generalize mkTo ss bad more i = q at *
      obtain ⟨es, at_⟩ := q
      simp only at *
      generalize nth ss i = sz at *
      have r8 : sz.tmod 8 = sz % 8 := Int.tmod_eq_emod_of_nonneg s0
      have r2 : sz.tmod 2 = sz % 2 := Int.tmod_eq_emod_of_nonneg s0
      obtain ⟨u8, h8⟩ : ∃ u : Nat, sz % 8 = (u : Int) := ⟨(sz % 8).toNat, by omega⟩
      obtain ⟨u2, h2⟩ : ∃ u : Nat, sz % 2 = (u : Int) := ⟨(sz % 2).toNat, by omega⟩
      have hu8 : u8 ≤ 7 := by omega
      have hu2 : u2 ≤ 1 := by omega
      rw [h8] at r8
      rw [h2] at r2
      have wu : ∀ m : Nat, m ≤ 7 → IntKind.u8.wrap (m : Int) = (m : Int) := by decide
      have wu8 := wu u8 hu8
      have wu2 := wu u2 (by omega)
      clear wu
      have w1 : IntKind.i64.wrap (u8 : Int) = (u8 : Int) := by rw [IntKind.wrap_i64]; omega
      have w2 : IntKind.i64.wrap (1 + (u8 : Int)) = 1 + (u8 : Int) := by rw [IntKind.wrap_i64]; omega
      have w3 : IntKind.i64.wrap (4096 * (1 + (u8 : Int))) = 4096 * (1 + (u8 : Int)) := by rw [IntKind.wrap_i64]; omega
      have w4 : IntKind.i64.wrap (at_ + 4096 * (1 + (u8 : Int))) = at_ + 4096 * (1 + (u8 : Int)) := by rw [IntKind.wrap_i64]; omega
      have w5 : IntKind.i64.wrap (65536 + (i : Int)) = 65536 + (i : Int) := by rw [IntKind.wrap_i64]; omega
      have hq : qm < wr.heap.size := hp.lt
      have MK : Hid (mkOne sz i at_ bad more = if (i : Int) = bad then ⟨wrap64 (at_ + more.lo), wrap64 (at_ + 4096 * (1 + (u8 : Int)) + more.hi), wrap64 ((if (u2 : Int) = 1 then 65536 + (i : Int) else 0) + more.h)⟩ else ⟨at_, at_ + 4096 * (1 + (u8 : Int)), if (u2 : Int) = 1 then 65536 + (i : Int) else 0⟩) := Lib.hid (by unfold mkOne; rw [h8, h2])
      have x0 : wr.cell? ⟨qm, 0, none⟩ = some (.int .i64 more.lo) := hp.cell 0
      have x1 : wr.cell? ⟨qm, 1, none⟩ = some (.int .i64 more.hi) := hp.cell 1
      have x2 : wr.cell? ⟨qm, 2, none⟩ = some (.int .i64 more.h) := hp.cell 2
      clear hm hb hp h8 h2
      by_cases ho : u2 = 1
      · subst ho
        have jo : ((1 : Int) == 1) = true := rfl
        by_cases hbad : (i : Int) = bad
        · subst hbad
          have jb : ((i : Int) == (i : Int)) = true := by simp
          have kk0 : (wr.alloc (.cells #[.int .i64 (at_), .int .i64 (at_ + 4096 * (1 + (u8 : Int))), .int .i64 (0)] 44)).cell? ⟨b, off + i, none⟩ = some (.int .u8 sz) := box_cell _ _ _ _ k0
          have y00 : (wr.alloc (.cells #[.int .i64 (at_), .int .i64 (at_ + 4096 * (1 + (u8 : Int))), .int .i64 (0)] 44)).cell? ⟨qm, 0, none⟩ = some (.int .i64 more.lo) := box_cell _ _ _ _ x0
          have y10 : (wr.alloc (.cells #[.int .i64 (at_), .int .i64 (at_ + 4096 * (1 + (u8 : Int))), .int .i64 (0)] 44)).cell? ⟨qm, 1, none⟩ = some (.int .i64 more.hi) := box_cell _ _ _ _ x1
          have y20 : (wr.alloc (.cells #[.int .i64 (at_), .int .i64 (at_ + 4096 * (1 + (u8 : Int))), .int .i64 (0)] 44)).cell? ⟨qm, 2, none⟩ = some (.int .i64 more.h) := box_cell _ _ _ _ x2
          have kk1 : (wr.alloc (.cells #[.int .i64 (at_), .int .i64 (at_ + 4096 * (1 + (u8 : Int))), .int .i64 (65536 + (i : Int))] 44)).cell? ⟨b, off + i, none⟩ = some (.int .u8 sz) := box_cell _ _ _ _ k0
          have y01 : (wr.alloc (.cells #[.int .i64 (at_), .int .i64 (at_ + 4096 * (1 + (u8 : Int))), .int .i64 (65536 + (i : Int))] 44)).cell? ⟨qm, 0, none⟩ = some (.int .i64 more.lo) := box_cell _ _ _ _ x0
          have y11 : (wr.alloc (.cells #[.int .i64 (at_), .int .i64 (at_ + 4096 * (1 + (u8 : Int))), .int .i64 (65536 + (i : Int))] 44)).cell? ⟨qm, 1, none⟩ = some (.int .i64 more.hi) := box_cell _ _ _ _ x1
          have y21 : (wr.alloc (.cells #[.int .i64 (at_), .int .i64 (at_ + 4096 * (1 + (u8 : Int))), .int .i64 (65536 + (i : Int))] 44)).cell? ⟨qm, 2, none⟩ = some (.int .i64 more.h) := box_cell _ _ _ _ x2
          have kk2 : (wr.alloc (.cells #[.int .i64 (wrap64 (IntKind.u64.wrap (at_ + IntKind.u64.wrap more.lo))), .int .i64 (at_ + 4096 * (1 + (u8 : Int))), .int .i64 (65536 + (i : Int))] 44)).cell? ⟨b, off + i, none⟩ = some (.int .u8 sz) := box_cell _ _ _ _ k0
          have y02 : (wr.alloc (.cells #[.int .i64 (wrap64 (IntKind.u64.wrap (at_ + IntKind.u64.wrap more.lo))), .int .i64 (at_ + 4096 * (1 + (u8 : Int))), .int .i64 (65536 + (i : Int))] 44)).cell? ⟨qm, 0, none⟩ = some (.int .i64 more.lo) := box_cell _ _ _ _ x0
          have y12 : (wr.alloc (.cells #[.int .i64 (wrap64 (IntKind.u64.wrap (at_ + IntKind.u64.wrap more.lo))), .int .i64 (at_ + 4096 * (1 + (u8 : Int))), .int .i64 (65536 + (i : Int))] 44)).cell? ⟨qm, 1, none⟩ = some (.int .i64 more.hi) := box_cell _ _ _ _ x1
          have y22 : (wr.alloc (.cells #[.int .i64 (wrap64 (IntKind.u64.wrap (at_ + IntKind.u64.wrap more.lo))), .int .i64 (at_ + 4096 * (1 + (u8 : Int))), .int .i64 (65536 + (i : Int))] 44)).cell? ⟨qm, 2, none⟩ = some (.int .i64 more.h) := box_cell _ _ _ _ x2
          have kk3 : (wr.alloc (.cells #[.int .i64 (wrap64 (IntKind.u64.wrap (at_ + IntKind.u64.wrap more.lo))), .int .i64 (wrap64 (IntKind.u64.wrap (at_ + 4096 * (1 + (u8 : Int)) + IntKind.u64.wrap more.hi))), .int .i64 (65536 + (i : Int))] 44)).cell? ⟨b, off + i, none⟩ = some (.int .u8 sz) := box_cell _ _ _ _ k0
          have y03 : (wr.alloc (.cells #[.int .i64 (wrap64 (IntKind.u64.wrap (at_ + IntKind.u64.wrap more.lo))), .int .i64 (wrap64 (IntKind.u64.wrap (at_ + 4096 * (1 + (u8 : Int)) + IntKind.u64.wrap more.hi))), .int .i64 (65536 + (i : Int))] 44)).cell? ⟨qm, 0, none⟩ = some (.int .i64 more.lo) := box_cell _ _ _ _ x0
          have y13 : (wr.alloc (.cells #[.int .i64 (wrap64 (IntKind.u64.wrap (at_ + IntKind.u64.wrap more.lo))), .int .i64 (wrap64 (IntKind.u64.wrap (at_ + 4096 * (1 + (u8 : Int)) + IntKind.u64.wrap more.hi))), .int .i64 (65536 + (i : Int))] 44)).cell? ⟨qm, 1, none⟩ = some (.int .i64 more.hi) := box_cell _ _ _ _ x1
          have y23 : (wr.alloc (.cells #[.int .i64 (wrap64 (IntKind.u64.wrap (at_ + IntKind.u64.wrap more.lo))), .int .i64 (wrap64 (IntKind.u64.wrap (at_ + 4096 * (1 + (u8 : Int)) + IntKind.u64.wrap more.hi))), .int .i64 (65536 + (i : Int))] 44)).cell? ⟨qm, 2, none⟩ = some (.int .i64 more.h) := box_cell _ _ _ _ x2
          have MK2 : Hid (mkOne sz i at_ (i : Int) more = ⟨wrap64 (IntKind.u64.wrap (at_ + IntKind.u64.wrap more.lo)), wrap64 (IntKind.u64.wrap (at_ + 4096 * (1 + (u8 : Int)) + IntKind.u64.wrap more.hi)), wrap64 (IntKind.u64.wrap (65536 + (i : Int) + IntKind.u64.wrap more.h))⟩) := Lib.hid (by rw [MK.out, if_pos rfl, wrap_conv, wrap_conv, wrap_conv]; rfl)
          rw [MK2.out] at NXT
          have BE := Lib.hid (below_new wr (.cells #[.int .i64 (wrap64 (IntKind.u64.wrap (at_ + IntKind.u64.wrap more.lo))), .int .i64 (wrap64 (IntKind.u64.wrap (at_ + 4096 * (1 + (u8 : Int)) + IntKind.u64.wrap more.hi))), .int .i64 (wrap64 (IntKind.u64.wrap (65536 + (i : Int) + IntKind.u64.wrap more.h)))] 44))
          have PE := Lib.hid (Whole.new wr 44 #[.int .i64 (wrap64 (IntKind.u64.wrap (at_ + IntKind.u64.wrap more.lo))), .int .i64 (wrap64 (IntKind.u64.wrap (at_ + 4096 * (1 + (u8 : Int)) + IntKind.u64.wrap more.hi))), .int .i64 (wrap64 (IntKind.u64.wrap (65536 + (i : Int) + IntKind.u64.wrap more.h)))])
          clear MK CA MK2
          go_upto_region 13 with (fail)
          generalize wr.alloc (.cells #[.int .i64 (wrap64 (IntKind.u64.wrap (at_ + IntKind.u64.wrap more.lo))), .int .i64 (wrap64 (IntKind.u64.wrap (at_ + 4096 * (1 + (u8 : Int)) + IntKind.u64.wrap more.hi))), .int .i64 (wrap64 (IntKind.u64.wrap (65536 + (i : Int) + IntKind.u64.wrap more.h)))] 44) = wE at *
          obtain ⟨qe, hqe⟩ : ∃ qe, wr.heap.size = qe := ⟨_, rfl⟩
          have HM2 := Lib.hid (HM.out.still BE.out)
          have HB2 := Lib.hid (below_then HB.out BE.out (Nat.le_refl _))
          have HP2 := Lib.hid (HP.out.below BE.out HP.out.lt)
          have SE : w.heap.size + 1 ≤ wE.heap.size := by have := HP2.out.lt; have := HQM.out; omega
          have O : Hid (wE.ownsRow (w.heap.size + 1) 44 3 (.slice B1 i c1) i (enCells es)) := Lib.hid (by have := HM2.out; unfold Mes at this; rw [HLN.out] at this; exact this)
          have LT : Hid (∀ k, (Value.slice B1 i c1).ownBlock = some k → w.heap.size + 1 ≤ k) := Lib.hid (fun k hk => (World.ownsRow.lt O.out k hk).1)
          rw [hqe] at PE ⊢
          clear hqe k0 x0 x1 x2 HM HB HP BE kk0 kk1 kk2 kk3 y00 y10 y20 y01 y11 y21 y02 y12 y22 y03 y13 y23
          generalize wrap64 (IntKind.u64.wrap (at_ + 4096 * (1 + (u8 : Int)) + IntKind.u64.wrap more.hi)) = HI at *
          generalize wrap64 (IntKind.u64.wrap (65536 + (i : Int) + IntKind.u64.wrap more.h)) = HH at *
          generalize wrap64 (IntKind.u64.wrap (at_ + IntKind.u64.wrap more.lo)) = LO at *
          have z0 : wE.cell? ⟨qe, 0, none⟩ = some (.int .i64 LO) := PE.out.cell 0
          have z1 : wE.cell? ⟨qe, 1, none⟩ = some (.int .i64 HI) := PE.out.cell 1
          have z2 : wE.cell? ⟨qe, 2, none⟩ = some (.int .i64 HH) := PE.out.cell 2
          go_upto_region 15 with (at_builtin; refine wpList_append_lies _ rfl (.tmp 70) (.tmp 72) _ rfl (w.heap.size + 1) 44 j0 _ 3 24 Try.underlying25 hj0 hjz0 hjz1 hjz2 rfl (by omega) _ i _ rfl (O.out.alloc _) ⟨wE.heap.size, 0, none⟩ 1 1 [.int .i64 LO, .int .i64 HI, .int .i64 HH] rfl rfl (World.news_of_block (cs := #[.int .i64 LO, .int .i64 HI, .int .i64 HH]) (t := 44) (fr := (0, 0)) (heap_alloc_new wE _)) (by simp [Value.oneCell']) (by omega) (by simp only [maxLen]; omega) (by omega) (by simp; omega) (wE.heap.size + 1) (by simp) ?_; intro gg cap w3 hown hgrow hat2 hlt3)
          have NX : Hid (Mes (w.heap.size + 1) w3 (.slice (some ⟨gg, 0, none⟩) (i + 1) cap) (es ++ [⟨LO, HI, HH⟩])) := Lib.hid (by
            unfold Mes
            rw [List.length_append, HLN.out, enCells_app]
            exact hown)
          have NB : Hid (Below w.heap.size w w3) := Lib.hid ((HB2.out.alloc HB2.out.size _).grown hgrow (by simp; omega) (fun k hk => by have := LT.out k hk; omega))
          have NP : Hid (Whole w3 qm 44 #[.int .i64 more.lo, .int .i64 more.hi, .int .i64 more.h]) := Lib.hid ((HP2.out.alloc _).grown hgrow (fun he => by have := LT.out qm he.symm; have := HQM.out; omega))
          clear hown hgrow hat2 hlt3 z0 z1 z2
          by_cases e1 : 2457600 < HI
          · have VA : Hid (Value.int .i64 (mkAt ⟨LO, HI, HH⟩) = .int .i64 (65536)) := Lib.hid (by unfold mkAt; rw [if_pos (.inl e1)])
            clear HM2 HB2 HP2 O LT PE
            go_wp2_with fail
            go_roundw
            case rel => exact ⟨i + 1, by omega, by go_num, by rw [NXT.out]; exact VA.out.symm, by rw [NXT.out]; exact NX.out, NB.out, NP.out⟩
            case measure => simp [intOf]; omega
          · by_cases e2 : HI < 0
            · have VA : Hid (Value.int .i64 (mkAt ⟨LO, HI, HH⟩) = .int .i64 (65536)) := Lib.hid (by unfold mkAt; rw [if_pos (.inr e2)])
              clear HM2 HB2 HP2 O LT PE
              go_wp2_with fail
              go_roundw
              case rel => exact ⟨i + 1, by omega, by go_num, by rw [NXT.out]; exact VA.out.symm, by rw [NXT.out]; exact NX.out, NB.out, NP.out⟩
              case measure => simp [intOf]; omega
            · have VA : Hid (Value.int .i64 (mkAt ⟨LO, HI, HH⟩) = .int .i64 (HI)) := Lib.hid (by unfold mkAt; rw [if_neg (by simp only; omega)])
              clear HM2 HB2 HP2 O LT PE
              go_wp2_with fail
              go_roundw
              case rel => exact ⟨i + 1, by omega, by go_num, by rw [NXT.out]; exact VA.out.symm, by rw [NXT.out]; exact NX.out, NB.out, NP.out⟩
              case measure => simp [intOf]; omega
        · have jb : ((i : Int) == bad) = false := beq_eq_false_iff_ne.2 hbad
          have kk0 : (wr.alloc (.cells #[.int .i64 (at_), .int .i64 (at_ + 4096 * (1 + (u8 : Int))), .int .i64 (0)] 44)).cell? ⟨b, off + i, none⟩ = some (.int .u8 sz) := box_cell _ _ _ _ k0
          have MK2 : Hid (mkOne sz i at_ bad more = ⟨at_, at_ + 4096 * (1 + (u8 : Int)), 65536 + (i : Int)⟩) := Lib.hid (by rw [MK.out, if_neg hbad]; rfl)
          rw [MK2.out] at NXT
          have BE := Lib.hid (below_new wr (.cells #[.int .i64 (at_), .int .i64 (at_ + 4096 * (1 + (u8 : Int))), .int .i64 (65536 + (i : Int))] 44))
          have PE := Lib.hid (Whole.new wr 44 #[.int .i64 (at_), .int .i64 (at_ + 4096 * (1 + (u8 : Int))), .int .i64 (65536 + (i : Int))])
          clear MK CA MK2
          go_upto_region 13 with (fail)
          generalize wr.alloc (.cells #[.int .i64 (at_), .int .i64 (at_ + 4096 * (1 + (u8 : Int))), .int .i64 (65536 + (i : Int))] 44) = wE at *
          obtain ⟨qe, hqe⟩ : ∃ qe, wr.heap.size = qe := ⟨_, rfl⟩
          have HM2 := Lib.hid (HM.out.still BE.out)
          have HB2 := Lib.hid (below_then HB.out BE.out (Nat.le_refl _))
          have HP2 := Lib.hid (HP.out.below BE.out HP.out.lt)
          have SE : w.heap.size + 1 ≤ wE.heap.size := by have := HP2.out.lt; have := HQM.out; omega
          have O : Hid (wE.ownsRow (w.heap.size + 1) 44 3 (.slice B1 i c1) i (enCells es)) := Lib.hid (by have := HM2.out; unfold Mes at this; rw [HLN.out] at this; exact this)
          have LT : Hid (∀ k, (Value.slice B1 i c1).ownBlock = some k → w.heap.size + 1 ≤ k) := Lib.hid (fun k hk => (World.ownsRow.lt O.out k hk).1)
          rw [hqe] at PE ⊢
          clear hqe k0 x0 x1 x2 HM HB HP BE kk0 
          generalize at_ + 4096 * (1 + (u8 : Int)) = HI at *
          generalize 65536 + (i : Int) = HH at *
          generalize at_ = LO at *
          have z0 : wE.cell? ⟨qe, 0, none⟩ = some (.int .i64 LO) := PE.out.cell 0
          have z1 : wE.cell? ⟨qe, 1, none⟩ = some (.int .i64 HI) := PE.out.cell 1
          have z2 : wE.cell? ⟨qe, 2, none⟩ = some (.int .i64 HH) := PE.out.cell 2
          go_upto_region 15 with (at_builtin; refine wpList_append_lies _ rfl (.tmp 70) (.tmp 72) _ rfl (w.heap.size + 1) 44 j0 _ 3 24 Try.underlying25 hj0 hjz0 hjz1 hjz2 rfl (by omega) _ i _ rfl (O.out.alloc _) ⟨wE.heap.size, 0, none⟩ 1 1 [.int .i64 LO, .int .i64 HI, .int .i64 HH] rfl rfl (World.news_of_block (cs := #[.int .i64 LO, .int .i64 HI, .int .i64 HH]) (t := 44) (fr := (0, 0)) (heap_alloc_new wE _)) (by simp [Value.oneCell']) (by omega) (by simp only [maxLen]; omega) (by omega) (by simp; omega) (wE.heap.size + 1) (by simp) ?_; intro gg cap w3 hown hgrow hat2 hlt3)
          have NX : Hid (Mes (w.heap.size + 1) w3 (.slice (some ⟨gg, 0, none⟩) (i + 1) cap) (es ++ [⟨LO, HI, HH⟩])) := Lib.hid (by
            unfold Mes
            rw [List.length_append, HLN.out, enCells_app]
            exact hown)
          have NB : Hid (Below w.heap.size w w3) := Lib.hid ((HB2.out.alloc HB2.out.size _).grown hgrow (by simp; omega) (fun k hk => by have := LT.out k hk; omega))
          have NP : Hid (Whole w3 qm 44 #[.int .i64 more.lo, .int .i64 more.hi, .int .i64 more.h]) := Lib.hid ((HP2.out.alloc _).grown hgrow (fun he => by have := LT.out qm he.symm; have := HQM.out; omega))
          clear hown hgrow hat2 hlt3 z0 z1 z2
          by_cases e1 : 2457600 < HI
          · have VA : Hid (Value.int .i64 (mkAt ⟨LO, HI, HH⟩) = .int .i64 (65536)) := Lib.hid (by unfold mkAt; rw [if_pos (.inl e1)])
            clear HM2 HB2 HP2 O LT PE
            go_wp2_with fail
            go_roundw
            case rel => exact ⟨i + 1, by omega, by go_num, by rw [NXT.out]; exact VA.out.symm, by rw [NXT.out]; exact NX.out, NB.out, NP.out⟩
            case measure => simp [intOf]; omega
          · by_cases e2 : HI < 0
            · have VA : Hid (Value.int .i64 (mkAt ⟨LO, HI, HH⟩) = .int .i64 (65536)) := Lib.hid (by unfold mkAt; rw [if_pos (.inr e2)])
              clear HM2 HB2 HP2 O LT PE
              go_wp2_with fail
              go_roundw
              case rel => exact ⟨i + 1, by omega, by go_num, by rw [NXT.out]; exact VA.out.symm, by rw [NXT.out]; exact NX.out, NB.out, NP.out⟩
              case measure => simp [intOf]; omega
            · have VA : Hid (Value.int .i64 (mkAt ⟨LO, HI, HH⟩) = .int .i64 (HI)) := Lib.hid (by unfold mkAt; rw [if_neg (by simp only; omega)])
              clear HM2 HB2 HP2 O LT PE
              go_wp2_with fail
              go_roundw
              case rel => exact ⟨i + 1, by omega, by go_num, by rw [NXT.out]; exact VA.out.symm, by rw [NXT.out]; exact NX.out, NB.out, NP.out⟩
              case measure => simp [intOf]; omega
      · have ho2 : u2 = 0 := by omega
        subst ho2
        have jo : ((0 : Int) == 1) = false := rfl
        by_cases hbad : (i : Int) = bad
        · subst hbad
          have jb : ((i : Int) == (i : Int)) = true := by simp
          have kk0 : (wr.alloc (.cells #[.int .i64 (at_), .int .i64 (at_ + 4096 * (1 + (u8 : Int))), .int .i64 (0)] 44)).cell? ⟨b, off + i, none⟩ = some (.int .u8 sz) := box_cell _ _ _ _ k0
          have y00 : (wr.alloc (.cells #[.int .i64 (at_), .int .i64 (at_ + 4096 * (1 + (u8 : Int))), .int .i64 (0)] 44)).cell? ⟨qm, 0, none⟩ = some (.int .i64 more.lo) := box_cell _ _ _ _ x0
          have y10 : (wr.alloc (.cells #[.int .i64 (at_), .int .i64 (at_ + 4096 * (1 + (u8 : Int))), .int .i64 (0)] 44)).cell? ⟨qm, 1, none⟩ = some (.int .i64 more.hi) := box_cell _ _ _ _ x1
          have y20 : (wr.alloc (.cells #[.int .i64 (at_), .int .i64 (at_ + 4096 * (1 + (u8 : Int))), .int .i64 (0)] 44)).cell? ⟨qm, 2, none⟩ = some (.int .i64 more.h) := box_cell _ _ _ _ x2
          have kk1 : (wr.alloc (.cells #[.int .i64 (wrap64 (IntKind.u64.wrap (at_ + IntKind.u64.wrap more.lo))), .int .i64 (at_ + 4096 * (1 + (u8 : Int))), .int .i64 (0)] 44)).cell? ⟨b, off + i, none⟩ = some (.int .u8 sz) := box_cell _ _ _ _ k0
          have y01 : (wr.alloc (.cells #[.int .i64 (wrap64 (IntKind.u64.wrap (at_ + IntKind.u64.wrap more.lo))), .int .i64 (at_ + 4096 * (1 + (u8 : Int))), .int .i64 (0)] 44)).cell? ⟨qm, 0, none⟩ = some (.int .i64 more.lo) := box_cell _ _ _ _ x0
          have y11 : (wr.alloc (.cells #[.int .i64 (wrap64 (IntKind.u64.wrap (at_ + IntKind.u64.wrap more.lo))), .int .i64 (at_ + 4096 * (1 + (u8 : Int))), .int .i64 (0)] 44)).cell? ⟨qm, 1, none⟩ = some (.int .i64 more.hi) := box_cell _ _ _ _ x1
          have y21 : (wr.alloc (.cells #[.int .i64 (wrap64 (IntKind.u64.wrap (at_ + IntKind.u64.wrap more.lo))), .int .i64 (at_ + 4096 * (1 + (u8 : Int))), .int .i64 (0)] 44)).cell? ⟨qm, 2, none⟩ = some (.int .i64 more.h) := box_cell _ _ _ _ x2
          have kk2 : (wr.alloc (.cells #[.int .i64 (wrap64 (IntKind.u64.wrap (at_ + IntKind.u64.wrap more.lo))), .int .i64 (wrap64 (IntKind.u64.wrap (at_ + 4096 * (1 + (u8 : Int)) + IntKind.u64.wrap more.hi))), .int .i64 (0)] 44)).cell? ⟨b, off + i, none⟩ = some (.int .u8 sz) := box_cell _ _ _ _ k0
          have y02 : (wr.alloc (.cells #[.int .i64 (wrap64 (IntKind.u64.wrap (at_ + IntKind.u64.wrap more.lo))), .int .i64 (wrap64 (IntKind.u64.wrap (at_ + 4096 * (1 + (u8 : Int)) + IntKind.u64.wrap more.hi))), .int .i64 (0)] 44)).cell? ⟨qm, 0, none⟩ = some (.int .i64 more.lo) := box_cell _ _ _ _ x0
          have y12 : (wr.alloc (.cells #[.int .i64 (wrap64 (IntKind.u64.wrap (at_ + IntKind.u64.wrap more.lo))), .int .i64 (wrap64 (IntKind.u64.wrap (at_ + 4096 * (1 + (u8 : Int)) + IntKind.u64.wrap more.hi))), .int .i64 (0)] 44)).cell? ⟨qm, 1, none⟩ = some (.int .i64 more.hi) := box_cell _ _ _ _ x1
          have y22 : (wr.alloc (.cells #[.int .i64 (wrap64 (IntKind.u64.wrap (at_ + IntKind.u64.wrap more.lo))), .int .i64 (wrap64 (IntKind.u64.wrap (at_ + 4096 * (1 + (u8 : Int)) + IntKind.u64.wrap more.hi))), .int .i64 (0)] 44)).cell? ⟨qm, 2, none⟩ = some (.int .i64 more.h) := box_cell _ _ _ _ x2
          have MK2 : Hid (mkOne sz i at_ (i : Int) more = ⟨wrap64 (IntKind.u64.wrap (at_ + IntKind.u64.wrap more.lo)), wrap64 (IntKind.u64.wrap (at_ + 4096 * (1 + (u8 : Int)) + IntKind.u64.wrap more.hi)), wrap64 (IntKind.u64.wrap (IntKind.u64.wrap more.h))⟩) := Lib.hid (by rw [MK.out, if_pos rfl, wrap_conv, wrap_conv, wrap_conv0]; rfl)
          rw [MK2.out] at NXT
          have BE := Lib.hid (below_new wr (.cells #[.int .i64 (wrap64 (IntKind.u64.wrap (at_ + IntKind.u64.wrap more.lo))), .int .i64 (wrap64 (IntKind.u64.wrap (at_ + 4096 * (1 + (u8 : Int)) + IntKind.u64.wrap more.hi))), .int .i64 (wrap64 (IntKind.u64.wrap (IntKind.u64.wrap more.h)))] 44))
          have PE := Lib.hid (Whole.new wr 44 #[.int .i64 (wrap64 (IntKind.u64.wrap (at_ + IntKind.u64.wrap more.lo))), .int .i64 (wrap64 (IntKind.u64.wrap (at_ + 4096 * (1 + (u8 : Int)) + IntKind.u64.wrap more.hi))), .int .i64 (wrap64 (IntKind.u64.wrap (IntKind.u64.wrap more.h)))])
          clear MK CA MK2
          go_upto_region 13 with (fail)
          generalize wr.alloc (.cells #[.int .i64 (wrap64 (IntKind.u64.wrap (at_ + IntKind.u64.wrap more.lo))), .int .i64 (wrap64 (IntKind.u64.wrap (at_ + 4096 * (1 + (u8 : Int)) + IntKind.u64.wrap more.hi))), .int .i64 (wrap64 (IntKind.u64.wrap (IntKind.u64.wrap more.h)))] 44) = wE at *
          obtain ⟨qe, hqe⟩ : ∃ qe, wr.heap.size = qe := ⟨_, rfl⟩
          have HM2 := Lib.hid (HM.out.still BE.out)
          have HB2 := Lib.hid (below_then HB.out BE.out (Nat.le_refl _))
          have HP2 := Lib.hid (HP.out.below BE.out HP.out.lt)
          have SE : w.heap.size + 1 ≤ wE.heap.size := by have := HP2.out.lt; have := HQM.out; omega
          have O : Hid (wE.ownsRow (w.heap.size + 1) 44 3 (.slice B1 i c1) i (enCells es)) := Lib.hid (by have := HM2.out; unfold Mes at this; rw [HLN.out] at this; exact this)
          have LT : Hid (∀ k, (Value.slice B1 i c1).ownBlock = some k → w.heap.size + 1 ≤ k) := Lib.hid (fun k hk => (World.ownsRow.lt O.out k hk).1)
          rw [hqe] at PE ⊢
          clear hqe k0 x0 x1 x2 HM HB HP BE kk0 kk1 kk2 y00 y10 y20 y01 y11 y21 y02 y12 y22
          generalize wrap64 (IntKind.u64.wrap (at_ + 4096 * (1 + (u8 : Int)) + IntKind.u64.wrap more.hi)) = HI at *
          generalize wrap64 (IntKind.u64.wrap (IntKind.u64.wrap more.h)) = HH at *
          generalize wrap64 (IntKind.u64.wrap (at_ + IntKind.u64.wrap more.lo)) = LO at *
          have z0 : wE.cell? ⟨qe, 0, none⟩ = some (.int .i64 LO) := PE.out.cell 0
          have z1 : wE.cell? ⟨qe, 1, none⟩ = some (.int .i64 HI) := PE.out.cell 1
          have z2 : wE.cell? ⟨qe, 2, none⟩ = some (.int .i64 HH) := PE.out.cell 2
          go_upto_region 15 with (at_builtin; refine wpList_append_lies _ rfl (.tmp 70) (.tmp 72) _ rfl (w.heap.size + 1) 44 j0 _ 3 24 Try.underlying25 hj0 hjz0 hjz1 hjz2 rfl (by omega) _ i _ rfl (O.out.alloc _) ⟨wE.heap.size, 0, none⟩ 1 1 [.int .i64 LO, .int .i64 HI, .int .i64 HH] rfl rfl (World.news_of_block (cs := #[.int .i64 LO, .int .i64 HI, .int .i64 HH]) (t := 44) (fr := (0, 0)) (heap_alloc_new wE _)) (by simp [Value.oneCell']) (by omega) (by simp only [maxLen]; omega) (by omega) (by simp; omega) (wE.heap.size + 1) (by simp) ?_; intro gg cap w3 hown hgrow hat2 hlt3)
          have NX : Hid (Mes (w.heap.size + 1) w3 (.slice (some ⟨gg, 0, none⟩) (i + 1) cap) (es ++ [⟨LO, HI, HH⟩])) := Lib.hid (by
            unfold Mes
            rw [List.length_append, HLN.out, enCells_app]
            exact hown)
          have NB : Hid (Below w.heap.size w w3) := Lib.hid ((HB2.out.alloc HB2.out.size _).grown hgrow (by simp; omega) (fun k hk => by have := LT.out k hk; omega))
          have NP : Hid (Whole w3 qm 44 #[.int .i64 more.lo, .int .i64 more.hi, .int .i64 more.h]) := Lib.hid ((HP2.out.alloc _).grown hgrow (fun he => by have := LT.out qm he.symm; have := HQM.out; omega))
          clear hown hgrow hat2 hlt3 z0 z1 z2
          by_cases e1 : 2457600 < HI
          · have VA : Hid (Value.int .i64 (mkAt ⟨LO, HI, HH⟩) = .int .i64 (65536)) := Lib.hid (by unfold mkAt; rw [if_pos (.inl e1)])
            clear HM2 HB2 HP2 O LT PE
            go_wp2_with fail
            go_roundw
            case rel => exact ⟨i + 1, by omega, by go_num, by rw [NXT.out]; exact VA.out.symm, by rw [NXT.out]; exact NX.out, NB.out, NP.out⟩
            case measure => simp [intOf]; omega
          · by_cases e2 : HI < 0
            · have VA : Hid (Value.int .i64 (mkAt ⟨LO, HI, HH⟩) = .int .i64 (65536)) := Lib.hid (by unfold mkAt; rw [if_pos (.inr e2)])
              clear HM2 HB2 HP2 O LT PE
              go_wp2_with fail
              go_roundw
              case rel => exact ⟨i + 1, by omega, by go_num, by rw [NXT.out]; exact VA.out.symm, by rw [NXT.out]; exact NX.out, NB.out, NP.out⟩
              case measure => simp [intOf]; omega
            · have VA : Hid (Value.int .i64 (mkAt ⟨LO, HI, HH⟩) = .int .i64 (HI)) := Lib.hid (by unfold mkAt; rw [if_neg (by simp only; omega)])
              clear HM2 HB2 HP2 O LT PE
              go_wp2_with fail
              go_roundw
              case rel => exact ⟨i + 1, by omega, by go_num, by rw [NXT.out]; exact VA.out.symm, by rw [NXT.out]; exact NX.out, NB.out, NP.out⟩
              case measure => simp [intOf]; omega
        · have jb : ((i : Int) == bad) = false := beq_eq_false_iff_ne.2 hbad
          have kk0 : (wr.alloc (.cells #[.int .i64 (at_), .int .i64 (at_ + 4096 * (1 + (u8 : Int))), .int .i64 (0)] 44)).cell? ⟨b, off + i, none⟩ = some (.int .u8 sz) := box_cell _ _ _ _ k0
          have MK2 : Hid (mkOne sz i at_ bad more = ⟨at_, at_ + 4096 * (1 + (u8 : Int)), 0⟩) := Lib.hid (by rw [MK.out, if_neg hbad]; rfl)
          rw [MK2.out] at NXT
          have BE := Lib.hid (below_new wr (.cells #[.int .i64 (at_), .int .i64 (at_ + 4096 * (1 + (u8 : Int))), .int .i64 (0)] 44))
          have PE := Lib.hid (Whole.new wr 44 #[.int .i64 (at_), .int .i64 (at_ + 4096 * (1 + (u8 : Int))), .int .i64 (0)])
          clear MK CA MK2
          go_upto_region 13 with (fail)
          generalize wr.alloc (.cells #[.int .i64 (at_), .int .i64 (at_ + 4096 * (1 + (u8 : Int))), .int .i64 (0)] 44) = wE at *
          obtain ⟨qe, hqe⟩ : ∃ qe, wr.heap.size = qe := ⟨_, rfl⟩
          have HM2 := Lib.hid (HM.out.still BE.out)
          have HB2 := Lib.hid (below_then HB.out BE.out (Nat.le_refl _))
          have HP2 := Lib.hid (HP.out.below BE.out HP.out.lt)
          have SE : w.heap.size + 1 ≤ wE.heap.size := by have := HP2.out.lt; have := HQM.out; omega
          have O : Hid (wE.ownsRow (w.heap.size + 1) 44 3 (.slice B1 i c1) i (enCells es)) := Lib.hid (by have := HM2.out; unfold Mes at this; rw [HLN.out] at this; exact this)
          have LT : Hid (∀ k, (Value.slice B1 i c1).ownBlock = some k → w.heap.size + 1 ≤ k) := Lib.hid (fun k hk => (World.ownsRow.lt O.out k hk).1)
          rw [hqe] at PE ⊢
          clear hqe k0 x0 x1 x2 HM HB HP BE kk0 
          generalize at_ + 4096 * (1 + (u8 : Int)) = HI at *
          skip
          generalize at_ = LO at *
          have z0 : wE.cell? ⟨qe, 0, none⟩ = some (.int .i64 LO) := PE.out.cell 0
          have z1 : wE.cell? ⟨qe, 1, none⟩ = some (.int .i64 HI) := PE.out.cell 1
          have z2 : wE.cell? ⟨qe, 2, none⟩ = some (.int .i64 0) := PE.out.cell 2
          go_upto_region 15 with (at_builtin; refine wpList_append_lies _ rfl (.tmp 70) (.tmp 72) _ rfl (w.heap.size + 1) 44 j0 _ 3 24 Try.underlying25 hj0 hjz0 hjz1 hjz2 rfl (by omega) _ i _ rfl (O.out.alloc _) ⟨wE.heap.size, 0, none⟩ 1 1 [.int .i64 LO, .int .i64 HI, .int .i64 0] rfl rfl (World.news_of_block (cs := #[.int .i64 LO, .int .i64 HI, .int .i64 0]) (t := 44) (fr := (0, 0)) (heap_alloc_new wE _)) (by simp [Value.oneCell']) (by omega) (by simp only [maxLen]; omega) (by omega) (by simp; omega) (wE.heap.size + 1) (by simp) ?_; intro gg cap w3 hown hgrow hat2 hlt3)
          have NX : Hid (Mes (w.heap.size + 1) w3 (.slice (some ⟨gg, 0, none⟩) (i + 1) cap) (es ++ [⟨LO, HI, 0⟩])) := Lib.hid (by
            unfold Mes
            rw [List.length_append, HLN.out, enCells_app]
            exact hown)
          have NB : Hid (Below w.heap.size w w3) := Lib.hid ((HB2.out.alloc HB2.out.size _).grown hgrow (by simp; omega) (fun k hk => by have := LT.out k hk; omega))
          have NP : Hid (Whole w3 qm 44 #[.int .i64 more.lo, .int .i64 more.hi, .int .i64 more.h]) := Lib.hid ((HP2.out.alloc _).grown hgrow (fun he => by have := LT.out qm he.symm; have := HQM.out; omega))
          clear hown hgrow hat2 hlt3 z0 z1 z2
          by_cases e1 : 2457600 < HI
          · have VA : Hid (Value.int .i64 (mkAt ⟨LO, HI, 0⟩) = .int .i64 (65536)) := Lib.hid (by unfold mkAt; rw [if_pos (.inl e1)])
            clear HM2 HB2 HP2 O LT PE
            go_wp2_with fail
            go_roundw
            case rel => exact ⟨i + 1, by omega, by go_num, by rw [NXT.out]; exact VA.out.symm, by rw [NXT.out]; exact NX.out, NB.out, NP.out⟩
            case measure => simp [intOf]; omega
          · by_cases e2 : HI < 0
            · have VA : Hid (Value.int .i64 (mkAt ⟨LO, HI, 0⟩) = .int .i64 (65536)) := Lib.hid (by unfold mkAt; rw [if_pos (.inr e2)])
              clear HM2 HB2 HP2 O LT PE
              go_wp2_with fail
              go_roundw
              case rel => exact ⟨i + 1, by omega, by go_num, by rw [NXT.out]; exact VA.out.symm, by rw [NXT.out]; exact NX.out, NB.out, NP.out⟩
              case measure => simp [intOf]; omega
            · have VA : Hid (Value.int .i64 (mkAt ⟨LO, HI, 0⟩) = .int .i64 (HI)) := Lib.hid (by unfold mkAt; rw [if_neg (by simp only; omega)])
              clear HM2 HB2 HP2 O LT PE
              go_wp2_with fail
              go_roundw
              case rel => exact ⟨i + 1, by omega, by go_num, by rw [NXT.out]; exact VA.out.symm, by rw [NXT.out]; exact NX.out, NB.out, NP.out⟩
              case measure => simp [intOf]; omega
    · have e : i = n := by omega
      subst e
      have j1 : ¬ (i : Int) < (i : Int) := by omega
      have FX := Lib.hid (FIN.out _ _ (by have := HM.out.base' (show w.heap.size ≤ w.heap.size + 1 by omega); exact this) HB.out)
      clear FIN HM HB HP CA
      go_wp2_with fail
      exact FX.out
end Go.Proofs.Ytejkhnphplpkeaa
