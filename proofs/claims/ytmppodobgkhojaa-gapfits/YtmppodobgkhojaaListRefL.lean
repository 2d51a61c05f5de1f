/-
  Layer 7: the reference's list of pages: a contract for the call.
-/
import Derived.Test.YtmppodobgkhojaaListSp
import Derived.Test.YtmppodobgkhojaaListMade
import Derived.Deep.DeepCutAuto
import Derived.Deep.CutBlock
namespace Go.Proofs.Ytmppodobgkhojaa
open Go.ChangeShapes Go.WideShapes Go.ChangeAt Go.RowKit Go.Shelf
set_option linter.unusedVariables false
attribute [local go_sem ↓] Go.wp_at_zero Go.wp_at_succ

theorem SpIn.some {w : World} {q : Nat} {s : Sp} (h : SpIn w q s) {p : Nat} (hp : p < 512) {x : At} (hz : s p = some x) : (w.cell? ⟨q, p * 5, none⟩ = some (.bool true) ∧ w.cell? ⟨q, p * 5 + 1, none⟩ = some (.int .i64 x.p) ∧ w.cell? ⟨q, p * 5 + 2, none⟩ = some (.bool x.sh) ∧ w.cell? ⟨q, p * 5 + 3, none⟩ = some (.int .i64 x.bk) ∧ w.cell? ⟨q, p * 5 + 4, none⟩ = some (.int .i64 x.off)) := by
  have c := fun j hj => h.cells hp j hj
  rw [hz] at c
  exact ⟨c 0 (by omega), c 1 (by omega), c 2 (by omega), c 3 (by omega), c 4 (by omega)⟩
/-- What the call has: the pages, and the list so far. -/
structure LsAt (w wr : World) (s : Sp) (v : Value) (out : List Ar) : Prop where
  s : SpIn wr w.heap.size s
  m : Mine w.heap.size wr v out
  bel : Below w.heap.size w wr
section
variable {w wr w' : World} {s : Sp} {v v' : Value} {out out' : List Ar}
theorem LsAt.still (h : LsAt w wr s v out) (hb : Below wr.heap.size wr w') : LsAt w w' s v out :=
  ⟨Whole.below h.s hb (Whole.lt h.s), h.m.still hb, h.bel.trans (hb.mono h.bel.size)⟩
theorem LsAt.apart (h : LsAt w wr s v out) : v.ownBlock ≠ some w.heap.size := own_apart h.m h.s (by decide)
theorem LsAt.more (h : LsAt w wr s v out) (ho : Only (fun k => v.ownBlock = some k) wr w') (hm : Mine w.heap.size w' v' out') : LsAt w w' s v' out' :=
  ⟨Whole.only h.s ho h.apart, hm, h.bel.trans (ho.below (fun k hk => (h.m.lt k hk).1) h.bel.size)⟩
theorem LsAt.row {g n c : Nat} {u : List Ar} {z : Ar} (h : LsAt w wr s (.slice (some ⟨g, 0, none⟩) n c) (u ++ [z])) : wr.frozen? ⟨g, u.length * 6 + 1, none⟩ = false ∧ AreaAt wr g (u.length * 6) z := by
  have hAr := h.m.areas
  rcases h.m.2 with ⟨h0, _⟩ | ⟨g', cap, cur, hv, hb, hh, _⟩
  · cases h0
  · injection hv with h1
    injection h1 with h1
    injection h1 with h1
    subst h1
    refine ⟨Whole.frozen (t := 35) hh _, ?_⟩
    rcases hAr with h0 | ⟨b, off, hb', _, hc⟩
    · simp at h0
    · injection hb' with hb'
      injection hb' with hb1 hb2
      subst hb1 hb2
      have := hc u.length (by simp)
      simpa using this
theorem LsAt.end {g n c : Nat} {u : List Ar} {z : Ar} (h : LsAt w wr s (.slice (some ⟨g, 0, none⟩) n c) (u ++ [z])) (y : Int) : LsAt w (wr.setCell ⟨g, u.length * 6 + 1, none⟩ (.int .i64 y)) s (.slice (some ⟨g, 0, none⟩) n c) (u ++ [{ z with e := y }]) :=
  h.more ((Only.refl _ _).setCell (.inl (by simp [Value.ownBlock])) _) (h.m.end y)
end

theorem listTo_low {s : Sp} {n : Nat} (h : n ≤ 16) : listTo s n = [] := by
  have : pagesTo s n = [] := by
    induction n with
    | zero => rfl
    | succ n ih => rw [pagesTo, ih (by omega), if_neg (by omega)]; rfl
  unfold listTo; rw [this]; rfl
/-- Whether the last one goes on. -/
def goesB (out : List Ar) (a : Ar) : Bool := match out.getLast? with | none => false | some z => decide (GoesA z a)
theorem joinF_no {out : List Ar} {a : Ar} (h : goesB out a = false) : joinF out a = out ++ [a] := by
  unfold goesB at h
  unfold joinF
  cases hl : out.getLast? with
  | none => rw [List.getLast?_eq_none_iff.1 hl]; rfl
  | some z => rw [hl] at h; simp only at h ⊢; rw [if_neg (of_decide_eq_false h)]
theorem joinF_yes {out : List Ar} {a : Ar} (h : goesB out a = true) : ∃ u z, out = u ++ [z] ∧ joinF out a = u ++ [{ z with e := a.e }] := by
  unfold goesB at h
  unfold joinF
  cases hl : out.getLast? with
  | none => rw [hl] at h; cases h
  | some z =>
    rw [hl] at h
    simp only at h ⊢
    exact ⟨_, z, last_split hl, by rw [if_pos (of_decide_eq_true h)]⟩

set_option maxRecDepth 100000 in
set_option maxHeartbeats 4000000 in
theorem refList_any (s : Sp) (hg : GoodS s) (w : World) :
    Calls Try.prog 24 #[.agg (spc s)] w fun e w' => ∃ v, e = .returned v ∧ Mine w.heap.size w' v (listTo s 512) ∧ Below w.heap.size w w' := by
  obtain ⟨i0, hi0, hz0, hz1, hz2⟩ := info_parts area_info
  have HI0 : Hid (Try.prog.info? 35 = some i0) := Lib.hid hi0
  have H0 : Hid (i0.zero = some Ar.nil.v) := Lib.hid hz0
  have H1 : Hid (i0.size = 6) := Lib.hid hz1
  have H2 : Hid (i0.bytes = 48) := Lib.hid hz2
  clear hi0 hz0 hz1 hz2
  have HG := Lib.hid hg
  clear hg
  have L0 : Hid (LsAt w (w.alloc (.cells (spc s) 43)) s (.slice none 0 0) []) := Lib.hid ⟨Whole.new _ _ _, Mine.nil _ _, below_new _ _⟩
  go_enter Try.func24, Try.ntmps24
  go_wp2_with fail
  generalize w.alloc _ = W0 at *
  go_loopg [3, 4, 5, 6] 512 (fun g s3 s4 _ _ wr => ∃ (k c : Nat) (A : Option Addr), 16 ≤ k ∧ k ≤ 512 ∧ 512 - k ≤ g ∧ s4 = .int .i64 k ∧ s3 = .slice A (listTo s k).length c ∧ Hid (LsAt w wr s (.slice A (listTo s k).length c) (listTo s k)))
  case atStart =>
    refine ⟨16, 0, none, by omega, by omega, by omega, rfl, ?_, ?_⟩
    · rw [listTo_low (by omega)]; rfl
    · rw [listTo_low (by omega)]; exact L0
  case round =>
    obtain ⟨k, c, A, hk0, hk1, hgk, rfl, rfl, HL⟩ := hrel
    by_cases hlt : k < 512
    · have hz1 : (k : Int) < 512 := by omega
      have hz0 : (0 : Int) ≤ (k : Int) := by omega
      cases hs : s k with
      | none =>
        obtain ⟨⟨d0, d1, d2, d3, d4⟩, fz⟩ := HL.out.s.five hlt hs
        go_wp2_with fail
        go_roundg (512 - (k + 1))
        case measure => omega
        case rel =>
          rw [← listTo_skip (.inl hs)] at HL ⊢
          exact ⟨k + 1, c, A, by omega, by omega, by omega, by go_num, rfl, HL⟩
      | some x =>
        obtain ⟨d0, d1, d2, d3, d4⟩ := HL.out.s.some hlt hs
        have hnx := listTo_next hk0 hs
        have hlen := listTo_len (s := s) k
        obtain ⟨r, hr⟩ : ∃ r, goesB (listTo s k) (pageAr k x) = r := ⟨_, rfl⟩
        have HR := Lib.hid hr
        have HNX := Lib.hid hnx
        have HS := Lib.hid hs
        clear hr hnx hs
        generalize hout : listTo s k = out at *
        have HOUT := Lib.hid hout
        clear hout
        go_upto_region 7 with (fail)
        go_cut [42] (fun s42 wc => s42 = .bool r ∧ Hid (LsAt w wc s (.slice A out.length c) out))
        case first =>
          cases hla : out.getLast? with
          | none =>
            obtain rfl : out = [] := List.getLast?_eq_none_iff.1 hla
            have HV : Hid (r = false) := Lib.hid (by rw [← HR.out]; rfl)
            clear d0 d1 d2 d3 d4
            simp only [List.length_nil] at *
            go_wp2_with fail
            go_quiet (fail)
            go_wp2_with fail
            go_meet
            exact ⟨by rw [HV.out], Lib.hid (HL.out.still (below_drewN (Below.refl _ _) _))⟩
          | some z =>
            have hsp := last_split hla
            have HB : Hid (r = decide (GoesA z (pageAr k x))) := Lib.hid (by rw [← HR.out, goesB, hla])
            have HZF : Hid (Formed z) := Lib.hid (by
              have hj := listTo_joined HG.out (n := k) (by omega)
              rw [HOUT.out] at hj
              exact right_formed hj.right z (by rw [hsp]; simp))
            have HLP : Hid (z.e = 4096 * (k : Int) → ∃ m x, k = m + 1 ∧ s m = some x ∧ z.at (m : Int) = x) := Lib.hid (last_page HG.out hlt hk0 (by rw [HOUT.out]; exact hla))
            generalize out.dropLast = u at *
            subst hsp
            clear hla
            obtain ⟨g, rfl⟩ : ∃ g, A = some ⟨g, 0, none⟩ := by
              rcases HL.out.m.2 with ⟨_, h0⟩ | ⟨g, cap, cur, hv, _⟩
              · simp at h0
              · injection hv with h1; exact ⟨g, h1⟩
            obtain ⟨fr, hrow⟩ := HL.out.row
            have y1 := hrow.c1
            have HLS := Lib.hid (fun W h => HL.out.still (w' := W) h)
            rw [show (u ++ [z]).length = u.length + 1 by simp] at *
            have j0 : (0 : Int) ≤ (u.length : Int) := by omega
            have j1 : (u.length : Int) < (u.length : Int) + 1 := by omega
            have j2 : ((u.length : Int) + 1) - 1 = (u.length : Int) := by omega
            have j3 : IntKind.i64.wrap (u.length : Int) = (u.length : Int) := by rw [IntKind.wrap_i64]; omega
            have j4 : IntKind.i64.wrap (4096 * (k : Int)) = 4096 * (k : Int) := by rw [IntKind.wrap_i64]; omega
            by_cases he : z.e = 4096 * (k : Int)
            · obtain ⟨m, xp, rfl, hsm, hzm⟩ := HLP.out he
              obtain ⟨f0, f1, f2, f3, f4⟩ := HL.out.s.some (p := m) (by omega) hsm
              have gx := HG.out _ _ HS.out
              have gp := HG.out _ _ hsm
              have HT : Hid (Tells r (AfterA xp x)) := Lib.hid (by
                rw [HB.out]
                have h1 := after_goes HZF.out (page_formed gx hk0 hlt) he
                have e1 : (pageAr (m + 1) x).s / 4096 = ((m + 1 : Nat) : Int) := by simp only [pageAr]; omega
                rw [e1, page_at gx, show ((m + 1 : Nat) : Int) - 1 = (m : Int) by omega, hzm] at h1
                simp only [Tells, decide_eq_true_eq]
                exact h1.symm)
              have XA := Lib.hid (refAfter_any xp x (by unfold Good at gp; omega) (by unfold Good at gp; omega) HT.out)
              have j5 : IntKind.i64.wrap (m : Int) = (m : Int) := by rw [IntKind.wrap_i64]; omega
              have j6 : (0 : Int) ≤ (m : Int) := by omega
              have j7 : (m : Int) < 512 := by omega
              have j8 : (0 : Int) ≤ (m : Int) + 1 := by omega
              have j9 : (m : Int) + 1 < 512 := by omega
              push_cast at *
              have HE := Lib.hid he
              rw [HE.out] at y1
              have hd : decide ((4096 : Int) * ((m : Int) + 1) = 4096 * ((m : Int) + 1)) = true := by simp
              have HK : Hid (∀ W, Below wr.heap.size wr W → (W.cell? ⟨g, u.length * 6 + 1, none⟩ = some (.int .i64 (4096 * ((m : Int) + 1))) ∧ W.cell? ⟨w.heap.size, m * 5 + 1, none⟩ = some (.int .i64 xp.p) ∧ W.cell? ⟨w.heap.size, m * 5 + 2, none⟩ = some (.bool xp.sh) ∧ W.cell? ⟨w.heap.size, m * 5 + 3, none⟩ = some (.int .i64 xp.bk) ∧ W.cell? ⟨w.heap.size, m * 5 + 4, none⟩ = some (.int .i64 xp.off) ∧
                  W.cell? ⟨w.heap.size, (m + 1) * 5 + 1, none⟩ = some (.int .i64 x.p) ∧ W.cell? ⟨w.heap.size, (m + 1) * 5 + 2, none⟩ = some (.bool x.sh) ∧ W.cell? ⟨w.heap.size, (m + 1) * 5 + 3, none⟩ = some (.int .i64 x.bk) ∧ W.cell? ⟨w.heap.size, (m + 1) * 5 + 4, none⟩ = some (.int .i64 x.off))) := Lib.hid (fun W h => by
                obtain ⟨_, hrow'⟩ := (HLS.out W h).row
                obtain ⟨_, q1, q2, q3, q4⟩ := (HLS.out W h).s.some (p := m) (by omega) hsm
                obtain ⟨_, r1, r2, r3, r4⟩ := (HLS.out W h).s.some (p := m + 1) (by omega) HS.out
                have := hrow'.c1
                rw [HE.out] at this
                exact ⟨this, q1, q2, q3, q4, r1, r2, r3, r4⟩)
              clear he hrow d0 d1 d2 d3 d4 f0 f1 f2 f3 f4 y1 gx gp hsm hzm fr
              obtain ⟨x0, x1, x2, x3⟩ := x
              obtain ⟨p0, p1, p2, p3⟩ := xp
              simp only [At.v] at XA HK
              go_wp2_with fail
              go_region_held3 (fun W => W.cell? ⟨g, u.length * 6 + 1, none⟩ = some (.int .i64 (4096 * ((m : Int) + 1))) ∧ W.cell? ⟨w.heap.size, m * 5 + 1, none⟩ = some (.int .i64 p0) ∧ W.cell? ⟨w.heap.size, m * 5 + 2, none⟩ = some (.bool p1) ∧ W.cell? ⟨w.heap.size, m * 5 + 3, none⟩ = some (.int .i64 p2) ∧ W.cell? ⟨w.heap.size, m * 5 + 4, none⟩ = some (.int .i64 p3) ∧
                  W.cell? ⟨w.heap.size, (m + 1) * 5 + 1, none⟩ = some (.int .i64 x0) ∧ W.cell? ⟨w.heap.size, (m + 1) * 5 + 2, none⟩ = some (.bool x1) ∧ W.cell? ⟨w.heap.size, (m + 1) * 5 + 3, none⟩ = some (.int .i64 x2) ∧ W.cell? ⟨w.heap.size, (m + 1) * 5 + 4, none⟩ = some (.int .i64 x3))
                (first | exact HK.out _ (below_drew (Below.refl _ _)) | exact HK.out _ B2.out)
                (first
                | (go_at_call 35; refine (XA.out _).mono ?_; rintro e w2 ⟨rfl, hb2⟩; have B2 : Hid (Below wr.heap.size wr w2) := Lib.hid (below_of_drew hb2); clear hb2))
              go_wp2_with fail
              go_meet
              exact ⟨rfl, Lib.hid (HLS.out _ B2.out)⟩
            · have HV : Hid (r = false) := Lib.hid (by rw [HB.out, decide_eq_false]; intro hg; exact he hg.at')
              have hd : decide (z.e = 4096 * (k : Int)) = false := by simp [he]
              clear d0 d1 d2 d3 d4 hrow
              go_wp2_with fail
              go_quiet (fail)
              go_wp2_with fail
              go_meet
              exact ⟨by rw [HV.out], Lib.hid (HL.out.still (below_drewN (Below.refl _ _) _))⟩
        case rest =>
          obtain ⟨rfl, HC⟩ := hcut
          clear d0 d1 d2 d3 d4
          obtain ⟨d0, d1, d2, d3, d4⟩ := HC.out.s.some hlt HS.out
          cases r with
          | true =>
            obtain ⟨u, z, rfl, hj⟩ := joinF_yes HR.out
            rw [hj] at HNX
            obtain ⟨g, rfl⟩ : ∃ g, A = some ⟨g, 0, none⟩ := by
              rcases HC.out.m.2 with ⟨_, h0⟩ | ⟨g, cap, cur, hv, _⟩
              · simp at h0
              · injection hv with h1; exact ⟨g, h1⟩
            obtain ⟨fr, ⟨y0, y1, y2, y3, y4, y5⟩⟩ := HC.out.row
            have HE := Lib.hid (HC.out.end (4096 * ((k : Int) + 1)))
            have hz2 : ((u.length : Int) + 1) - 1 = (u.length : Int) := by omega
            rw [show (u ++ [z]).length = u.length + 1 by simp] at *
            clear hj HOUT HR HL
            go_wp2_with fail
            go_roundg (512 - (k + 1))
            case measure => omega
            case rel =>
              refine ⟨k + 1, c, some ⟨g, 0, none⟩, by omega, by omega, by omega, by go_num, ?_, Lib.hid ?_⟩
              · rw [HNX.out]; simp
              · rw [HNX.out]; simpa [pageAr] using HE.out
          | false =>
            have hj := joinF_no HR.out
            rw [hj] at HNX
            clear hj HOUT HR HL
            obtain ⟨x0, x1, x2, x3⟩ := x
            simp only at d0 d1 d2 d3 d4
            have SZ := Lib.hid HC.out.bel.size
            go_wp2_with (at_builtin; go_loud (refine wpList_append_own _ rfl (.tmp 55) (.tmp 70) _ rfl w.heap.size 35 i0 _ 6 48 Try.underlying22 HI0.out H0.out H1.out H2.out rfl (by omega) _ out.length _ rfl (World.ownsRow.alloc (World.ownsRow.alloc HC.out.m _) _) ⟨wc.heap.size + 1, 0, none⟩ 1 1 (Ar.cl (pageAr k ⟨x0, x1, x2, x3⟩)) rfl rfl (by have := new6 (wc.alloc (.cells #[.int .i64 x0, .bool x1, .int .i64 x2, .int .i64 x3] 39)) (pageAr k ⟨x0, x1, x2, x3⟩) 35; rwa [World.size_alloc] at this) (cl_one _) (by simp only [maxLen]; omega) (by omega) (by have := SZ.out; simp; omega) ?_; intro v' w2 hown' hg' _hnil; obtain ⟨A2, k2, rfl⟩ := own_slice hown'; have HO := Lib.hid hown'; have HGR := Lib.hid hg'; clear hown' hg' _hnil))
            go_roundg (512 - (k + 1))
            case measure => omega
            case rel =>
              refine ⟨k + 1, k2, A2, by omega, by omega, by omega, by go_num, ?_, Lib.hid ?_⟩
              · rw [HNX.out]; simp
              · rw [HNX.out]
                have := HC.out.more (only_grown (((Only.refl _ _).alloc _).alloc _) HGR.out (fun k hk => hk)) (mine_more (l := out) (l' := [pageAr k ⟨x0, x1, x2, x3⟩]) rfl (by rw [cls_single]; exact HO.out))
                simpa using this
    · obtain rfl : k = 512 := by omega
      go_wp2_with fail
      go_ret
      exact ⟨_, rfl, HL.out.m, HL.out.bel⟩
end Go.Proofs.Ytmppodobgkhojaa
