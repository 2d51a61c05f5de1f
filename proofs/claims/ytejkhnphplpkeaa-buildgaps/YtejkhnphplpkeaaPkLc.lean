/-
  Texts of our own, one behind the other (ListRefL, ListMadeDo, ListLaw, ListHold): what the laws' proofs rest on; each says at its head what it holds. No conditions.
-/
import Derived.Test.YtejkhnphplpkeaaPkLb
import Derived.Test.YtejkhnphplpkeaaPkLa
import Derived.Deep.DeepCutAuto
import Derived.Deep.CutBlock
/-
  Layer 7: the reference's list of pages: a contract for the call.
-/
namespace Go.Proofs.Ytejkhnphplpkeaa
open Go.ChangeShapes Go.WideShapes Go.ChangeAt Go.RowKit Go.Shelf
set_option linter.unusedVariables false
attribute [local go_sem ↓] Go.wp_at_zero Go.wp_at_succ

theorem SpIn.some {w : World} {q : Nat} {s : Sp} (h : SpIn w q s) {p : Nat} (hp : p < 512) {x : At} (hz : s p = some x) : (w.cell? ⟨q, p * 5, none⟩ = some (.bool true) ∧ w.cell? ⟨q, p * 5 + 1, none⟩ = some (.int .i64 x.p) ∧ w.cell? ⟨q, p * 5 + 2, none⟩ = some (.bool x.sh) ∧ w.cell? ⟨q, p * 5 + 3, none⟩ = some (.int .i64 x.bk) ∧ w.cell? ⟨q, p * 5 + 4, none⟩ = some (.int .i64 x.off)) := by
  have c := fun j hj => h.cells hp j hj
  rw [hz] at c
  exact ⟨c 0 (by omega), c 1 (by omega), c 2 (by omega), c 3 (by omega), c 4 (by omega)⟩
/-- What the call has: the pages, and the list so far. -/
structure LsAt (w wr : World) (s : Sp) (v : Value) (out : List Ar) : Prop where
  s : SpIn wr w.heap.size s
  m : Mine w.heap.size wr v out
  bel : Below w.heap.size w wr
section
variable {w wr w' : World} {s : Sp} {v v' : Value} {out out' : List Ar}
theorem LsAt.still (h : LsAt w wr s v out) (hb : Below wr.heap.size wr w') : LsAt w w' s v out :=
  ⟨Whole.below h.s hb (Whole.lt h.s), h.m.still hb, h.bel.trans (hb.mono h.bel.size)⟩
theorem LsAt.apart (h : LsAt w wr s v out) : v.ownBlock ≠ some w.heap.size := own_apart h.m h.s (by decide)
theorem LsAt.more (h : LsAt w wr s v out) (ho : Only (fun k => v.ownBlock = some k) wr w') (hm : Mine w.heap.size w' v' out') : LsAt w w' s v' out' :=
  ⟨Whole.only h.s ho h.apart, hm, h.bel.trans (ho.below (fun k hk => (h.m.lt k hk).1) h.bel.size)⟩
theorem LsAt.row {g n c : Nat} {u : List Ar} {z : Ar} (h : LsAt w wr s (.slice (some ⟨g, 0, none⟩) n c) (u ++ [z])) : wr.frozen? ⟨g, u.length * 6 + 1, none⟩ = false ∧ AreaAt wr g (u.length * 6) z := by
  have hAr := h.m.areas
  rcases h.m.2 with ⟨h0, _⟩ | ⟨g', cap, cur, hv, hb, hh, _⟩
  · cases h0
  · injection hv with h1
    injection h1 with h1
    injection h1 with h1
    subst h1
    refine ⟨Whole.frozen (t := 74) hh _, ?_⟩
    rcases hAr with h0 | ⟨b, off, hb', _, hc⟩
    · simp at h0
    · injection hb' with hb'
      injection hb' with hb1 hb2
      subst hb1 hb2
      have := hc u.length (by simp)
      simpa using this
theorem LsAt.end {g n c : Nat} {u : List Ar} {z : Ar} (h : LsAt w wr s (.slice (some ⟨g, 0, none⟩) n c) (u ++ [z])) (y : Int) : LsAt w (wr.setCell ⟨g, u.length * 6 + 1, none⟩ (.int .i64 y)) s (.slice (some ⟨g, 0, none⟩) n c) (u ++ [{ z with e := y }]) :=
  h.more ((Only.refl _ _).setCell (.inl (by simp [Value.ownBlock])) _) (h.m.end y)
end

theorem listTo_low {s : Sp} {n : Nat} (h : n ≤ 16) : listTo s n = [] := by
  have : pagesTo s n = [] := by
    induction n with
    | zero => rfl
    | succ n ih => rw [pagesTo, ih (by omega), if_neg (by omega)]; rfl
  unfold listTo; rw [this]; rfl
/-- Whether the last one goes on. -/
def goesB (out : List Ar) (a : Ar) : Bool := match out.getLast? with | none => false | some z => decide (GoesA z a)
theorem joinF_no {out : List Ar} {a : Ar} (h : goesB out a = false) : joinF out a = out ++ [a] := by
  unfold goesB at h
  unfold joinF
  cases hl : out.getLast? with
  | none => rw [List.getLast?_eq_none_iff.1 hl]; rfl
  | some z => rw [hl] at h; simp only at h ⊢; rw [if_neg (of_decide_eq_false h)]
theorem joinF_yes {out : List Ar} {a : Ar} (h : goesB out a = true) : ∃ u z, out = u ++ [z] ∧ joinF out a = u ++ [{ z with e := a.e }] := by
  unfold goesB at h
  unfold joinF
  cases hl : out.getLast? with
  | none => rw [hl] at h; cases h
  | some z =>
    rw [hl] at h
    simp only at h ⊢
    exact ⟨_, z, last_split hl, by rw [if_pos (of_decide_eq_true h)]⟩

set_option maxRecDepth 100000 in
set_option maxHeartbeats 4000000 in
theorem refList_any (s : Sp) (hg : GoodS s) (w : World) :
    Calls Try.prog 57 #[.agg (spc s)] w fun e w' => ∃ v, e = .returned v ∧ Mine w.heap.size w' v (listTo s 512) ∧ Below w.heap.size w w' := by
  obtain ⟨i0, hi0, hz0, hz1, hz2⟩ := info_parts area_info
  have HI0 : Hid (Try.prog.info? 74 = some i0) := Lib.hid hi0
  have H0 : Hid (i0.zero = some Ar.nil.v) := Lib.hid hz0
  have H1 : Hid (i0.size = 6) := Lib.hid hz1
  have H2 : Hid (i0.bytes = 48) := Lib.hid hz2
  clear hi0 hz0 hz1 hz2
  have HG := Lib.hid hg
  clear hg
  have L0 : Hid (LsAt w (w.alloc (.cells (spc s) 114)) s (.slice none 0 0) []) := Lib.hid ⟨Whole.new _ _ _, Mine.nil _ _, below_new _ _⟩
  go_enter Try.func57, Try.ntmps57
  go_wp2_with fail
  generalize w.alloc _ = W0 at *
  go_loopg [3, 4, 5, 6] 512 (fun g s3 s4 _ _ wr => ∃ (k c : Nat) (A : Option Addr), 16 ≤ k ∧ k ≤ 512 ∧ 512 - k ≤ g ∧ s4 = .int .i64 k ∧ s3 = .slice A (listTo s k).length c ∧ Hid (LsAt w wr s (.slice A (listTo s k).length c) (listTo s k)))
  case atStart =>
    refine ⟨16, 0, none, by omega, by omega, by omega, rfl, ?_, ?_⟩
    · rw [listTo_low (by omega)]; rfl
    · rw [listTo_low (by omega)]; exact L0
  case round =>
    obtain ⟨k, c, A, hk0, hk1, hgk, rfl, rfl, HL⟩ := hrel
    by_cases hlt : k < 512
    · have hz1 : (k : Int) < 512 := by omega
      have hz0 : (0 : Int) ≤ (k : Int) := by omega
      cases hs : s k with
      | none =>
        obtain ⟨⟨d0, d1, d2, d3, d4⟩, fz⟩ := HL.out.s.five hlt hs
        go_wp2_with fail
        go_roundg (512 - (k + 1))
        case measure => omega
        case rel =>
          rw [← listTo_skip (.inl hs)] at HL ⊢
          exact ⟨k + 1, c, A, by omega, by omega, by omega, by go_num, rfl, HL⟩
      | some x =>
        obtain ⟨d0, d1, d2, d3, d4⟩ := HL.out.s.some hlt hs
        have hnx := listTo_next hk0 hs
        have hlen := listTo_len (s := s) k
        obtain ⟨r, hr⟩ : ∃ r, goesB (listTo s k) (pageAr k x) = r := ⟨_, rfl⟩
        have HR := Lib.hid hr
        have HNX := Lib.hid hnx
        have HS := Lib.hid hs
        clear hr hnx hs
        generalize hout : listTo s k = out at *
        have HOUT := Lib.hid hout
        clear hout
        go_upto_region 7 with (fail)
        go_cut [42] (fun s42 wc => s42 = .bool r ∧ Hid (LsAt w wc s (.slice A out.length c) out))
        case first =>
          cases hla : out.getLast? with
          | none =>
            obtain rfl : out = [] := List.getLast?_eq_none_iff.1 hla
            have HV : Hid (r = false) := Lib.hid (by rw [← HR.out]; rfl)
            clear d0 d1 d2 d3 d4
            simp only [List.length_nil] at *
            go_wp2_with fail
            go_quiet (fail)
            go_wp2_with fail
            go_meet
            exact ⟨by rw [HV.out], Lib.hid (HL.out.still (below_drewN (Below.refl _ _) _))⟩
          | some z =>
            have hsp := last_split hla
            have HB : Hid (r = decide (GoesA z (pageAr k x))) := Lib.hid (by rw [← HR.out, goesB, hla])
            have HZF : Hid (Formed z) := Lib.hid (by
              have hj := listTo_joined HG.out (n := k) (by omega)
              rw [HOUT.out] at hj
              exact right_formed hj.right z (by rw [hsp]; simp))
            have HLP : Hid (z.e = 4096 * (k : Int) → ∃ m x, k = m + 1 ∧ s m = some x ∧ z.at (m : Int) = x) := Lib.hid (last_page HG.out hlt hk0 (by rw [HOUT.out]; exact hla))
            generalize out.dropLast = u at *
            subst hsp
            clear hla
            obtain ⟨g, rfl⟩ : ∃ g, A = some ⟨g, 0, none⟩ := by
              rcases HL.out.m.2 with ⟨_, h0⟩ | ⟨g, cap, cur, hv, _⟩
              · simp at h0
              · injection hv with h1; exact ⟨g, h1⟩
            obtain ⟨fr, hrow⟩ := HL.out.row
            have y1 := hrow.c1
            have HLS := Lib.hid (fun W h => HL.out.still (w' := W) h)
            rw [show (u ++ [z]).length = u.length + 1 by simp] at *
            have j0 : (0 : Int) ≤ (u.length : Int) := by omega
            have j1 : (u.length : Int) < (u.length : Int) + 1 := by omega
            have j2 : ((u.length : Int) + 1) - 1 = (u.length : Int) := by omega
            have j3 : IntKind.i64.wrap (u.length : Int) = (u.length : Int) := by rw [IntKind.wrap_i64]; omega
            have j4 : IntKind.i64.wrap (4096 * (k : Int)) = 4096 * (k : Int) := by rw [IntKind.wrap_i64]; omega
            by_cases he : z.e = 4096 * (k : Int)
            · obtain ⟨m, xp, rfl, hsm, hzm⟩ := HLP.out he
              obtain ⟨f0, f1, f2, f3, f4⟩ := HL.out.s.some (p := m) (by omega) hsm
              have gx := HG.out _ _ HS.out
              have gp := HG.out _ _ hsm
              have HT : Hid (Tells r (AfterA xp x)) := Lib.hid (by
                rw [HB.out]
                have h1 := after_goes HZF.out (page_formed gx hk0 hlt) he
                have e1 : (pageAr (m + 1) x).s / 4096 = ((m + 1 : Nat) : Int) := by simp only [pageAr]; omega
                rw [e1, page_at gx, show ((m + 1 : Nat) : Int) - 1 = (m : Int) by omega, hzm] at h1
                simp only [Tells, decide_eq_true_eq]
                exact h1.symm)
              have XA := Lib.hid (refAfter_any xp x (by unfold Good at gp; omega) (by unfold Good at gp; omega) HT.out)
              have j5 : IntKind.i64.wrap (m : Int) = (m : Int) := by rw [IntKind.wrap_i64]; omega
              have j6 : (0 : Int) ≤ (m : Int) := by omega
              have j7 : (m : Int) < 512 := by omega
              have j8 : (0 : Int) ≤ (m : Int) + 1 := by omega
              have j9 : (m : Int) + 1 < 512 := by omega
              push_cast at *
              have HE := Lib.hid he
              rw [HE.out] at y1
              have hd : decide ((4096 : Int) * ((m : Int) + 1) = 4096 * ((m : Int) + 1)) = true := by simp
              have HK : Hid (∀ W, Below wr.heap.size wr W → (W.cell? ⟨g, u.length * 6 + 1, none⟩ = some (.int .i64 (4096 * ((m : Int) + 1))) ∧ W.cell? ⟨w.heap.size, m * 5 + 1, none⟩ = some (.int .i64 xp.p) ∧ W.cell? ⟨w.heap.size, m * 5 + 2, none⟩ = some (.bool xp.sh) ∧ W.cell? ⟨w.heap.size, m * 5 + 3, none⟩ = some (.int .i64 xp.bk) ∧ W.cell? ⟨w.heap.size, m * 5 + 4, none⟩ = some (.int .i64 xp.off) ∧
                  W.cell? ⟨w.heap.size, (m + 1) * 5 + 1, none⟩ = some (.int .i64 x.p) ∧ W.cell? ⟨w.heap.size, (m + 1) * 5 + 2, none⟩ = some (.bool x.sh) ∧ W.cell? ⟨w.heap.size, (m + 1) * 5 + 3, none⟩ = some (.int .i64 x.bk) ∧ W.cell? ⟨w.heap.size, (m + 1) * 5 + 4, none⟩ = some (.int .i64 x.off))) := Lib.hid (fun W h => by
                obtain ⟨_, hrow'⟩ := (HLS.out W h).row
                obtain ⟨_, q1, q2, q3, q4⟩ := (HLS.out W h).s.some (p := m) (by omega) hsm
                obtain ⟨_, r1, r2, r3, r4⟩ := (HLS.out W h).s.some (p := m + 1) (by omega) HS.out
                have := hrow'.c1
                rw [HE.out] at this
                exact ⟨this, q1, q2, q3, q4, r1, r2, r3, r4⟩)
              clear he hrow d0 d1 d2 d3 d4 f0 f1 f2 f3 f4 y1 gx gp hsm hzm fr
              obtain ⟨x0, x1, x2, x3⟩ := x
              obtain ⟨p0, p1, p2, p3⟩ := xp
              simp only [At.v] at XA HK
              go_wp2_with fail
              go_region_held3 (fun W => W.cell? ⟨g, u.length * 6 + 1, none⟩ = some (.int .i64 (4096 * ((m : Int) + 1))) ∧ W.cell? ⟨w.heap.size, m * 5 + 1, none⟩ = some (.int .i64 p0) ∧ W.cell? ⟨w.heap.size, m * 5 + 2, none⟩ = some (.bool p1) ∧ W.cell? ⟨w.heap.size, m * 5 + 3, none⟩ = some (.int .i64 p2) ∧ W.cell? ⟨w.heap.size, m * 5 + 4, none⟩ = some (.int .i64 p3) ∧
                  W.cell? ⟨w.heap.size, (m + 1) * 5 + 1, none⟩ = some (.int .i64 x0) ∧ W.cell? ⟨w.heap.size, (m + 1) * 5 + 2, none⟩ = some (.bool x1) ∧ W.cell? ⟨w.heap.size, (m + 1) * 5 + 3, none⟩ = some (.int .i64 x2) ∧ W.cell? ⟨w.heap.size, (m + 1) * 5 + 4, none⟩ = some (.int .i64 x3))
                (first | exact HK.out _ (below_drew (Below.refl _ _)) | exact HK.out _ B2.out)
                (first
                | (go_at_call 68; refine (XA.out _).mono ?_; rintro e w2 ⟨rfl, hb2⟩; have B2 : Hid (Below wr.heap.size wr w2) := Lib.hid (below_of_drew hb2); clear hb2))
              go_wp2_with fail
              go_meet
              exact ⟨rfl, Lib.hid (HLS.out _ B2.out)⟩
            · have HV : Hid (r = false) := Lib.hid (by rw [HB.out, decide_eq_false]; intro hg; exact he hg.at')
              have hd : decide (z.e = 4096 * (k : Int)) = false := by simp [he]
              clear d0 d1 d2 d3 d4 hrow
              go_wp2_with fail
              go_quiet (fail)
              go_wp2_with fail
              go_meet
              exact ⟨by rw [HV.out], Lib.hid (HL.out.still (below_drewN (Below.refl _ _) _))⟩
        case rest =>
          obtain ⟨rfl, HC⟩ := hcut
          clear d0 d1 d2 d3 d4
          obtain ⟨d0, d1, d2, d3, d4⟩ := HC.out.s.some hlt HS.out
          cases r with
          | true =>
            obtain ⟨u, z, rfl, hj⟩ := joinF_yes HR.out
            rw [hj] at HNX
            obtain ⟨g, rfl⟩ : ∃ g, A = some ⟨g, 0, none⟩ := by
              rcases HC.out.m.2 with ⟨_, h0⟩ | ⟨g, cap, cur, hv, _⟩
              · simp at h0
              · injection hv with h1; exact ⟨g, h1⟩
            obtain ⟨fr, ⟨y0, y1, y2, y3, y4, y5⟩⟩ := HC.out.row
            have HE := Lib.hid (HC.out.end (4096 * ((k : Int) + 1)))
            have hz2 : ((u.length : Int) + 1) - 1 = (u.length : Int) := by omega
            rw [show (u ++ [z]).length = u.length + 1 by simp] at *
            clear hj HOUT HR HL
            go_wp2_with fail
            go_roundg (512 - (k + 1))
            case measure => omega
            case rel =>
              refine ⟨k + 1, c, some ⟨g, 0, none⟩, by omega, by omega, by omega, by go_num, ?_, Lib.hid ?_⟩
              · rw [HNX.out]; simp
              · rw [HNX.out]; simpa [pageAr] using HE.out
          | false =>
            have hj := joinF_no HR.out
            rw [hj] at HNX
            clear hj HOUT HR HL
            obtain ⟨x0, x1, x2, x3⟩ := x
            simp only at d0 d1 d2 d3 d4
            have SZ := Lib.hid HC.out.bel.size
            go_wp2_with (at_builtin; go_loud (refine wpList_append_own _ rfl (.tmp 55) (.tmp 70) _ rfl w.heap.size 74 i0 _ 6 48 Try.underlying22 HI0.out H0.out H1.out H2.out rfl (by omega) _ out.length _ rfl (World.ownsRow.alloc (World.ownsRow.alloc HC.out.m _) _) ⟨wc.heap.size + 1, 0, none⟩ 1 1 (Ar.cl (pageAr k ⟨x0, x1, x2, x3⟩)) rfl rfl (by have := new6 (wc.alloc (.cells #[.int .i64 x0, .bool x1, .int .i64 x2, .int .i64 x3] 110)) (pageAr k ⟨x0, x1, x2, x3⟩) 74; rwa [World.size_alloc] at this) (cl_one _) (by simp only [maxLen]; omega) (by omega) (by have := SZ.out; simp; omega) ?_; intro v' w2 hown' hg' _hnil; obtain ⟨A2, k2, rfl⟩ := own_slice hown'; have HO := Lib.hid hown'; have HGR := Lib.hid hg'; clear hown' hg' _hnil))
            go_roundg (512 - (k + 1))
            case measure => omega
            case rel =>
              refine ⟨k + 1, k2, A2, by omega, by omega, by omega, by go_num, ?_, Lib.hid ?_⟩
              · rw [HNX.out]; simp
              · rw [HNX.out]
                have := HC.out.more (only_grown (((Only.refl _ _).alloc _).alloc _) HGR.out (fun k hk => hk)) (mine_more (l := out) (l' := [pageAr k ⟨x0, x1, x2, x3⟩]) rfl (by rw [cls_single]; exact HO.out))
                simpa using this
    · obtain rfl : k = 512 := by omega
      go_wp2_with fail
      go_ret
      exact ⟨_, rfl, HL.out.m, HL.out.bel⟩
end Go.Proofs.Ytejkhnphplpkeaa

/-
  Layer 7: areas that are put one by one, by pages: a contract for the call.
-/
namespace Go.Proofs.Ytejkhnphplpkeaa
open Go.ChangeShapes Go.WideShapes Go.ChangeAt Go.RowKit Go.Shelf
set_option linter.unusedVariables false

/-- The pages so far. -/
structure MdAt (w wr : World) (s : Sp) : Prop where
  s : SpIn wr w.heap.size s
  bel : Below w.heap.size w wr
theorem MdAt.still {w wr w' : World} {s : Sp} (h : MdAt w wr s) (hb : Below wr.heap.size wr w') : MdAt w w' s := ⟨Whole.below h.s hb (Whole.lt h.s), h.bel.trans (hb.mono h.bel.size)⟩
/-- While one area's pages are laid. -/
structure MxAt (w wr : World) (q : Nat) (s t : Sp) : Prop where
  m : MdAt w wr s
  t : SpIn wr q t
  ne : w.heap.size < q
theorem MdAt.with {w wr w' : World} {s : Sp} (h : MdAt w wr s) (hb : Below wr.heap.size wr w') (t : Sp) :
    MxAt w ((w'.alloc (.cells Try.zeroCells114 114)).setCells w'.heap.size 0 (spl t 512)) w'.heap.size s t := by
  have h1 := (h.still hb).still (below_new w' (.cells Try.zeroCells114 114))
  have hz : SpIn (w'.alloc (.cells Try.zeroCells114 114)) w'.heap.size (fun _ => none) := by
    rw [zero_spc]; exact Whole.new _ _ _
  have hlt : w.heap.size < w'.heap.size := Whole.lt (h.still hb).s
  have ho := only_many (q := w'.heap.size) (spl t 512) 0 (w'.alloc (.cells Try.zeroCells114 114))
  exact ⟨⟨Whole.only h1.s ho (by omega), h1.bel.trans (ho.below (fun k hk => by omega) h1.bel.size)⟩, hz.all, hlt⟩
/-- Pages of t in place of those of s, ahead of one. -/
def mix (s t : Sp) (n : Nat) : Sp := fun p => if p < n ∧ (t p).isSome then t p else s p
theorem mix_zero (s t : Sp) : mix s t 0 = s := by funext p; unfold mix; rw [if_neg (by omega)]
theorem mix_none {s t : Sp} {n : Nat} (h : t n = none) : mix s t (n + 1) = mix s t n := by
  funext p
  unfold mix
  by_cases hp : p = n
  · subst hp; rw [h, if_neg (by simp), if_neg (by simp)]
  · by_cases hlt : p < n
    · simp [hlt, show p < n + 1 by omega]
    · simp [hlt, show ¬ p < n + 1 by omega]
theorem mix_some {s t : Sp} {n : Nat} {x : At} (h : t n = some x) : (mix s t n).put n (some x) = mix s t (n + 1) := by
  funext p
  unfold Sp.put mix
  by_cases hp : p = n
  · subst hp; rw [if_pos rfl, if_pos ⟨by omega, by rw [h]; rfl⟩, h]
  · rw [if_neg hp]
    by_cases hlt : p < n
    · simp [hlt, show p < n + 1 by omega]
    · simp [hlt, show ¬ p < n + 1 by omega]
theorem MxAt.put {w wr : World} {q : Nat} {s t : Sp} (h : MxAt w wr q s t) {p : Nat} (hp : p < 512) (x : At) :
    MxAt w (((((wr.setCell ⟨w.heap.size, p * 5, none⟩ (.bool true)).setCell ⟨w.heap.size, p * 5 + 1, none⟩ (.int .i64 x.p)).setCell ⟨w.heap.size, p * 5 + 2, none⟩ (.bool x.sh)).setCell ⟨w.heap.size, p * 5 + 3, none⟩ (.int .i64 x.bk)).setCell ⟨w.heap.size, p * 5 + 4, none⟩ (.int .i64 x.off)) q (s.put p (some x)) t := by
  have hne := h.ne
  refine ⟨⟨h.m.s.put hp x, ?_⟩, ?_, hne⟩
  · exact ((((h.m.bel.setCell (by simp) _).setCell (by simp) _).setCell (by simp) _).setCell (by simp) _).setCell (by simp) _
  · exact Whole.far (Whole.far (Whole.far (Whole.far (Whole.far h.t (by simp; omega) _) (by simp; omega) _) (by simp; omega) _) (by simp; omega) _) (by simp; omega) _
theorem sp_is {w : World} {q : Nat} {s : Sp} (h : SpIn w q s) {p : Nat} (hp : p < 512) : (∃ a b c d e, w.cell? ⟨q, p * 5, none⟩ = some a ∧ w.cell? ⟨q, p * 5 + 1, none⟩ = some b ∧ w.cell? ⟨q, p * 5 + 2, none⟩ = some c ∧ w.cell? ⟨q, p * 5 + 3, none⟩ = some d ∧ w.cell? ⟨q, p * 5 + 4, none⟩ = some e) ∧ ∀ i, w.frozen? ⟨q, i, none⟩ = false := by
  refine ⟨?_, Whole.frozen h⟩
  cases hs : s p with
  | none => obtain ⟨⟨h0, h1, h2, h3, h4⟩, _⟩ := h.five hp hs; exact ⟨_, _, _, _, _, h0, h1, h2, h3, h4⟩
  | some x => obtain ⟨h0, h1, h2, h3, h4⟩ := h.some hp hs; exact ⟨_, _, _, _, _, h0, h1, h2, h3, h4⟩
theorem mix_all (l : List Ar) (a : Ar) (hf : Formed a) {p : Nat} (hp : p < 512) : mix (madeS l) (spA a) 512 p = putS (madeS l) a p := by
  unfold mix spA putS
  rw [if_pos hf]
  by_cases hc : Cov a p
  · simp [hc, hp]
  · simp [hc]

set_option maxRecDepth 100000 in
set_option maxHeartbeats 4000000 in
theorem made_any (A : Option Addr) (c : Nat) (l : List Ar) (hl : l.length ≤ 40) (hc : l.length ≤ c) (w : World) (hA : Areas w.heap.size w A l) :
    Calls Try.prog 35 #[.slice A l.length c] w fun e w' => ∃ v, e = .returned v ∧ Mine w.heap.size w' v (madeL l) ∧ Below w.heap.size w w' := by
  have HA := Lib.hid hA
  have L0 : Hid (MdAt w (w.alloc (.cells Try.zeroCells114 114)) (madeS (l.take 0))) := Lib.hid ⟨by rw [zero_spc]; exact Whole.new _ _ _, below_new _ _⟩
  clear hA
  generalize hL : l.length = len at *
  have HLen := Lib.hid hL
  clear hL
  go_enter Try.func35, Try.ntmps35
  go_wp2_with fail
  generalize w.alloc _ = W0 at *
  go_loopg [4, 5, 6] 40 (fun g s4 _ _ wr => ∃ k : Nat, k ≤ len ∧ 40 - k ≤ g ∧ s4 = .int .i64 k ∧ Hid (MdAt w wr (madeS (l.take k))))
  case atStart => exact ⟨0, by omega, by omega, rfl, L0⟩
  case round =>
    obtain ⟨k, hk, hgk, rfl, HM⟩ := hrel
    by_cases hlt : k < len
    · have hltz : (k : Int) < (len : Int) := by omega
      have hlt40 : (k : Int) < 40 := by omega
      have hz0 : (0 : Int) ≤ (k : Int) := by omega
      have hz1 : (k : Int) ≤ (k : Int) + 1 := by omega
      have hz2 : (k : Int) + 1 ≤ (c : Int) := by omega
      have hlk : k < l.length := by rw [HLen.out]; exact hlt
      rcases HA.out with hn | ⟨b, off, rfl, hb, hcs⟩
      · rw [hn] at hlk; simp at hlk
      have HT : Hid (madeS (l.take (k + 1)) = putS (madeS (l.take k)) l[k]) := Lib.hid (by rw [List.take_succ_eq_append_getElem hlk, madeS_snoc])
      have HAT := Lib.hid (fun W h => (hcs k hlk).below (w' := W) h hb)
      have X := Lib.hid (refFormed_any l[k])
      have Y : Hid (Formed l[k] → ∀ (cc : Nat) (W : World), Below w.heap.size w W → Calls Try.prog 56 #[.slice (some ⟨b, off + k * 6, none⟩) 1 cc] W fun e w' => e = .returned (.agg (spc (spA l[k]))) ∧ Below W.heap.size W w') := Lib.hid (fun hf cc W h => of_any l[k] hf b (off + k * 6) cc W (Nat.lt_of_lt_of_le hb h.size) ((hcs k hlk).below h hb))
      obtain ⟨c0, c1, c2, c3, c4, c5⟩ := HAT.out wr HM.out.bel
      generalize hx : l[k] = x at *
      clear hx hcs
      by_cases hf : Formed x
      · rw [decide_eq_true hf] at X
        have HF := Lib.hid hf
        have HPS := Lib.hid (fun (p : Nat) (hp : p < 512) => mix_all (l.take k) x hf hp)
        clear hf
        generalize hs : madeS (l.take k) = s at *
        clear hs
        obtain ⟨x0, x1, x2, x3, x4, x5⟩ := x
        simp only [Ar.v] at c0 c1 c2 c3 c4 c5 X
        go_wp2_with fail
        refine (X.out _).mono ?_
        rintro e w1 ⟨rfl, hb1⟩
        have M1 := Lib.hid (HM.out.still hb1)
        have B1 := Lib.hid hb1
        clear hb1 c0 c1 c2 c3 c4 c5 X
        go_wp2_with fail
        refine (Y.out HF.out _ w1 M1.out.bel).mono ?_
        rintro e w2 ⟨rfl, hb2⟩
        have MX := Lib.hid (M1.out.with hb2 (spA ⟨x0, x1, x2, x3, x4, x5⟩))
        have TH : Hid ((w2.alloc (.cells Try.zeroCells114 114)).there w2.heap.size 0 (spl (spA ⟨x0, x1, x2, x3, x4, x5⟩) 512).toArray.size) := Lib.hid (SpIn.there (s := fun _ => none) (by rw [zero_spc]; exact Whole.new _ _ _))
        clear hb2 Y
        generalize ht : spA ⟨x0, x1, x2, x3, x4, x5⟩ = t at *
        clear ht
        go_wp2_with (refine wpList_store_mid rfl 114 (.tmp 5) (.tmp 28) (by rfl) w2.heap.size 0 (spl t 512).toArray (by rfl) (by rfl) TH.out (space_size' _) (spl_one _ _) ?_)
        generalize hq : w2.heap.size = q at *
        clear hq TH
        generalize World.setCells _ _ _ _ = W1 at *
        go_loopg [6] 512 (fun g s6 wr => ∃ n : Nat, n ≤ 512 ∧ 512 - n ≤ g ∧ s6 = .int .i64 n ∧ Hid (MxAt w wr q (mix s t n) t))
        case atStart => exact ⟨0, by omega, by omega, rfl, by rw [mix_zero]; exact MX⟩
        case round =>
          obtain ⟨n, hn, hgn, rfl, HX⟩ := hrel
          by_cases hn5 : n < 512
          · have hn5z : (n : Int) < 512 := by omega
            have hn0 : (0 : Int) ≤ (n : Int) := by omega
            obtain ⟨⟨o0, o1, o2, o3, o4, e0, e1, e2, e3, e4⟩, fz⟩ := sp_is HX.out.m.s hn5
            cases hto : t n with
            | none =>
              obtain ⟨⟨d0, d1, d2, d3, d4⟩, _⟩ := HX.out.t.five hn5 hto
              go_wp2_with fail
              go_roundg (512 - (n + 1))
              case measure => omega
              case rel => exact ⟨n + 1, by omega, by omega, by go_num, by rw [mix_none hto]; exact HX⟩
            | some y =>
              obtain ⟨d0, d1, d2, d3, d4⟩ := HX.out.t.some hn5 hto
              have HMS := Lib.hid (mix_some (s := s) hto)
              have HP := Lib.hid (HX.out.put hn5 y)
              obtain ⟨y0, y1, y2, y3⟩ := y
              simp only at d0 d1 d2 d3 d4 HP
              clear hto
              go_wp2_with fail
              go_roundg (512 - (n + 1))
              case measure => omega
              case rel => exact ⟨n + 1, by omega, by omega, by go_num, by rw [← HMS.out]; exact HP⟩
          · obtain rfl : n = 512 := by omega
            go_wp2_with fail
            go_roundg (40 - (k + 1))
            case measure => omega
            case rel =>
              refine ⟨k + 1, by omega, by omega, by go_num, Lib.hid ⟨?_, HX.out.m.bel⟩⟩
              have := HX.out.m.s
              unfold SpIn at this ⊢
              rw [HT.out, spc_same (s' := mix s t 512) (fun p hp => (HPS.out p hp).symm)]
              exact this
      · rw [decide_eq_false hf] at X
        have HP : Hid (putS (madeS (l.take k)) x = madeS (l.take k)) := Lib.hid (by unfold putS; rw [if_neg hf])
        clear hf
        obtain ⟨x0, x1, x2, x3, x4, x5⟩ := x
        simp only [Ar.v] at c0 c1 c2 c3 c4 c5 X
        go_wp2_with fail
        refine (X.out _).mono ?_
        rintro e w1 ⟨rfl, hb1⟩
        have M1 := Lib.hid (HM.out.still hb1)
        clear hb1 c0 c1 c2 c3 c4 c5
        go_wp2_with fail
        go_roundg (40 - (k + 1))
        case measure => omega
        case rel => exact ⟨k + 1, by omega, by omega, by go_num, by rw [HT.out, HP.out]; exact M1⟩
    · obtain rfl : k = len := by omega
      have hlt' : ¬ (k : Int) < (k : Int) := by omega
      have HF : Hid (madeS (l.take k) = madeS l) := Lib.hid (by rw [← HLen.out, List.take_length])
      have X := Lib.hid (refList_any (madeS l) (madeS_good l))
      rw [HF.out] at HM
      go_wp2_with (refine wpList_load_mid rfl 114 (.tmp 3) (by rfl) w.heap.size 0 (by rfl) (spl (madeS l) 512) _ HM.out.s.range Try.underlying114 rfl (space_size _) ?_)
      have X1 : Hid (Calls Try.prog 57 #[.agg (spl (madeS l) 512).toArray] wr fun e w' => ∃ v, e = .returned v ∧ Mine wr.heap.size w' v (listTo (madeS l) 512) ∧ Below wr.heap.size wr w') := Lib.hid (X.out wr)
      refine X1.out.mono ?_
      rintro e w1 ⟨v, rfl, hm, hb1⟩
      have HMM := Lib.hid hm
      have B1 := Lib.hid hb1
      clear hm hb1
      go_wp2_with fail
      go_ret
      refine ⟨v, rfl, ?_, below_then HM.out.bel B1.out (Nat.le_refl _)⟩
      unfold madeL
      rw [top_eq]
      exact HMM.out.base HM.out.bel.size
end Go.Proofs.Ytejkhnphplpkeaa

/-
  Layer 7: what a program that does nothing does not answer; lists that are the same.
-/
namespace Go.Proofs.Ytejkhnphplpkeaa
open Go.ChangeShapes Go.WideShapes Go.ChangeAt Go.RowKit Go.Shelf
set_option linter.unusedVariables false

theorem right_one {a : Ar} (h : Formed a) : RightL [a] := ⟨ok_nil h, trivial⟩
theorem two_formed : Formed ⟨65536, 73728, 0, false, 0, 0⟩ := (formed_iff _).2 (by simp)
theorem put_nil {a : Ar} {y : List Ar} (hf : Formed a) (h : PutIn [] a y) : y = [a] := by
  refine right_unique h.1 (right_one hf) fun p => ?_
  rw [h.2]; rfl

end Go.Proofs.Ytejkhnphplpkeaa

/-
  Layer 7: lists as the laws have them: what each call answers, as one list.
-/
namespace Go.Proofs.Ytejkhnphplpkeaa
open Go.ChangeShapes Go.WideShapes Go.ChangeAt Go.RowKit Go.Shelf
set_option linter.unusedVariables false

open Classical in
/-- The list with an area put. -/
noncomputable def putC (X : List Ar) (a : Ar) : List Ar := if h : ∃ y, PutIn X a y then Classical.choose h else []
open Classical in
/-- The list with a range set. -/
noncomputable def setC (lo hi pr : Int) (X : List Ar) : List Ar := if h : ∃ y, SetIn lo hi pr X y then Classical.choose h else []
theorem putC_is {X : List Ar} {a : Ar} (hX : RightL X) (ha : Formed a) : PutIn X a (putC X a) := by
  have h : ∃ y, PutIn X a y := by
    obtain ⟨h1, h2, h3⟩ := put_apart hX ha
    have hs : ∃ l', (outsideL a.s a.e X ++ [a]).Perm l' ∧ l'.Pairwise (fun a b => a.s ≤ b.s) :=
      ⟨(outsideL a.s a.e X ++ [a]).mergeSort (fun a b => decide (a.s ≤ b.s)), (List.mergeSort_perm _ _).symm, by
        have := List.pairwise_mergeSort (le := fun a b : Ar => decide (a.s ≤ b.s)) (by intro a b c; simp; omega) (by intro a b; simp; omega) (outsideL a.s a.e X ++ [a])
        exact this.imp (fun h => by simpa using h)⟩
    obtain ⟨l', hp, hs⟩ := hs
    obtain ⟨j1, j2⟩ := joined_perm h1 h2 hp hs
    exact ⟨_, j1, fun p => (j2 p).trans (h3 p)⟩
  unfold putC
  rw [dif_pos h]
  exact Classical.choose_spec h
theorem putC_eq {X : List Ar} {a : Ar} {y : List Ar} (hX : RightL X) (ha : Formed a) (h : PutIn X a y) : y = putC X a := by
  have h2 := putC_is hX ha
  exact right_unique h.1 h2.1 fun p => by rw [h.2, h2.2]
theorem setC_is {X : List Ar} {lo hi pr : Int} (hX : RightL X) (h0 : 0 ≤ pr) (h7 : pr ≤ 7) : SetIn lo hi pr X (setC lo hi pr X) := by
  have h : ∃ y, SetIn lo hi pr X y := by
    obtain ⟨h1, h2, h3⟩ := set_apart (lo := lo) (hi := hi) hX h0 h7
    have hs : ∃ l', (setL lo hi pr X).Perm l' ∧ l'.Pairwise (fun a b => a.s ≤ b.s) :=
      ⟨(setL lo hi pr X).mergeSort (fun a b => decide (a.s ≤ b.s)), (List.mergeSort_perm _ _).symm, by
        have := List.pairwise_mergeSort (le := fun a b : Ar => decide (a.s ≤ b.s)) (by intro a b c; simp; omega) (by intro a b; simp; omega) (setL lo hi pr X)
        exact this.imp (fun h => by simpa using h)⟩
    obtain ⟨l', hp, hs⟩ := hs
    obtain ⟨j1, j2⟩ := joined_perm h1 h2 hp hs
    exact ⟨_, j1, fun p => (j2 p).trans (h3 p)⟩
  unfold setC
  rw [dif_pos h]
  exact Classical.choose_spec h
theorem setC_eq {X : List Ar} {lo hi pr : Int} {y : List Ar} (hX : RightL X) (h0 : 0 ≤ pr) (h7 : pr ≤ 7) (h : SetIn lo hi pr X y) : y = setC lo hi pr X := by
  have h2 := setC_is (lo := lo) (hi := hi) hX h0 h7
  exact right_unique h.1 h2.1 fun p => by rw [h.2, h2.2]

/-! What each call answers. -/
section
variable {w : World} {v v' : Value} {X : List Ar}
theorem made_c (h : Holds w v X) (hl : X.length ≤ 40) : Calls Try.prog 35 #[v] w fun e w' => ∃ v', e = .returned v' ∧ Holds w' v' (madeL X) ∧ Below w.heap.size w w' := by
  obtain ⟨A, c, rfl, hc, hA⟩ := h
  exact (made_any A c X hl hc w hA).mono fun e w' ⟨v', he, hm, hb⟩ => ⟨v', he, hm.holds, hb⟩
end

/-! What follows. -/
section
variable {X : List Ar} {a b : Ar}
theorem putC_right (hX : RightL X) (ha : Formed a) : RightL (putC X a) := (putC_is hX ha).1
theorem touch_cov (ha : Formed a) (p : Int) : Touch a.s a.e p ↔ Cov a p := by
  have := formed_num ha
  unfold Touch Cov; omega
theorem undone_cut (hX : RightL X) (ha : Formed a) : outsideL a.s a.e (putC X a) = outsideL a.s a.e X := by
  refine right_unique (outside_right _ _ (putC_right hX ha)) (outside_right _ _ hX) fun p => ?_
  rw [outside_tab _ _ (putC_right hX ha), outside_tab _ _ hX, (putC_is hX ha).2]
  by_cases h : Touch a.s a.e p
  · rw [if_pos h, if_pos h]
  · rw [if_neg h, if_neg h, if_neg (fun hc => h ((touch_cov ha p).2 hc))]
theorem undone_put (hX : RightL X) (ha : Formed a) : putC (outsideL a.s a.e X) a = putC X a := by
  have hC := outside_right a.s a.e hX
  refine right_unique (putC_right hC ha) (putC_right hX ha) fun p => ?_
  rw [(putC_is hC ha).2, (putC_is hX ha).2, outside_tab _ _ hX]
  by_cases h : Cov a p
  · rw [if_pos h, if_pos h]
  · rw [if_neg h, if_neg h, if_neg (fun ht => h ((touch_cov ha p).1 ht))]
theorem twice_put (hX : RightL X) (ha : Formed a) : putC (putC X a) a = putC X a := by
  have hP := putC_right hX ha
  refine right_unique (putC_right hP ha) hP fun p => ?_
  rw [(putC_is hP ha).2, (putC_is hX ha).2]
  by_cases h : Cov a p
  · rw [if_pos h, if_pos h]
  · rw [if_neg h, if_neg h]
theorem twice_cut (hX : RightL X) (lo hi : Int) : outsideL lo hi (outsideL lo hi X) = outsideL lo hi X := by
  have hC := outside_right lo hi hX
  refine right_unique (outside_right _ _ hC) hC fun p => ?_
  rw [outside_tab _ _ hC, outside_tab _ _ hX]
  by_cases h : Touch lo hi p
  · rw [if_pos h, if_pos h]
  · rw [if_neg h]
theorem setC_right (hX : RightL X) (lo hi : Int) {pr : Int} (h0 : 0 ≤ pr) (h7 : pr ≤ 7) : RightL (setC lo hi pr X) := (setC_is hX h0 h7).1
theorem twice_set (hX : RightL X) (lo hi : Int) {pr : Int} (h0 : 0 ≤ pr) (h7 : pr ≤ 7) : setC lo hi pr (setC lo hi pr X) = setC lo hi pr X := by
  have hS := setC_right hX lo hi h0 h7
  refine right_unique (setC_right hS lo hi h0 h7) hS fun p => ?_
  rw [(setC_is hS h0 h7).2, (setC_is hX h0 h7).2]
  by_cases h : Touch lo hi p
  · rw [if_pos h, if_pos h]
    cases tab X p <;> rfl
  · rw [if_neg h]
theorem apart_put (hX : RightL X) (ha : Formed a) (hb : Formed b) (hd : Disj a b) : putC (putC X a) b = putC (putC X b) a := by
  have hP := putC_right hX ha
  have hQ := putC_right hX hb
  refine right_unique (putC_right hP hb) (putC_right hQ ha) fun p => ?_
  rw [(putC_is hP hb).2, (putC_is hX ha).2, (putC_is hQ ha).2, (putC_is hX hb).2]
  by_cases h1 : Cov a p
  · rw [if_neg (hd p h1), if_pos h1, if_pos h1]
  · rw [if_neg h1, if_neg h1]
theorem apart_sum (ha : Formed a) (hb : Formed b) (hd : Disj a b) : sumL (putC (putC [] a) b) = (a.e - a.s) + (b.e - b.s) := by
  have hP := putC_right (X := []) trivial ha
  have hR := putC_right hP hb
  have h2 : (∀ x ∈ [a, b], Formed x) := fun x hx => by
    rcases List.mem_cons.1 hx with rfl | hx
    · exact ha
    · obtain rfl := List.mem_singleton.1 hx; exact hb
  have h3 : [a, b].Pairwise Disj := by simp [hd]
  rw [sum_same (right_formed hR) (right_disj hR) h2 h3 fun p => ?_]
  · simp [sumL]
  · rw [(putC_is hP hb).2, (putC_is (X := []) trivial ha).2]
    simp only [tab]
    by_cases h1 : Cov a p
    · rw [if_neg (hd p h1), if_pos h1, if_pos h1]
    · rw [if_neg h1, if_neg h1]
theorem disj_apart (ha : Formed a) (hb : Formed b) (h : ¬ (a.s < b.e ∧ b.s < a.e)) : Disj a b := fun p h1 h2 => by
  unfold Cov at h1 h2; omega
theorem puts_made (hX : RightL X) (ha : Formed a) : madeL (X ++ [a]) = putC X a := by
  refine right_same (madeL_right _) (putC_right hX ha) fun p => ?_
  rw [madeL_tab, madeS_snoc, (putC_is hX ha).2]
  unfold putS
  rw [if_pos ha]
  by_cases h : Cov a p
  · rw [if_pos h, if_pos h]
  · rw [if_neg h, if_neg h, madeS_right hX]
end
end Go.Proofs.Ytejkhnphplpkeaa
