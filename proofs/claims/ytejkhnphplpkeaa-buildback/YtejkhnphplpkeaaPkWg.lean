/-
  Texts of our own, one behind the other (SlSame): what the laws' proofs rest on; each says at its head what it holds. No conditions.
-/
import Derived.Test.YtejkhnphplpkeaaPkWd
/-
  Layer 15: whether the reference takes two nodes for the same; what a program that does nothing does not answer; nodes of a size that is looked at.
-/
namespace Go.Proofs.Ytejkhnphplpkeaa
open Go.ChangeShapes Go.WideShapes Go.ChangeAt Go.RowKit
set_option linter.unusedVariables false

theorem nd_ext {a b : Nd} : a = b ↔ a.inner = b.inner ∧ a.lo = b.lo ∧ a.ends = b.ends ∧ a.slots = b.slots ∧ a.gaps = b.gaps := by
  obtain ⟨i, l, e, s, g⟩ := a
  obtain ⟨i', l', e', s', g'⟩ := b
  simp
/-- The first thing that is otherwise. -/
theorem nd_ways (a b : Nd) : (a.inner ≠ b.inner) ∨ (a.inner = b.inner ∧ a.lo ≠ b.lo) ∨ (a.inner = b.inner ∧ a.lo = b.lo ∧ a.ends ≠ b.ends) ∨ (a.inner = b.inner ∧ a.lo = b.lo ∧ a.ends = b.ends ∧ a.slots ≠ b.slots) ∨
    (a.inner = b.inner ∧ a.lo = b.lo ∧ a.ends = b.ends ∧ a.slots = b.slots) := by
  by_cases h1 : a.inner = b.inner
  · by_cases h2 : a.lo = b.lo
    · by_cases h3 : a.ends = b.ends
      · by_cases h4 : a.slots = b.slots
        · exact .inr (.inr (.inr (.inr ⟨h1, h2, h3, h4⟩)))
        · exact .inr (.inr (.inr (.inl ⟨h1, h2, h3, h4⟩)))
      · exact .inr (.inr (.inl ⟨h1, h2, h3⟩))
    · exact .inr (.inl ⟨h1, h2⟩)
  · exact .inl h1
theorem nums_wdsS {w : World} {q : Nat} {l : List Int} (h : Whole w q 2 (nums l)) : Wds w (.slice (some ⟨q, 0, none⟩) l.length l.length) l :=
  ⟨_, _, rfl, Nat.le_refl _, fun _ => ⟨q, 0, rfl, fun k hk => by rw [Nat.zero_add, h.cell k, nums_at l k hk]⟩⟩
set_option maxHeartbeats 8000000 in
theorem sameN_c {a b : Nd} {w : World} {x y z x' y' z' : Value} (ha : NdIn w a x y z) (hb : NdIn w b x' y' z') (he : a.ends.length ≤ 1000) (hs : a.slots.length ≤ 1000) (hg : a.gaps.length ≤ 1000) {r : Bool} (hr : Tells r (a = b)) :
    Calls Try.prog 24 #[a.val x y z, b.val x' y' z'] w fun e w' => e = .returned (.bool r) ∧ Below w.heap.size w w' := by
  have G := Lib.hid (((Bag.new w).add 34 (a.cells x y z)).add 34 (b.cells x' y' z'))
  have HA := Lib.hid (ha.still G.out.bel)
  have HB := Lib.hid (hb.still G.out.bel)
  obtain ⟨r1, h1⟩ := tells_any (a.ends = b.ends)
  obtain ⟨r2, h2⟩ := tells_any (a.slots = b.slots)
  obtain ⟨r3, h3⟩ := tells_any (a.gaps = b.gaps)
  have C1 : Hid (∀ W, NdIn W a x y z → NdIn W b x' y' z' → Calls Try.prog 47 #[x, x'] W fun e w' => e = .returned (.bool r1) ∧ Below W.heap.size W w') := Lib.hid (fun W p q => slSame_c p.we q.we h1 he)
  have C2 : Hid (∀ W, NdIn W a x y z → NdIn W b x' y' z' → Calls Try.prog 47 #[y, y'] W fun e w' => e = .returned (.bool r2) ∧ Below W.heap.size W w') := Lib.hid (fun W p q => slSame_c p.ws q.ws h2 hs)
  have C3 : Hid (∀ W, NdIn W a x y z → NdIn W b x' y' z' → Calls Try.prog 47 #[z, z'] W fun e w' => e = .returned (.bool r3) ∧ Below W.heap.size W w') := Lib.hid (fun W p q => slSame_c p.wg q.wg h3 hg)
  rw [World.size_alloc] at G
  rw [nd_ext] at hr
  have ways := nd_ways a b
  clear ha hb he hs hg
  rcases ways with k | ⟨k, k2⟩ | ⟨k, k2, k3⟩ | ⟨k, k2, k3, k4⟩ | ⟨k, k2, k3, k4⟩
  · have HR := Lib.hid (show false = r from (hr.no (fun f => k f.1)).symm)
    have kb : (a.inner == b.inner) = false := by simpa using k
    have kc : decide (a.inner = b.inner) = false := decide_eq_false k
    obtain ⟨A1, c1, rfl⟩ := HA.out.we.is
    obtain ⟨A2, c2, rfl⟩ := HA.out.ws.is
    obtain ⟨A3, c3, rfl⟩ := HA.out.wg.is
    obtain ⟨B1, e1, rfl⟩ := HB.out.we.is
    obtain ⟨B2, e2, rfl⟩ := HB.out.ws.is
    obtain ⟨B3, e3, rfl⟩ := HB.out.wg.is
    obtain ⟨d0, d1, d2, d3, d4⟩ := row5 G.out.v1
    obtain ⟨y0, y1, y2, y3, y4⟩ := row5 G.out.v0
    unfold Nd.val Nd.cells at *
    clear hr h1 h2 h3 C1 C2 C3
    obtain ⟨ai, al, ae, as_, ag⟩ := a
    obtain ⟨bi, bl, be, bs, bg⟩ := b
    simp only at *
    go_enter Try.func24, Try.ntmps24
    go_wp2_with fail
    go_ret
    exact ⟨says_bool HR.out, G.out.bel⟩
  · have HR := Lib.hid (show false = r from (hr.no (fun f => k2 f.2.1)).symm)
    have kb : (a.lo == b.lo) = false := by simpa using k2
    have kc : decide (a.lo = b.lo) = false := decide_eq_false k2
    obtain ⟨A1, c1, rfl⟩ := HA.out.we.is
    obtain ⟨A2, c2, rfl⟩ := HA.out.ws.is
    obtain ⟨A3, c3, rfl⟩ := HA.out.wg.is
    obtain ⟨B1, e1, rfl⟩ := HB.out.we.is
    obtain ⟨B2, e2, rfl⟩ := HB.out.ws.is
    obtain ⟨B3, e3, rfl⟩ := HB.out.wg.is
    obtain ⟨d0, d1, d2, d3, d4⟩ := row5 G.out.v1
    obtain ⟨y0, y1, y2, y3, y4⟩ := row5 G.out.v0
    unfold Nd.val Nd.cells at *
    clear hr h1 h2 h3 C1 C2 C3
    obtain ⟨ai, al, ae, as_, ag⟩ := a
    obtain ⟨bi, bl, be, bs, bg⟩ := b
    simp only at *
    subst k
    go_enter Try.func24, Try.ntmps24
    go_wp2_with fail
    go_ret
    exact ⟨says_bool HR.out, G.out.bel⟩
  · have HR := Lib.hid (show false = r from (hr.no (fun f => k3 f.2.2.1)).symm)
    obtain rfl : r1 = false := h1.no k3
    obtain ⟨A1, c1, rfl⟩ := HA.out.we.is
    obtain ⟨A2, c2, rfl⟩ := HA.out.ws.is
    obtain ⟨A3, c3, rfl⟩ := HA.out.wg.is
    obtain ⟨B1, e1, rfl⟩ := HB.out.we.is
    obtain ⟨B2, e2, rfl⟩ := HB.out.ws.is
    obtain ⟨B3, e3, rfl⟩ := HB.out.wg.is
    obtain ⟨d0, d1, d2, d3, d4⟩ := row5 G.out.v1
    obtain ⟨y0, y1, y2, y3, y4⟩ := row5 G.out.v0
    unfold Nd.val Nd.cells at *
    clear hr h1 h2 h3 C2 C3 k3
    obtain ⟨ai, al, ae, as_, ag⟩ := a
    obtain ⟨bi, bl, be, bs, bg⟩ := b
    simp only at *
    subst k
    subst k2
    go_enter Try.func24, Try.ntmps24
    go_wp2_with fail
    refine (C1.out _ HA.out HB.out).mono ?_
    rintro e w1 ⟨rfl, hb⟩
    have G := Lib.hid (G.out.still hb)
    have HA := Lib.hid (HA.out.still hb)
    have HB := Lib.hid (HB.out.still hb)
    clear hb C1 d0 d1 d2 d3 d4 y0 y1 y2 y3 y4
    obtain ⟨d0, d1, d2, d3, d4⟩ := row5 G.out.v1
    obtain ⟨y0, y1, y2, y3, y4⟩ := row5 G.out.v0
    go_wp2_with fail
    go_ret
    exact ⟨says_bool HR.out, G.out.bel⟩
  · have HR := Lib.hid (show false = r from (hr.no (fun f => k4 f.2.2.2.1)).symm)
    obtain rfl : r1 = true := h1.yes k3
    obtain rfl : r2 = false := h2.no k4
    obtain ⟨A1, c1, rfl⟩ := HA.out.we.is
    obtain ⟨A2, c2, rfl⟩ := HA.out.ws.is
    obtain ⟨A3, c3, rfl⟩ := HA.out.wg.is
    obtain ⟨B1, e1, rfl⟩ := HB.out.we.is
    obtain ⟨B2, e2, rfl⟩ := HB.out.ws.is
    obtain ⟨B3, e3, rfl⟩ := HB.out.wg.is
    obtain ⟨d0, d1, d2, d3, d4⟩ := row5 G.out.v1
    obtain ⟨y0, y1, y2, y3, y4⟩ := row5 G.out.v0
    unfold Nd.val Nd.cells at *
    clear hr h1 h2 h3 C3 k3 k4
    obtain ⟨ai, al, ae, as_, ag⟩ := a
    obtain ⟨bi, bl, be, bs, bg⟩ := b
    simp only at *
    subst k
    subst k2
    go_enter Try.func24, Try.ntmps24
    go_wp2_with fail
    refine (C1.out _ HA.out HB.out).mono ?_
    rintro e w1 ⟨rfl, hb⟩
    have G := Lib.hid (G.out.still hb)
    have HA := Lib.hid (HA.out.still hb)
    have HB := Lib.hid (HB.out.still hb)
    clear hb C1 d0 d1 d2 d3 d4 y0 y1 y2 y3 y4
    obtain ⟨d0, d1, d2, d3, d4⟩ := row5 G.out.v1
    obtain ⟨y0, y1, y2, y3, y4⟩ := row5 G.out.v0
    go_wp2_with fail
    refine (C2.out _ HA.out HB.out).mono ?_
    rintro e w2 ⟨rfl, hb⟩
    have G := Lib.hid (G.out.still hb)
    have HA := Lib.hid (HA.out.still hb)
    have HB := Lib.hid (HB.out.still hb)
    clear hb C2 d0 d1 d2 d3 d4 y0 y1 y2 y3 y4
    obtain ⟨d0, d1, d2, d3, d4⟩ := row5 G.out.v1
    obtain ⟨y0, y1, y2, y3, y4⟩ := row5 G.out.v0
    go_wp2_with fail
    go_ret
    exact ⟨says_bool HR.out, G.out.bel⟩
  · have HR := Lib.hid (show r3 = r from hr.is ⟨fun h => ⟨k, k2, k3, k4, h3.1 h⟩, fun f => h3.2 f.2.2.2.2⟩ |>.symm ▸ rfl)
    obtain rfl : r1 = true := h1.yes k3
    obtain rfl : r2 = true := h2.yes k4
    obtain ⟨A1, c1, rfl⟩ := HA.out.we.is
    obtain ⟨A2, c2, rfl⟩ := HA.out.ws.is
    obtain ⟨A3, c3, rfl⟩ := HA.out.wg.is
    obtain ⟨B1, e1, rfl⟩ := HB.out.we.is
    obtain ⟨B2, e2, rfl⟩ := HB.out.ws.is
    obtain ⟨B3, e3, rfl⟩ := HB.out.wg.is
    obtain ⟨d0, d1, d2, d3, d4⟩ := row5 G.out.v1
    obtain ⟨y0, y1, y2, y3, y4⟩ := row5 G.out.v0
    unfold Nd.val Nd.cells at *
    clear hr h1 h2 h3 k3 k4
    obtain ⟨ai, al, ae, as_, ag⟩ := a
    obtain ⟨bi, bl, be, bs, bg⟩ := b
    simp only at *
    subst k
    subst k2
    go_enter Try.func24, Try.ntmps24
    go_wp2_with fail
    refine (C1.out _ HA.out HB.out).mono ?_
    rintro e w1 ⟨rfl, hb⟩
    have G := Lib.hid (G.out.still hb)
    have HA := Lib.hid (HA.out.still hb)
    have HB := Lib.hid (HB.out.still hb)
    clear hb C1 d0 d1 d2 d3 d4 y0 y1 y2 y3 y4
    obtain ⟨d0, d1, d2, d3, d4⟩ := row5 G.out.v1
    obtain ⟨y0, y1, y2, y3, y4⟩ := row5 G.out.v0
    go_wp2_with fail
    refine (C2.out _ HA.out HB.out).mono ?_
    rintro e w2 ⟨rfl, hb⟩
    have G := Lib.hid (G.out.still hb)
    have HA := Lib.hid (HA.out.still hb)
    have HB := Lib.hid (HB.out.still hb)
    clear hb C2 d0 d1 d2 d3 d4 y0 y1 y2 y3 y4
    obtain ⟨d0, d1, d2, d3, d4⟩ := row5 G.out.v1
    obtain ⟨y0, y1, y2, y3, y4⟩ := row5 G.out.v0
    go_wp2_with fail
    refine (C3.out _ HA.out HB.out).mono ?_
    rintro e w3 ⟨rfl, hb⟩
    have G := Lib.hid (G.out.still hb)
    have HA := Lib.hid (HA.out.still hb)
    have HB := Lib.hid (HB.out.still hb)
    clear hb C3 d0 d1 d2 d3 d4 y0 y1 y2 y3 y4
    obtain ⟨d0, d1, d2, d3, d4⟩ := row5 G.out.v1
    obtain ⟨y0, y1, y2, y3, y4⟩ := row5 G.out.v0
    go_wp2_with fail
    go_ret
    exact ⟨says_bool HR.out, G.out.bel⟩

/-! What a program that does nothing does not answer. -/
def nd0 : Nd := ⟨false, 65536, [2097152], [0], [2031616]⟩
theorem nd0_formed : NdF nd0 :=
  ⟨⟨by decide, by decide, rfl, rfl⟩, by decide, rfl, fun i hi => by
    have hi : i < 1 := hi
    obtain rfl : i = 0 := by omega
    exact ⟨by decide, by decide, rfl, by decide⟩⟩
theorem nums_pack0 : nums (packN nd0) = nums (packN nd0) := rfl
theorem three_new (w : World) (p q r : List Int) : Wds (((w.alloc (.cells (nums p) 2)).alloc (.cells (nums q) 2)).alloc (.cells (nums r) 2)) (.slice (some ⟨w.heap.size, 0, none⟩) p.length p.length) p ∧
    Wds (((w.alloc (.cells (nums p) 2)).alloc (.cells (nums q) 2)).alloc (.cells (nums r) 2)) (.slice (some ⟨w.heap.size + 1, 0, none⟩) q.length q.length) q ∧
    Wds (((w.alloc (.cells (nums p) 2)).alloc (.cells (nums q) 2)).alloc (.cells (nums r) 2)) (.slice (some ⟨w.heap.size + 2, 0, none⟩) r.length r.length) r := by
  have h1 := Whole.new w 2 (nums p)
  have h2 := Whole.new (w.alloc (.cells (nums p) 2)) 2 (nums q)
  have h3 := Whole.new ((w.alloc (.cells (nums p) 2)).alloc (.cells (nums q) 2)) 2 (nums r)
  simp only [World.size_alloc] at h2 h3
  exact ⟨nums_wdsS ((h1.alloc _).alloc _), nums_wdsS (h2.alloc _), nums_wdsS h3⟩
/-- A node of a size that is looked at. -/
structure Few (n : Nd) : Prop where
  e : n.ends.length ≤ 20
  s : n.slots.length ≤ 20
  g : n.gaps.length ≤ 20
end Go.Proofs.Ytejkhnphplpkeaa
