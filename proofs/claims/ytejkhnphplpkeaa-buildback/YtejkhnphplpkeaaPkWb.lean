/-
  Texts of our own, one behind the other (SlNode, SlPack): what the laws' proofs rest on; each says at its head what it holds. No conditions.
-/
import Derived.Test.YtejkhnphplpkeaaPkWa
import Derived.Deep.RegionHeld3
/-
  Layer 15: whether a node is formed: a contract for each call.
-/
namespace Go.Proofs.Ytejkhnphplpkeaa
open Go.ChangeShapes Go.WideShapes Go.ChangeAt Go.RowKit
set_option linter.unusedVariables false

theorem row5 {w : World} {q : Nat} {t : TypeId} {a b c d e : Value} (h : Whole w q t #[a, b, c, d, e]) : w.cell? ⟨q, 0, none⟩ = some a ∧ w.cell? ⟨q, 1, none⟩ = some b ∧ w.cell? ⟨q, 2, none⟩ = some c ∧ w.cell? ⟨q, 3, none⟩ = some d ∧ w.cell? ⟨q, 4, none⟩ = some e :=
  ⟨h.cell 0, h.cell 1, h.cell 2, h.cell 3, h.cell 4⟩
theorem counted_iff (n : Nd) : n.Counted ↔ 1 ≤ n.ends.length ∧ n.ends.length ≤ 8 ∧ n.slots.length = n.ends.length ∧ n.gaps.length = n.ends.length :=
  ⟨fun ⟨a, b, c, d⟩ => ⟨a, b, c, d⟩, fun ⟨a, b, c, d⟩ => ⟨a, b, c, d⟩⟩
set_option maxHeartbeats 2000000 in
theorem counted_c {n : Nd} {w : World} {e s g : Value} (h : NdIn w n e s g) {r : Bool} (hr : Tells r n.Counted) : Calls Try.prog 82 #[n.val e s g] w fun e w' => e = .returned (.bool r) ∧ Below w.heap.size w w' := by
  obtain ⟨A, c, rfl⟩ := h.we.is
  obtain ⟨A', c', rfl⟩ := h.ws.is
  obtain ⟨A'', c'', rfl⟩ := h.wg.is
  rw [counted_iff] at hr
  have HR := Lib.hid hr
  clear hr h
  unfold Nd.val
  generalize n.ends.length = x at *
  generalize n.slots.length = y at *
  generalize n.gaps.length = z at *
  go_enter Try.func82, Try.ntmps82
  go_wp2
  all_goals
    go_ret
    refine ⟨says_bool (HR.out.is ⟨fun h => ?_, fun h => ?_⟩), below_new _ _⟩
    · simp at h
      all_goals omega
    · simp
      all_goals omega

set_option maxHeartbeats 2000000 in
theorem holds_c (inner : Bool) (h x len : Int) {r : Bool} (hr : Tells r (holdsE inner h x len)) (w : World) : Calls Try.prog 83 #[.bool inner, .int .i64 h, .int .i64 x, .int .i64 len] w fun e w' => e = .returned (.bool r) ∧ w = w' := by
  have HR := Lib.hid hr
  clear hr
  unfold holdsE at HR
  cases inner with
  | true =>
    rw [if_pos rfl] at HR
    go_enter Try.func83, Try.ntmps83
    go_wp2
    all_goals
      go_ret
      refine ⟨says_bool (HR.out.is ⟨fun h => ?_, fun h => ?_⟩), rfl⟩
      · simp at h
        all_goals omega
      · simp
        all_goals omega
  | false =>
    rw [if_neg (by simp)] at HR
    by_cases h0 : h = 0
    · subst h0
      rw [if_pos rfl] at HR
      go_enter Try.func83, Try.ntmps83
      go_wp2
      all_goals
        go_ret
        refine ⟨says_bool (HR.out.is ⟨fun h => ?_, fun h => ?_⟩), rfl⟩
        · simp at h
          all_goals omega
        · simp
          all_goals omega
    · rw [if_neg h0] at HR
      go_enter Try.func83, Try.ntmps83
      go_wp2
      all_goals
        go_ret
        refine ⟨says_bool (HR.out.is ⟨fun h => ?_, fun h => ?_⟩), rfl⟩
        · simp at h
          all_goals omega
        · simp
          all_goals omega

theorem Nd.at_succ (n : Nd) (k : Nat) : n.at (k + 1) = nth n.ends k := by simp [Nd.at]
set_option maxHeartbeats 8000000 in
theorem formed_c {n : Nd} {w : World} {e s g : Value} (h : NdIn w n e s g) {r : Bool} (hr : Tells r (NdF n)) : Calls Try.prog 77 #[n.val e s g] w fun e w' => e = .returned (.bool r) ∧ Below w.heap.size w w' := by
  have G := Lib.hid ((Bag.new w).add 34 (n.cells e s g))
  have HI := Lib.hid (h.still G.out.bel)
  by_cases hc : n.Counted
  · have CC := Lib.hid (counted_c HI.out (r := true) ⟨fun _ => hc, fun _ => rfl⟩)
    by_cases hlo : 65536 ≤ n.lo
    · by_cases hpg : n.lo.tmod 4096 = 0
      · have HT := Lib.hid (show (∀ i, i < n.ends.length → n.Ent i) → true = r from fun h => (hr.yes ⟨hc, hlo, hpg, h⟩).symm)
        have HF := Lib.hid (show ∀ k, k < n.ends.length → ¬ n.Ent k → false = r from fun k hk h => (hr.no (fun f => h (f.ent k hk))).symm)
        have a0 : n.at 0 = n.lo := rfl
        have HS := Lib.hid n.at_succ
        have HB := Lib.hid (show ∀ k, k ≤ n.ends.length → (∀ i, i < k → n.Ent i) → 65536 ≤ n.at k from fun k => by
          induction k with
          | zero => intro _ _; exact hlo
          | succ k ih =>
            intro hk he
            have := ih (by omega) (fun i hi => he i (by omega))
            have := (he k (by omega)).up
            rw [HS.out]
            omega)
        have HN := Lib.hid (show ∀ k, n.Ent k ↔ n.at k < nth n.ends k ∧ nth n.ends k ≤ 2097152 ∧ (nth n.ends k).tmod 4096 = 0 ∧ holdsE n.inner (nth n.slots k) (nth n.gaps k) (nth n.ends k - n.at k) from fun k => ⟨fun ⟨a, b, c, d⟩ => ⟨a, b, c, d⟩, fun ⟨a, b, c, d⟩ => ⟨a, b, c, d⟩⟩)
        have h8 := hc.few
        have h1 := hc.one
        have hsl := hc.sl
        have hgl := hc.gl
        obtain ⟨A, c, rfl, hcc, hA⟩ := h.we
        obtain ⟨A', c', rfl, hcc', hA'⟩ := h.ws
        obtain ⟨A'', c'', rfl, hcc'', hA''⟩ := h.wg
        obtain ⟨b, off, rfl, ca⟩ := hA (by omega)
        obtain ⟨b', off', rfl, ca'⟩ := hA' (by omega)
        obtain ⟨b'', off'', rfl, ca''⟩ := hA'' (by omega)
        rw [hsl] at ca' hcc'
        rw [hgl] at ca'' hcc''
        have CA : Hid (∀ W, Below w.heap.size w W → ∀ k, k < n.ends.length → W.cell? ⟨b, off + k, none⟩ = some (.int .i64 (nth n.ends k)) ∧ W.cell? ⟨b', off' + k, none⟩ = some (.int .i64 (nth n.slots k)) ∧ W.cell? ⟨b'', off'' + k, none⟩ = some (.int .i64 (nth n.gaps k))) := Lib.hid (fun W hb k hk => by
          have e1 := ca k hk
          have e2 := ca' k hk
          have e3 := ca'' k hk
          refine ⟨?_, ?_, ?_⟩
          · rw [hb.cell (p := ⟨b, off + k, none⟩) (World.block_lt_of_cell? w _ e1)]; exact e1
          · rw [hb.cell (p := ⟨b', off' + k, none⟩) (World.block_lt_of_cell? w _ e2)]; exact e2
          · rw [hb.cell (p := ⟨b'', off'' + k, none⟩) (World.block_lt_of_cell? w _ e3)]; exact e3)
        rw [hsl, hgl] at *
        clear hr hc ca ca' ca'' hA hA' hA'' HI h hsl hgl
        unfold Nd.val Nd.cells at *
        obtain ⟨inner, lo, ends, slots, gaps⟩ := n
        simp only at *
        generalize Nd.at _ = at_ at *
        generalize ends.length = K at *
        have hK0 : ¬ (K : Int) < 1 := by omega
        go_enter Try.func77, Try.ntmps77
        go_wp2_with fail
        refine CC.out.mono ?_
        rintro e w1 ⟨rfl, hb⟩
        have G := Lib.hid (G.out.still hb)
        obtain ⟨d0, d1, d2, d3, d4⟩ := row5 G.out.v0
        clear hb CC
        go_wp2_with fail
        go_loopg [3, 4, 5, 25] K (fun g s3 _ _ s25 wr => ∃ k m : Nat, k ≤ K ∧ K - k ≤ g ∧ s25 = .int .i64 k ∧ s3 = .int .i64 (at_ k) ∧ wr = w1.drewN m ∧ Hid (∀ i, i < k → Nd.Ent ⟨inner, lo, ends, slots, gaps⟩ i))
        case atStart => exact ⟨0, 0, by omega, by omega, rfl, by rw [a0], rfl, Lib.hid (fun i hi => by omega)⟩
        case round =>
          obtain ⟨k, m, hk, hg, rfl, rfl, rfl, HK⟩ := hrel
          clear a0
          by_cases hlt : k < K
          · have hz1 : (k : Int) < (K : Int) := by omega
            have hz0 : (0 : Int) ≤ (k : Int) := by omega
            have hzw : IntKind.i64.wrap (k : Int) = (k : Int) := by rw [IntKind.wrap_i64]; omega
            obtain ⟨c0, c1, c2⟩ := CA.out w1 G.out.bel k hlt
            have b0 := HB.out k hk HK.out
            have HNk := Lib.hid (HN.out k)
            have HFk := Lib.hid (HF.out k hlt)
            have HA1 := Lib.hid (HS.out k)
            have HK1 : Hid (Nd.Ent ⟨inner, lo, ends, slots, gaps⟩ k → ∀ i, i < k + 1 → Nd.Ent ⟨inner, lo, ends, slots, gaps⟩ i) := Lib.hid (fun e i hi => by
              by_cases h : i = k
              · rw [h]; exact e
              · exact HK.out i (by omega))
            clear HN HF HS HB HK
            generalize nth ends k = x at *
            generalize nth slots k = h at *
            generalize nth gaps k = y at *
            generalize hfr : at_ k = fr at *
            by_cases t1 : fr < x
            · have t1' : ¬ x ≤ fr := by omega
              have t1d : decide (x ≤ fr) = false := decide_eq_false t1'
              by_cases t2 : x ≤ 2097152
              · have hx0 : 0 ≤ x := by omega
                have hxm : x.tmod 4096 = x % 4096 := tmod_up hx0
                have hws : IntKind.i64.wrap (x - fr) = x - fr := by rw [IntKind.wrap_i64]; omega
                by_cases t3 : x % 4096 = 0
                · have t3' : x.tmod 4096 = 0 := by rw [hxm]; exact t3
                  obtain ⟨r', hr'⟩ := tells_any (holdsE inner h y (x - fr))
                  have CH := Lib.hid (holds_c inner h y (x - fr) hr')
                  cases r' with
                  | true =>
                    have HK2 := Lib.hid (HK1.out (HNk.out.2 ⟨t1, t2, t3', hr'.1 rfl⟩))
                    clear hr' HNk HFk HK1 hfr
                    go_wp2_with fail
                    go_quiet ((go_at_call 83; exact (CH.out _).mono fun _ _ ⟨he, hm⟩ => ⟨he, _, hm.symm⟩))
                    go_wp2_with fail
                    go_roundg (K - (k + 1))
                    case measure => omega
                    case rel => exact ⟨k + 1, _, by omega, by omega, by go_num, by rw [HA1.out], rfl, HK2⟩
                  | false =>
                    have HF2 := Lib.hid (HFk.out (fun e => by
                      have := hr'.2 (HNk.out.1 e).2.2.2
                      cases this))
                    clear hr' HNk HFk HK1 hfr
                    go_wp2_with fail
                    go_quiet ((go_at_call 83; exact (CH.out _).mono fun _ _ ⟨he, hm⟩ => ⟨he, _, hm.symm⟩))
                    go_wp2_with fail
                    go_ret
                    exact ⟨says_bool HF2.out, (below_drewN (below_drewN G.out.bel _) _)⟩
                · have HF2 := Lib.hid (HFk.out (fun e => t3 (by rw [← hxm]; exact (HNk.out.1 e).2.2.1)))
                  have t3b : (x % 4096 != 0) = true := by simpa using t3
                  clear HNk HFk HK1 hfr
                  go_wp2_with fail
                  go_ret
                  exact ⟨says_bool HF2.out, (below_drewN G.out.bel _)⟩
              · have HF2 := Lib.hid (HFk.out (fun e => t2 (HNk.out.1 e).2.1))
                clear HNk HFk HK1 hfr
                go_wp2_with fail
                go_ret
                exact ⟨says_bool HF2.out, (below_drewN G.out.bel _)⟩
            · have HF2 := Lib.hid (HFk.out (fun e => t1 (HNk.out.1 e).1))
              have t1' : x ≤ fr := by omega
              clear HNk HFk HK1 hfr
              go_wp2_with fail
              go_ret
              exact ⟨says_bool HF2.out, (below_drewN G.out.bel _)⟩
          · obtain rfl : k = K := by omega
            have HT2 := Lib.hid (HT.out HK.out)
            go_wp2_with fail
            go_ret
            exact ⟨says_bool HT2.out, below_drewN G.out.bel _⟩
      · have hr' := Lib.hid (show false = r from (hr.no (fun f => hpg f.pg)).symm)
        obtain ⟨A, c, rfl⟩ := h.we.is
        obtain ⟨A', c', rfl⟩ := h.ws.is
        obtain ⟨A'', c'', rfl⟩ := h.wg.is
        clear hr hc HI h
        unfold Nd.val Nd.cells at *
        obtain ⟨inner, lo, ends, slots, gaps⟩ := n
        simp only at *
        have hlm : lo.tmod 4096 = lo % 4096 := tmod_up (by omega)
        have hpg2 : ¬ lo % 4096 = 0 := by rw [← hlm]; exact hpg
        have hpg3 : (lo % 4096 != 0) = true := by simpa using hpg2
        go_enter Try.func77, Try.ntmps77
        go_wp2_with fail
        refine CC.out.mono ?_
        rintro e w1 ⟨rfl, hb⟩
        have G := Lib.hid (G.out.still hb)
        obtain ⟨d0, d1, d2, d3, d4⟩ := row5 G.out.v0
        clear hb CC
        go_wp2_with fail
        go_ret
        exact ⟨says_bool hr'.out, G.out.bel⟩
    · have hr' := Lib.hid (show false = r from (hr.no (fun f => hlo f.lo)).symm)
      obtain ⟨A, c, rfl⟩ := h.we.is
      obtain ⟨A', c', rfl⟩ := h.ws.is
      obtain ⟨A'', c'', rfl⟩ := h.wg.is
      clear hr hc HI h
      unfold Nd.val Nd.cells at *
      obtain ⟨inner, lo, ends, slots, gaps⟩ := n
      simp only at *
      go_enter Try.func77, Try.ntmps77
      go_wp2_with fail
      refine CC.out.mono ?_
      rintro e w1 ⟨rfl, hb⟩
      have G := Lib.hid (G.out.still hb)
      obtain ⟨d0, d1, d2, d3, d4⟩ := row5 G.out.v0
      clear hb CC
      go_wp2_with fail
      go_ret
      exact ⟨says_bool hr'.out, G.out.bel⟩
  · have CC := Lib.hid (counted_c HI.out (r := false) ⟨(fun h => by cases h), fun h => absurd h hc⟩)
    have hr' := Lib.hid (show false = r from (hr.no (fun f => hc f.cnt)).symm)
    obtain ⟨A, c, rfl⟩ := h.we.is
    obtain ⟨A', c', rfl⟩ := h.ws.is
    obtain ⟨A'', c'', rfl⟩ := h.wg.is
    clear hr hc HI h
    unfold Nd.val Nd.cells at *
    obtain ⟨inner, lo, ends, slots, gaps⟩ := n
    simp only at *
    go_enter Try.func77, Try.ntmps77
    go_wp2_with fail
    refine CC.out.mono ?_
    rintro e w1 ⟨rfl, hb⟩
    have G := Lib.hid (G.out.still hb)
    clear hb CC
    go_wp2_with fail
    go_ret
    exact ⟨says_bool hr'.out, G.out.bel⟩
end Go.Proofs.Ytejkhnphplpkeaa

/-
  Layer 15: a node's words, and its greatest gap: a contract for each call.
-/
namespace Go.Proofs.Ytejkhnphplpkeaa
open Go.ChangeShapes Go.WideShapes Go.ChangeAt Go.RowKit
set_option linter.unusedVariables false

set_option maxHeartbeats 2000000 in
theorem first_c {n : Nd} {w : World} {e s g : Value} (h : NdIn w n e s g) (hk : n.ends.length ≤ 8) : Calls Try.prog 98 #[n.val e s g] w fun e w' => e = .returned (.int .i64 n.first) ∧ Below w.heap.size w w' := by
  obtain ⟨A, c, rfl⟩ := h.we.is
  obtain ⟨A', c', rfl⟩ := h.ws.is
  obtain ⟨A'', c'', rfl⟩ := h.wg.is
  clear h
  unfold Nd.val Nd.first
  obtain ⟨inner, lo, ends, slots, gaps⟩ := n
  simp only at *
  generalize ends.length = K at *
  have h1 : IntKind.i64.wrap (16 * (K : Int)) = 16 * (K : Int) := by rw [IntKind.wrap_i64]; omega
  have h2 : IntKind.i64.wrap (1 + 16 * (K : Int)) = 1 + 16 * (K : Int) := by rw [IntKind.wrap_i64]; omega
  have h3 : IntKind.i64.wrap (2 + 16 * (K : Int)) = 2 + 16 * (K : Int) := by rw [IntKind.wrap_i64]; omega
  cases inner with
  | true =>
    go_enter Try.func98, Try.ntmps98
    go_wp2
    go_ret
    exact ⟨rfl, below_new _ _⟩
  | false =>
    go_enter Try.func98, Try.ntmps98
    go_wp2
    go_ret
    exact ⟨rfl, below_new _ _⟩

theorem holdsE_gap {inner : Bool} {h x len : Int} (H : holdsE inner h x len) (hl : 0 < len) : 0 ≤ x := by
  unfold holdsE at H
  by_cases hi : inner = true
  · rw [if_pos hi] at H; omega
  · rw [if_neg hi] at H
    by_cases h0 : h = 0
    · rw [if_pos h0] at H; omega
    · rw [if_neg h0] at H; omega
theorem NdF.gap0 {n : Nd} (h : NdF n) (i : Nat) (hi : i < n.ends.length) : 0 ≤ nth n.gaps i := by
  have e := h.ent i hi
  have := e.up
  exact holdsE_gap e.ok (by omega)
set_option maxHeartbeats 2000000 in
theorem slLargest_c {n : Nd} {w : World} {e s g : Value} (h : NdIn w n e s g) {r : Bool} (hr : Tells r (NdF n)) (hk : n.gaps.length ≤ 1000) : Calls Try.prog 65 #[n.val e s g] w fun e w' => e = .returned (.int .i64 (if r = true then mx n.gaps n.gaps.length else 0)) ∧ Below w.heap.size w w' := by
  have G := Lib.hid ((Bag.new w).add 34 (n.cells e s g))
  have HI := Lib.hid (h.still G.out.bel)
  have CF := Lib.hid (formed_c HI.out hr)
  cases r with
  | true =>
    have hf := hr.1 rfl
    have g0 : 0 ≤ nth n.gaps 0 := hf.gap0 0 (by have := hf.cnt.one; omega)
    have hl : 0 < n.gaps.length := by have := hf.cnt.gl; have := hf.cnt.one; omega
    have CM : Hid (∀ W, Wds W g n.gaps → Calls Try.prog 78 #[g] W fun e w' => e = .returned (.int .i64 (mx n.gaps n.gaps.length)) ∧ w' = W) := Lib.hid (fun W h => max_c h hl hk g0)
    have HG := Lib.hid HI.out.wg
    clear hr hf g0 hl HI h
    unfold Nd.val Nd.cells at *
    simp only [if_true]
    generalize mx n.gaps n.gaps.length = M at *
    go_enter Try.func65, Try.ntmps65
    go_wp2_with fail
    refine CF.out.mono ?_
    rintro e w1 ⟨rfl, hb⟩
    have G := Lib.hid (G.out.still hb)
    have HG := Lib.hid (HG.out.still hb)
    obtain ⟨d0, d1, d2, d3, d4⟩ := row5 G.out.v0
    clear hb CF
    go_wp2_with fail
    refine (CM.out _ HG.out).mono ?_
    rintro e w2 ⟨rfl, rfl⟩
    go_wp2_with fail
    go_ret
    exact ⟨rfl, G.out.bel⟩
  | false =>
    clear hr HI h
    unfold Nd.val Nd.cells at *
    go_enter Try.func65, Try.ntmps65
    go_wp2_with fail
    refine CF.out.mono ?_
    rintro e w1 ⟨rfl, hb⟩
    have G := Lib.hid (G.out.still hb)
    clear hb CF
    go_wp2_with fail
    go_ret
    exact ⟨rfl, G.out.bel⟩

/-! What is put side by side. -/
section
variable {P : Program}
theorem Mw.lit (w : World) (base : Nat) (l : List Int) (hb : base ≤ w.heap.size) (hl : l.length ≤ 1000) : Mw base (w.alloc (.cells (nums l) 2)) (.slice (some ⟨w.heap.size, 0, none⟩) l.length l.length) l := by
  have h := World.ownsRow_lit (e := 2) (size := 1) (base := base) w (nums l) l.length hb (by simp only [maxLen]; omega) (by rw [nums_size]; omega)
  unfold Mw
  simpa [nums] using h
end
/-- A row that is known, behind whatever is appended to it: its own block is the call's. -/
theorem Mw.blk {base : Nat} {w : World} {v : Value} {l : List Int} (h : Mw base w v l) : ∀ k, v.ownBlock = some k → base ≤ k := fun k hk => (World.ownsRow.lt h k hk).1
theorem Whole.app {base b : Nat} {w w' : World} {v : Value} {l : List Int} {t : TypeId} {cs : Array Value} (h : Whole w b t cs) (m : Mw base w v l) (hg : w.grownBy w' v.ownBlock) (ht : 2 ≠ t) : Whole w' b t cs :=
  h.grown hg (fun e => own_apart m h ht e.symm)
theorem below_app {base : Nat} {w0 w w' : World} {v : Value} {l : List Int} (hb : Below base w0 w) (m : Mw base w v l) (hg : w.grownBy w' v.ownBlock) (h0 : base ≤ w.heap.size) : Below base w0 w' :=
  hb.grown hg h0 m.blk
theorem wpList_app {P : Program} {i0 : TypeInfo} (hi0 : P.info? 2 = some i0) (hz0 : i0.zero = some (.int .i64 0)) (hz1 : i0.size = 1) (hz2 : i0.bytes = 8) (ht : P.underlying 27 = some (.slice 2))
    {w : World} {ops : Array Oper} {rest : List Oper} {o : Oper} {a : Act} {Q : Exit → Act → World → Prop} (hgd : o.guard = none) (s x : Operand) (ho : o.op = .call { callee := .builtin .append, args := #[s, x], argTypes := #[27, 27] })
    (base : Nat) (v : Value) (l : List Int) (hs : a.eval s = v) (hown : Mw base w v l) (b off c : Nat) (m : Nat) (xs : List Int) (hm : xs.length = m) (hx : a.eval x = .slice (some ⟨b, off, none⟩) m c)
    (hc : ∀ k, k < xs.length → w.cell? ⟨b, off + k, none⟩ = some (.int .i64 (nth xs k))) (hl : l.length + xs.length ≤ 1000) (hbase : base ≤ w.heap.size)
    (h : ∀ v' w', Mw base w' v' (l ++ xs) → w.grownBy w' v.ownBlock → wpList P ops Q rest (a.put o.dst v') w') : wpList P ops Q (o :: rest) a w := by
  subst hm
  refine wpList_append_own w hgd s x 27 ho base 2 i0 _ 1 8 ht hi0 hz0 hz1 hz2 rfl (by decide) v l.length _ hs hown ⟨b, off, none⟩ xs.length c (xs.map (Value.int .i64)) hx (by simp) (fun j u hu => ?_) (ints_oneCell .i64 xs) (by simp only [maxLen]; omega) (by omega) hbase (fun v' w' h1 h2 _ => h v' w' ?_ h2)
  · rw [List.getElem?_map] at hu
    obtain ⟨y, hy, rfl⟩ := Option.map_eq_some_iff.1 hu
    obtain ⟨hj, hy⟩ := List.getElem?_eq_some_iff.1 hy
    rw [Addr.add_lit, hc j hj]
    simp [nth, List.getD_eq_getElem?_getD, List.getElem?_eq_getElem hj, hy]
  · unfold Mw
    simpa using h1

/-- The nodes' words, as they are laid. -/
def slLay0 (n : Nd) : List Int := [n.first, n.lo]
def slLay1 (n : Nd) : List Int := fill (slLay0 n ++ n.ends) 10
def slLay2 (n : Nd) : List Int := fill (slLay1 n ++ n.slots) 18
theorem lay_is (n : Nd) : packN n = fill (slLay2 n ++ n.gaps) 28 := rfl
set_option maxRecDepth 4000 in
set_option maxHeartbeats 8000000 in
theorem pack_yes {n : Nd} {w : World} {e s g : Value} (h : NdIn w n e s g) (hf : NdF n) : Calls Try.prog 97 #[n.val e s g] w fun e w' => ∃ v', e = .returned v' ∧ Mw w.heap.size w' v' (packN n) ∧ Below w.heap.size w w' := by
  have G := Lib.hid ((Bag.new w).add 34 (n.cells e s g))
  have HI := Lib.hid (h.still G.out.bel)
  have CF := Lib.hid (formed_c HI.out (r := true) ⟨fun _ => hf, fun _ => rfl⟩)
  have h8 := hf.cnt.few
  have h1 := hf.cnt.one
  have hsl := hf.cnt.sl
  have hgl := hf.cnt.gl
  have CI : Hid (∀ W, NdIn W n e s g → Calls Try.prog 98 #[n.val e s g] W fun e w' => e = .returned (.int .i64 n.first) ∧ Below W.heap.size W w') := Lib.hid (fun W h => first_c h h8)
  obtain ⟨i0, hi0, hz0, hz1, hz2⟩ := info_parts int_info
  have HI0 : Hid (Try.prog.info? 2 = some i0) := Lib.hid hi0
  have H0 : Hid (i0.zero = some (.int .i64 0)) := Lib.hid hz0
  have H1 : Hid (i0.size = 1) := Lib.hid hz1
  have H2 : Hid (i0.bytes = 8) := Lib.hid hz2
  obtain ⟨A, c, rfl, hcc, hA⟩ := h.we
  obtain ⟨A', c', rfl, hcc', hA'⟩ := h.ws
  obtain ⟨A'', c'', rfl, hcc'', hA''⟩ := h.wg
  obtain ⟨b, off, rfl, ca⟩ := hA (by omega)
  obtain ⟨b', off', rfl, ca'⟩ := hA' (by omega)
  obtain ⟨b'', off'', rfl, ca''⟩ := hA'' (by omega)
  have CA : Hid (∀ W, Below w.heap.size w W → (∀ k, k < n.ends.length → W.cell? ⟨b, off + k, none⟩ = some (.int .i64 (nth n.ends k))) ∧ (∀ k, k < n.slots.length → W.cell? ⟨b', off' + k, none⟩ = some (.int .i64 (nth n.slots k))) ∧ (∀ k, k < n.gaps.length → W.cell? ⟨b'', off'' + k, none⟩ = some (.int .i64 (nth n.gaps k)))) := Lib.hid (fun W hb => by
    refine ⟨fun k hk => ?_, fun k hk => ?_, fun k hk => ?_⟩
    · have e1 := ca k hk
      rw [hb.cell (p := ⟨b, off + k, none⟩) (World.block_lt_of_cell? w _ e1)]; exact e1
    · have e1 := ca' k hk
      rw [hb.cell (p := ⟨b', off' + k, none⟩) (World.block_lt_of_cell? w _ e1)]; exact e1
    · have e1 := ca'' k hk
      rw [hb.cell (p := ⟨b'', off'' + k, none⟩) (World.block_lt_of_cell? w _ e1)]; exact e1)
  have L1 : Hid ((slLay1 n).length = 10) := Lib.hid (fill_len (by simp [slLay0]; omega))
  have L2 : Hid ((slLay2 n).length = 18) := Lib.hid (fill_len (by rw [List.length_append, L1.out]; omega))
  have P1 : Hid (fill (slLay0 n ++ n.ends) 10 = slLay1 n) := Lib.hid rfl
  have P2 : Hid (fill (slLay1 n ++ n.slots) 18 = slLay2 n) := Lib.hid rfl
  have P3 : Hid (fill (slLay2 n ++ n.gaps) 28 = packN n) := Lib.hid rfl
  have N0 : Hid (nums (slLay0 n) = #[.int .i64 n.first, .int .i64 n.lo]) := Lib.hid rfl
  have ND0 : Hid ((slLay0 n).length = 2) := Lib.hid rfl
  have F10 : Hid (∀ (v : Value) (W : World) (l : List Int), Mw w.heap.size W v l → 0 < l.length → l.length ≤ 10 → w.heap.size ≤ W.heap.size → Calls Try.prog 99 #[v, .int .i64 10] W fun e w' => ∃ v', e = .returned v' ∧ Mw w.heap.size w' v' (fill l 10) ∧ W.grownBy w' v.ownBlock) := Lib.hid (fun v W l h h0 h1 hb => filled_c h h0 10 h1 (by omega) hb)
  have F18 : Hid (∀ (v : Value) (W : World) (l : List Int), Mw w.heap.size W v l → 0 < l.length → l.length ≤ 18 → w.heap.size ≤ W.heap.size → Calls Try.prog 99 #[v, .int .i64 18] W fun e w' => ∃ v', e = .returned v' ∧ Mw w.heap.size w' v' (fill l 18) ∧ W.grownBy w' v.ownBlock) := Lib.hid (fun v W l h h0 h1 hb => filled_c h h0 18 h1 (by omega) hb)
  have F28 : Hid (∀ (v : Value) (W : World) (l : List Int), Mw w.heap.size W v l → 0 < l.length → l.length ≤ 28 → w.heap.size ≤ W.heap.size → Calls Try.prog 99 #[v, .int .i64 28] W fun e w' => ∃ v', e = .returned v' ∧ Mw w.heap.size w' v' (fill l 28) ∧ W.grownBy w' v.ownBlock) := Lib.hid (fun v W l h h0 h1 hb => filled_c h h0 28 h1 (by omega) hb)
  have HW : Hid (∀ W, NdIn W n (.slice (some ⟨b, off, none⟩) n.ends.length c) (.slice (some ⟨b', off', none⟩) n.slots.length c') (.slice (some ⟨b'', off'', none⟩) n.gaps.length c'') → NdIn W n (.slice (some ⟨b, off, none⟩) n.ends.length c) (.slice (some ⟨b', off', none⟩) n.slots.length c') (.slice (some ⟨b'', off'', none⟩) n.gaps.length c'')) := Lib.hid (fun W h => h)
  have E1 := Lib.hid hsl
  have E2 := Lib.hid hgl
  have H8 := Lib.hid h8
  clear ca ca' ca'' hA hA' hA'' h hf hcc hcc' hcc'' hi0 hz0 hz1 hz2 hsl hgl h8 h1
  unfold Nd.val Nd.cells at *
  generalize packN n = pk at *
  generalize slLay1 n = y1 at *
  generalize slLay2 n = y2 at *
  generalize hy0 : slLay0 n = y0 at *
  clear hy0
  go_enter Try.func97, Try.ntmps97
  go_wp2_with fail
  refine CF.out.mono ?_
  rintro e w1 ⟨rfl, hb⟩
  have G := Lib.hid (G.out.still hb)
  have HI := Lib.hid (HI.out.still hb)
  obtain ⟨d0, d1, d2, d3, d4⟩ := row5 G.out.v0
  clear hb CF
  go_wp2_with fail
  have HK : Hid (∀ W, Below w1.heap.size w1 W → (W.cell? ⟨w.heap.size, 0, none⟩ = some (.bool n.inner) ∧ W.cell? ⟨w.heap.size, 1, none⟩ = some (.int .i64 n.lo) ∧ W.cell? ⟨w.heap.size, 2, none⟩ = some (.slice (some ⟨b, off, none⟩) n.ends.length c) ∧ W.cell? ⟨w.heap.size, 3, none⟩ = some (.slice (some ⟨b', off', none⟩) n.slots.length c') ∧ W.cell? ⟨w.heap.size, 4, none⟩ = some (.slice (some ⟨b'', off'', none⟩) n.gaps.length c''))) := Lib.hid (fun W h => row5 ((G.out.still h).v0))
  have KX := Lib.hid (HI.out.still (below_drew (Below.refl _ w1)))
  have BB := Lib.hid (below_drew (Below.refl w1.heap.size w1))
  clear d0 d1 d2 d3 d4
  go_region_held3 (fun W => W.cell? ⟨w.heap.size, 0, none⟩ = some (.bool n.inner) ∧ W.cell? ⟨w.heap.size, 1, none⟩ = some (.int .i64 n.lo) ∧ W.cell? ⟨w.heap.size, 2, none⟩ = some (.slice (some ⟨b, off, none⟩) n.ends.length c) ∧ W.cell? ⟨w.heap.size, 3, none⟩ = some (.slice (some ⟨b', off', none⟩) n.slots.length c') ∧ W.cell? ⟨w.heap.size, 4, none⟩ = some (.slice (some ⟨b'', off'', none⟩) n.gaps.length c''))
    (first | exact HK.out _ BB.out | exact HK.out _ (BB.out.alloc BB.out.size _))
    (first
    | (go_at_call 98; refine (CI.out _ KX.out).mono ?_; rintro e wn ⟨rfl, hb⟩; have BB := Lib.hid (below_then BB.out hb (Nat.le_refl _)); clear hb CI)
    | fail)
  have M1 := Lib.hid (Mw.lit wn w.heap.size y0 (by have := G.out.bel.size; have := BB.out.size; omega) (by rw [ND0.out]; omega))
  rw [N0.out, ND0.out] at M1
  have V1 := Lib.hid ((G.out.still BB.out).v0.alloc (.cells #[.int .i64 n.first, .int .i64 n.lo] 2))
  have B1 := Lib.hid ((G.out.still BB.out).bel.alloc (by have := G.out.bel.size; have := BB.out.size; omega) (.cells #[.int .i64 n.first, .int .i64 n.lo] 2))
  rename_i hs
  clear hs BB HK KX HI G N0 HW
  generalize wn.alloc (.cells #[.int .i64 n.first, .int .i64 n.lo] 2) = wA at *
  generalize wn.heap.size = qn at *
  obtain ⟨d0, d1, d2, d3, d4⟩ := row5 V1.out
  go_wp2_with (at_builtin; refine wpList_app HI0.out H0.out H1.out H2.out Try.underlying27 rfl _ _ rfl w.heap.size _ y0 rfl M1.out b off c n.ends.length n.ends rfl rfl ((CA.out _ B1.out).1) (by have := ND0.out; have := E1.out; have := E2.out; have := H8.out; omega) B1.out.size ?_; intro va wa hm hg; have MM := Lib.hid hm; have VV := Lib.hid (V1.out.app M1.out hg (by decide)); have BB := Lib.hid (below_app B1.out M1.out hg B1.out.size); clear hm hg d0 d1 d2 d3 d4 M1 V1 B1)
  refine (F10.out _ _ _ MM.out (by rw [List.length_append]; have := ND0.out; omega) (by rw [List.length_append]; have := ND0.out; have := E1.out; have := E2.out; have := H8.out; omega) BB.out.size).mono ?_
  rintro e wb ⟨vb, rfl, hm, hg⟩
  rw [P1.out] at hm
  have M2 := Lib.hid hm
  have V2 := Lib.hid (VV.out.app MM.out hg (by decide))
  have B2 := Lib.hid (below_app BB.out MM.out hg BB.out.size)
  clear hm hg MM VV BB
  obtain ⟨d0, d1, d2, d3, d4⟩ := row5 V2.out
  go_wp2_with (at_builtin; refine wpList_app HI0.out H0.out H1.out H2.out Try.underlying27 rfl _ _ rfl w.heap.size _ y1 rfl M2.out b' off' c' n.slots.length n.slots rfl rfl ((CA.out _ B2.out).2.1) (by have := L1.out; have := E1.out; have := E2.out; have := H8.out; omega) B2.out.size ?_; intro va wa hm hg; have MM := Lib.hid hm; have VV := Lib.hid (V2.out.app M2.out hg (by decide)); have BB := Lib.hid (below_app B2.out M2.out hg B2.out.size); clear hm hg d0 d1 d2 d3 d4 M2 V2 B2)
  refine (F18.out _ _ _ MM.out (by rw [List.length_append]; have := L1.out; omega) (by rw [List.length_append]; have := L1.out; have := E1.out; have := E2.out; have := H8.out; omega) BB.out.size).mono ?_
  rintro e wb ⟨vb, rfl, hm, hg⟩
  rw [P2.out] at hm
  have M3 := Lib.hid hm
  have V3 := Lib.hid (VV.out.app MM.out hg (by decide))
  have B3 := Lib.hid (below_app BB.out MM.out hg BB.out.size)
  clear hm hg MM VV BB
  obtain ⟨d0, d1, d2, d3, d4⟩ := row5 V3.out
  go_wp2_with (at_builtin; refine wpList_app HI0.out H0.out H1.out H2.out Try.underlying27 rfl _ _ rfl w.heap.size _ y2 rfl M3.out b'' off'' c'' n.gaps.length n.gaps rfl rfl ((CA.out _ B3.out).2.2) (by have := L2.out; have := E1.out; have := E2.out; have := H8.out; omega) B3.out.size ?_; intro va wa hm hg; have MM := Lib.hid hm; have VV := Lib.hid (V3.out.app M3.out hg (by decide)); have BB := Lib.hid (below_app B3.out M3.out hg B3.out.size); clear hm hg d0 d1 d2 d3 d4 M3 V3 B3)
  refine (F28.out _ _ _ MM.out (by rw [List.length_append]; have := L2.out; omega) (by rw [List.length_append]; have := L2.out; have := E1.out; have := E2.out; have := H8.out; omega) BB.out.size).mono ?_
  rintro e wb ⟨vb, rfl, hm, hg⟩
  rw [P3.out] at hm
  have M4 := Lib.hid hm
  have V4 := Lib.hid (VV.out.app MM.out hg (by decide))
  have B4 := Lib.hid (below_app BB.out MM.out hg BB.out.size)
  clear hm hg MM VV BB
  go_wp2_with fail
  go_ret
  exact ⟨_, rfl, M4.out, B4.out⟩

set_option maxHeartbeats 2000000 in
theorem pack_no {n : Nd} {w : World} {e s g : Value} (h : NdIn w n e s g) (hf : ¬ NdF n) : Calls Try.prog 97 #[n.val e s g] w fun e w' => e = .returned (.slice none 0 0) ∧ Below w.heap.size w w' := by
  have G := Lib.hid ((Bag.new w).add 34 (n.cells e s g))
  have HI := Lib.hid (h.still G.out.bel)
  have CF := Lib.hid (formed_c HI.out (r := false) ⟨(fun h => by cases h), fun h => absurd h hf⟩)
  clear HI h hf
  unfold Nd.val Nd.cells at *
  go_enter Try.func97, Try.ntmps97
  go_wp2_with fail
  refine CF.out.mono ?_
  rintro e w1 ⟨rfl, hb⟩
  have G := Lib.hid (G.out.still hb)
  clear hb CF
  go_wp2_with fail
  go_ret
  exact ⟨rfl, G.out.bel⟩
/-- A node's words, or none. -/
def wordsN (r : Bool) (n : Nd) : List Int := if r = true then packN n else []
theorem pack_c {n : Nd} {w : World} {e s g : Value} (h : NdIn w n e s g) {r : Bool} (hr : Tells r (NdF n)) : Calls Try.prog 97 #[n.val e s g] w fun e w' => ∃ v', e = .returned v' ∧ Mw w.heap.size w' v' (wordsN r n) ∧ Below w.heap.size w w' := by
  cases r with
  | true => exact pack_yes h (hr.1 rfl)
  | false =>
    refine (pack_no h (fun f => by cases (hr.2 f))).mono ?_
    rintro e w1 ⟨rfl, hb⟩
    exact ⟨_, rfl, Mw.nil _ _, hb⟩
end Go.Proofs.Ytejkhnphplpkeaa
