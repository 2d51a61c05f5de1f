/-
  A tree that goes round is left: the law's walk.
-/
import Derived.Test.YtlhjimkfcchdaaaPkZe
import Derived.Test.YtlhjimkfcchdaaaPkYe
namespace Go.Proofs.Ytlhjimkfcchdaaa
open Go.ChangeShapes Go.WideShapes Go.ChangeAt Go.RowKit
set_option linter.unusedVariables false

/-! The node that is its own entry. -/
def rndE (k : Nat) : List Int := (List.range k).map fun (i : Nat) => 4096 * (17 + (i : Int))
/-- The node while k entries are appended. -/
def rndNd (k : Nat) : Nd := ⟨true, 65536, rndE k, List.replicate k 65537, List.replicate k 0⟩
theorem rndE_len (k : Nat) : (rndE k).length = k := by simp [rndE]
theorem rndE_step (k : Nat) : rndE k ++ [4096 * (17 + (k : Int))] = rndE (k + 1) := by
  unfold rndE
  rw [List.range_succ, List.map_append]
  rfl
theorem rep_step (k : Nat) (a : Int) : List.replicate k a ++ [a] = List.replicate (k + 1) a := by
  rw [List.replicate_succ']
theorem rndE_at {k i : Nat} (h : i < k) : nth (rndE k) i = 4096 * (17 + (i : Int)) := by
  unfold rndE nth
  rw [List.getD_eq_getElem?_getD, List.getElem?_map, List.getElem?_range h]
  rfl
theorem rep_at {k i : Nat} (h : i < k) (a : Int) : nth (List.replicate k a) i = a := by
  unfold nth
  rw [List.getD_eq_getElem?_getD, List.getElem?_replicate, if_pos h]
  rfl
theorem rnd_formed {k : Nat} (h1 : 1 ≤ k) (h8 : k ≤ 8) : NdF (rndNd k) := by
  have hl : (rndNd k).ends.length = k := rndE_len k
  refine ⟨⟨by omega, by omega, by rw [hl]; simp [rndNd], by rw [hl]; simp [rndNd]⟩, by simp [rndNd], (by decide : (65536 : Int).tmod 4096 = 0), fun i hi => ?_⟩
  rw [hl] at hi
  have e1 : nth (rndNd k).ends i = 4096 * (17 + (i : Int)) := rndE_at hi
  have e2 : nth (rndNd k).slots i = 65537 := rep_at hi _
  have e3 : nth (rndNd k).gaps i = 0 := rep_at hi _
  have ea : (rndNd k).at i = 4096 * (16 + (i : Int)) := by
    unfold Nd.at
    by_cases h0 : i = 0
    · subst h0; rfl
    · rw [if_neg h0]
      show nth (rndE k) (i - 1) = _
      rw [rndE_at (by omega)]
      omega
  refine ⟨by rw [e1, ea]; omega, by rw [e1]; omega, ?_, ?_⟩
  · rw [e1, Int.tmod_eq_emod_of_nonneg (by omega)]; omega
  · rw [e1, e2, e3, ea]
    show holdsE true _ _ _
    unfold holdsE
    rw [if_pos rfl]
    omega
theorem rnd_fits (k : Nat) : Fits (rndNd k).slots := by
  intro i hi
  have hi : i < k := by simpa [rndNd] using hi
  have e : nth (rndNd k).slots i = 65537 := rep_at hi _
  rw [e]
  omega
theorem rnd_word (k : Nat) : wordsAt [packN (rndNd k)] 65537 = some (packN (rndNd k)) := by
  unfold wordsAt
  rw [if_neg (by simp)]
  rfl
theorem rnd_look {k : Nat} (h1 : 1 ≤ k) (h8 : k ≤ 8) (addr : Int) : (lookW (packN (rndNd k)) addr).1.2.2 = true → (lookW (packN (rndNd k)) addr).1.2.1 = true ∧ (lookW (packN (rndNd k)) addr).1.1 = 65537 := by
  have hF := rnd_formed h1 h8
  have hl : (rndNd k).ends.length = k := rndE_len k
  have hp := look_pack hF.cnt addr
  intro hok
  by_cases hx : ∃ i, i < k ∧ addr < nth (rndNd k).ends i ∧ ∀ j, j < i → nth (rndNd k).ends j ≤ addr
  · obtain ⟨i, hi, h2, h3⟩ := hx
    have e := hp.1 i (by omega) h3 h2
    have e2 : nth (rndNd k).slots i = 65537 := rep_at hi _
    rw [e, e2]
    exact ⟨rfl, rfl⟩
  · have key : ∀ i, i ≤ k → ∀ j, j < i → nth (rndNd k).ends j ≤ addr := by
      intro i
      induction i with
      | zero => intro _ j hj; omega
      | succ i ih =>
        intro hi j hj
        have hk := ih (by omega)
        by_cases e : j = i
        · subst e
          by_cases h4 : nth (rndNd k).ends j ≤ addr
          · exact h4
          · exact (hx ⟨j, by omega, by omega, hk⟩).elim
        · exact hk j (by omega)
    have e := hp.2 (fun j hj => key k (Nat.le_refl _) j (by omega))
    rw [e] at hok
    cases hok
theorem rnd_find {k : Nat} (h1 : 1 ≤ k) (h8 : k ≤ 8) (addr : Int) : (findW [packN (rndNd k)] addr 8 65537).1.2 = false := find_round (rnd_word k) (rnd_look h1 h8 addr) 8
theorem rnd_thru {k : Nat} (h1 : 1 ≤ k) (h8 : k ≤ 8) : (thruW [packN (rndNd k)] 8 65537 ⟨[], []⟩).1 = none := by
  have hF := rnd_formed h1 h8
  have hl : (rndNd k).ends.length = k := rndE_len k
  have e := nodeW_pack hF
  exact thru_round (n := rndNd k) (rnd_word k) (by rw [e]) rfl (by omega) (by rw [hl]; simp [rndNd]) (fun s hs => by
    have hs : s ∈ List.replicate k (65537 : Int) := hs
    exact (List.mem_replicate.1 hs).2) 8 ⟨[], []⟩
/-- Only its own handle is read. -/
theorem rnd_find_h {k : Nat} (h1 : 1 ≤ k) (h8 : k ≤ 8) (addr cnt : Int) : ∀ q ∈ (findFrom (fun h => cellOf 3 [packN (rndNd k)].length h) addr 8 65537).reads (manyM [packN (rndNd k)] cnt), rightB (bornTo [packN (rndNd k)].length [packN (rndNd k)].length) q.2 = true := by
  have hF := rnd_formed h1 h8
  intro q hq
  have := find_h (many_tells (one28 (pack_len hF.cnt)) cnt) (fun h => h = 65537) addr (fun h x hh hw hok hin => by
    subst hh
    rw [rnd_word] at hw
    injection hw with hw
    subst hw
    exact (rnd_look h1 h8 addr hok).2) 8 65537 rfl q hq
  rw [this]
  exact wiOf_right (n := 1) false 0 (by omega)
theorem rnd_thru_h {k : Nat} (h1 : 1 ≤ k) (h8 : k ≤ 8) (cnt : Int) : ∀ q ∈ (thru (fun h => cellOf 3 [packN (rndNd k)].length h) 8 65537 ⟨[], []⟩).reads (manyM [packN (rndNd k)] cnt), rightB (bornTo [packN (rndNd k)].length [packN (rndNd k)].length) q.2 = true := by
  have hF := rnd_formed h1 h8
  have e := nodeW_pack hF
  intro q hq
  have := thru_h (many_tells (one28 (pack_len hF.cnt)) cnt) (fun h => h = 65537) (fun h x n hh hw hn _ s hs => by
    subst hh
    rw [rnd_word] at hw
    injection hw with hw
    subst hw
    rw [e] at hn
    injection hn with hn
    subst hn
    have hs : s ∈ List.replicate k (65537 : Int) := hs
    exact (List.mem_replicate.1 hs).2) 8 65537 ⟨[], []⟩ rfl q hq
  rw [this]
  exact wiOf_right (n := 1) false 0 (by omega)

/-! The node while it is built. -/
structure Rnd (w wr : World) (q : Nat) (n : Nd) (e s g : Value) : Prop where
  node : Whole wr q 50 #[.bool n.inner, .int .i64 n.lo, e, s, g]
  mine : NdMine w.heap.size wr n e s g
  bel : Below w.heap.size w wr
section
variable {w wr w1 : World} {q : Nat} {n : Nd} {e s g : Value}
theorem Rnd.ends {o : Obj} {x : Int} {gg cap : Nat} (h : Rnd w wr q n e s g) (hq : w.heap.size ≤ q) (hg : (wr.alloc o).grownBy w1 e.ownBlock) (hr : w1.ownsRow w.heap.size 2 1 (.slice (some ⟨gg, 0, none⟩) (n.ends ++ [x]).length cap) (n.ends ++ [x]).length ((n.ends ++ [x]).map (Value.int .i64))) (hat : e.ownBlock = some gg ∨ gg = wr.heap.size + 1) :
    Rnd w (w1.setCell ⟨q, 2, none⟩ (.slice (some ⟨gg, 0, none⟩) (n.ends ++ [x]).length cap)) q { n with ends := n.ends ++ [x] } (.slice (some ⟨gg, 0, none⟩) (n.ends ++ [x]).length cap) s g := by
  have hn := built_row h.node h.mine.me (by decide) hg
  have hb : Below w.heap.size w w1 := (h.bel.alloc h.bel.size o).grown hg (Nat.le_trans h.bel.size (by simp)) h.mine.me.blk
  exact ⟨hn.put 2 _, ⟨far_row hr hn, far_row (kept_row h.mine.ms hg (fun k h1 h2 => h.mine.es k h2 h1)) hn, far_row (kept_row h.mine.mg hg (fun k h1 h2 => h.mine.eg k h2 h1)) hn, (fun k h1 h2 => new_row (l' := n.ends ++ [x]) (cap := cap) h.mine.ms (fun k h1 h2 => h.mine.es k h2 h1) hat k h2 h1), (fun k h1 h2 => new_row (l' := n.ends ++ [x]) (cap := cap) h.mine.mg (fun k h1 h2 => h.mine.eg k h2 h1) hat k h2 h1), h.mine.sg⟩, hb.setCell (p := ⟨q, 2, none⟩) hq _⟩
theorem Rnd.slots {o : Obj} {x : Int} {gg cap : Nat} (h : Rnd w wr q n e s g) (hq : w.heap.size ≤ q) (hg : (wr.alloc o).grownBy w1 s.ownBlock) (hr : w1.ownsRow w.heap.size 2 1 (.slice (some ⟨gg, 0, none⟩) (n.slots ++ [x]).length cap) (n.slots ++ [x]).length ((n.slots ++ [x]).map (Value.int .i64))) (hat : s.ownBlock = some gg ∨ gg = wr.heap.size + 1) :
    Rnd w (w1.setCell ⟨q, 3, none⟩ (.slice (some ⟨gg, 0, none⟩) (n.slots ++ [x]).length cap)) q { n with slots := n.slots ++ [x] } e (.slice (some ⟨gg, 0, none⟩) (n.slots ++ [x]).length cap) g := by
  have hn := built_row h.node h.mine.ms (by decide) hg
  have hb : Below w.heap.size w w1 := (h.bel.alloc h.bel.size o).grown hg (Nat.le_trans h.bel.size (by simp)) h.mine.ms.blk
  exact ⟨hn.put 3 _, ⟨far_row (kept_row h.mine.me hg h.mine.es) hn, far_row hr hn, far_row (kept_row h.mine.mg hg (fun k h1 h2 => h.mine.sg k h2 h1)) hn, (new_row h.mine.me h.mine.es hat), h.mine.eg, (fun k h1 h2 => new_row (l' := n.slots ++ [x]) (cap := cap) h.mine.mg (fun k h1 h2 => h.mine.sg k h2 h1) hat k h2 h1)⟩, hb.setCell (p := ⟨q, 3, none⟩) hq _⟩
theorem Rnd.gaps {o : Obj} {x : Int} {gg cap : Nat} (h : Rnd w wr q n e s g) (hq : w.heap.size ≤ q) (hg : (wr.alloc o).grownBy w1 g.ownBlock) (hr : w1.ownsRow w.heap.size 2 1 (.slice (some ⟨gg, 0, none⟩) (n.gaps ++ [x]).length cap) (n.gaps ++ [x]).length ((n.gaps ++ [x]).map (Value.int .i64))) (hat : g.ownBlock = some gg ∨ gg = wr.heap.size + 1) :
    Rnd w (w1.setCell ⟨q, 4, none⟩ (.slice (some ⟨gg, 0, none⟩) (n.gaps ++ [x]).length cap)) q { n with gaps := n.gaps ++ [x] } e s (.slice (some ⟨gg, 0, none⟩) (n.gaps ++ [x]).length cap) := by
  have hn := built_row h.node h.mine.mg (by decide) hg
  have hb : Below w.heap.size w w1 := (h.bel.alloc h.bel.size o).grown hg (Nat.le_trans h.bel.size (by simp)) h.mine.mg.blk
  exact ⟨hn.put 4 _, ⟨far_row (kept_row h.mine.me hg h.mine.eg) hn, far_row (kept_row h.mine.ms hg h.mine.sg) hn, far_row hr hn, h.mine.es, (new_row h.mine.me h.mine.eg hat), (new_row h.mine.ms h.mine.sg hat)⟩, hb.setCell (p := ⟨q, 4, none⟩) hq _⟩
theorem Rnd.at_ {o : Obj} {v : Value} (h : Rnd w wr q n e s g) (hv : v = e ∨ v = s ∨ v = g) (hg : (wr.alloc o).grownBy w1 v.ownBlock) (i : Nat) : w1.cell? ⟨q, i, none⟩ = (#[Value.bool n.inner, .int .i64 n.lo, e, s, g] : Array Value)[i]? ∧ w1.frozen? ⟨q, i, none⟩ = false := by
  have hn : Whole w1 q 50 #[.bool n.inner, .int .i64 n.lo, e, s, g] := by
    rcases hv with rfl | rfl | rfl
    · exact built_row h.node h.mine.me (by decide) hg
    · exact built_row h.node h.mine.ms (by decide) hg
    · exact built_row h.node h.mine.mg (by decide) hg
  exact ⟨hn.cell i, hn.frozen i⟩
end

theorem rnd_new (w w1 : World) (hb : Below w.heap.size w w1) : Rnd w (w1.alloc (.cells #[.bool true, .int .i64 65536, .slice none 0 0, .slice none 0 0, .slice none 0 0] 50)) w1.heap.size (rndNd 0) (.slice none 0 0) (.slice none 0 0) (.slice none 0 0) :=
  ⟨Whole.new _ _ _, ⟨Mw.nil _ _, Mw.nil _ _, Mw.nil _ _, fun k h => by simp [Value.ownBlock] at h, fun k h => by simp [Value.ownBlock] at h, fun k h => by simp [Value.ownBlock] at h⟩, below_then hb (below_new _ _) (Nat.le_refl _)⟩
/-- While it is built, by how many entries. -/
def RndRel (w : World) (q M : Nat) (iv : Value) (wr : World) : Prop := ∃ (k : Nat) (e s g : Value), k ≤ M + 1 ∧ iv = .int .i64 k ∧ Rnd w wr q (rndNd k) e s g
set_option maxRecDepth 4000 in
set_option maxHeartbeats 8000000 in
theorem walkRound_any {en addr : Int} (h0 : 0 ≤ en) (h1 : en ≤ 255) (w : World) :
    Calls Try.prog 6 #[.int .u8 en, .int .i64 addr] w fun e w' => e = .returned (.bool true) ∧ Below w.heap.size w w' := by
  have hnot : ∀ (x : Bool) (w : World), (Op.unary .not (.bool x)).run Try.prog w = .ok (.bool (!x)) w := fun _ _ => rfl
  obtain ⟨R, hR⟩ : ∃ R : Ending → World → Prop, (fun e w' => e = .returned (.bool true) ∧ Below w.heap.size w w') = R := ⟨_, rfl⟩
  rw [hR]
  have FIN : Hid (∀ W, Below w.heap.size w W → R (.returned (.bool true)) W) := Lib.hid (fun W hb => by rw [← hR]; exact ⟨rfl, hb⟩)
  clear hR
  have hm : en.tmod 8 = en % 8 := Int.tmod_eq_emod_of_nonneg h0
  obtain ⟨M, hM⟩ : ∃ M : Nat, en % 8 = (M : Int) := ⟨(en % 8).toNat, by omega⟩
  have hM7 : M ≤ 7 := by omega
  rw [hM] at hm
  have hwu : IntKind.u8.wrap (M : Int) = (M : Int) := by
    have : ∀ m : Nat, m ≤ 7 → IntKind.u8.wrap (m : Int) = (m : Int) := by decide
    exact this M hM7
  have hwi : IntKind.i64.wrap (M : Int) = (M : Int) := by rw [IntKind.wrap_i64]; omega
  obtain ⟨i0, hi0, hz0, hz1, hz2⟩ := int64_info'
  clear hM h0 h1
  go_enter Try.func6, Try.ntmps6
  go_wp2_with fail
  refine (walk_awake _).mono ?_
  rintro e w1 ⟨rfl, hb1⟩
  have R0 : Hid (Rnd w (w1.alloc (.cells #[.bool true, .int .i64 65536, .slice none 0 0, .slice none 0 0, .slice none 0 0] 50)) w1.heap.size (rndNd 0) (.slice none 0 0) (.slice none 0 0) (.slice none 0 0)) := Lib.hid (rnd_new w w1 hb1)
  have HQ : Hid (w.heap.size ≤ w1.heap.size) := Lib.hid hb1.size
  clear hb1
  go_upto_region 4 with (fail)
  generalize w1.alloc _ = wA at *
  generalize w1.heap.size = q at *
  go_wp2_with fail
  go_loopw [6] (fun iv wr => RndRel w q M iv wr) (fun iv _ => M + 1 - (intOf iv).toNat)
  case atStart => exact ⟨0, _, _, _, by omega, rfl, R0.out⟩
  case round =>
    obtain ⟨k, e, s, g, hk, rfl, hR⟩ := hrel
    clear R0
    have hk8 : (k : Int) ≤ 8 := by omega
    by_cases hlt : k ≤ M
    · have hltI : (k : Int) ≤ (M : Int) := by omega
      have RR := Lib.hid hR
      obtain ⟨B1, c1, rfl⟩ := own_slice hR.mine.me
      obtain ⟨B2, c2, rfl⟩ := own_slice hR.mine.ms
      obtain ⟨B3, c3, rfl⟩ := own_slice hR.mine.mg
      have l1 : (rndNd k).ends.length = k := rndE_len k
      have l2 : (rndNd k).slots.length = k := by simp [rndNd]
      have l3 : (rndNd k).gaps.length = k := by simp [rndNd]
      rw [l1, l2, l3] at RR
      clear hR l1 l2 l3
      have hw1 : IntKind.i64.wrap (17 + (k : Int)) = 17 + (k : Int) := by rw [IntKind.wrap_i64]; omega
      have hw2 : IntKind.i64.wrap (4096 * (17 + (k : Int))) = 4096 * (17 + (k : Int)) := by rw [IntKind.wrap_i64]; omega
      have d2 : wr.cell? ⟨q, 2, none⟩ = some (.slice B1 k c1) := RR.out.node.cell 2
      have O := Lib.hid RR.out.mine.me
      unfold Mw at O
      rw [show (rndNd k).ends.length = k from rndE_len k] at O
      have hsz : w.heap.size ≤ wr.heap.size := RR.out.bel.size
      have BC : Hid (∀ w3, (wr.alloc (.cells #[.int .i64 (4096 * (17 + (k : Int)))] 2)).grownBy w3 (Value.slice B1 k c1).ownBlock → w3.cell? ⟨q, 2, none⟩ = some (.slice B1 k c1) ∧ w3.frozen? ⟨q, 2, none⟩ = false) := Lib.hid (fun w3 hg => RR.out.at_ (.inl rfl) hg 2)
      go_upto_region 8 with (at_builtin; refine wpList_append_lies _ rfl (.tmp 26) (.tmp 30) _ rfl w.heap.size 2 i0 _ 1 8 Try.underlying31 hi0 hz0 hz1 hz2 rfl (by omega) _ k _ rfl (O.out.alloc _) ⟨wr.heap.size, 0, none⟩ 1 1 [.int .i64 (4096 * (17 + (k : Int)))] rfl rfl (World.news_of_block (cs := #[.int .i64 (4096 * (17 + (k : Int)))]) (t := 2) (fr := (0, 0)) (heap_alloc_new wr _)) (by simp [Value.oneCell']) (by omega) (by simp only [maxLen]; omega) (by omega) (by simp; omega) (wr.heap.size + 1) (by simp) ?_; intro gg cap w3 hown hgrow hat hlt; have b2 := (BC.out _ hgrow).1; have bf := (BC.out _ hgrow).2)
      have hw4 : w3.ownsRow w.heap.size 2 1 (.slice (some ⟨gg, 0, none⟩) (rndE k ++ [4096 * (17 + (k : Int))]).length cap) (rndE k ++ [4096 * (17 + (k : Int))]).length ((rndE k ++ [4096 * (17 + (k : Int))]).map (Value.int .i64)) := by
        rw [List.length_append, rndE_len, List.map_append]
        exact hown
      have nx := RR.out.ends (x := 4096 * (17 + (k : Int))) HQ.out hgrow hw4 hat
      have nl : (rndE k ++ [4096 * (17 + (k : Int))]).length = k + 1 := by rw [List.length_append, rndE_len]; rfl
      have nx : Rnd w (w3.setCell ⟨q, 2, none⟩ (.slice (some ⟨gg, 0, none⟩) (rndE k ++ [4096 * (17 + (k : Int))]).length cap)) q ⟨true, 65536, rndE (k + 1), List.replicate k 65537, List.replicate k 0⟩ (.slice (some ⟨gg, 0, none⟩) (rndE k ++ [4096 * (17 + (k : Int))]).length cap) (.slice B2 k c2) (.slice B3 k c3) := by
        have e : rndE k ++ [4096 * (17 + (k : Int))] = rndE (k + 1) := rndE_step k
        rw [← e]; exact nx
      rw [nl] at nx
      have R4 := Lib.hid nx
      clear nx nl hw4 hown hgrow hat hlt b2 bf BC O RR
      generalize w3.setCell ⟨q, 2, none⟩ (.slice (some ⟨gg, 0, none⟩) (k + 1) cap) = w4 at *
      clear d2 hsz
      obtain ⟨E1, hE1⟩ : ∃ v, Value.slice (some ⟨gg, 0, none⟩) (k + 1) cap = v := ⟨_, rfl⟩
      rw [hE1] at R4 ⊢
      clear hE1
      have d2 : w4.cell? ⟨q, 3, none⟩ = some (.slice B2 k c2) := R4.out.node.cell 3
      have O := Lib.hid R4.out.mine.ms
      unfold Mw at O
      rw [show (List.replicate k (65537 : Int)).length = k from List.length_replicate ..] at O
      have hsz : w.heap.size ≤ w4.heap.size := R4.out.bel.size
      have BC : Hid (∀ w3, (w4.alloc (.cells #[.int .i64 (65537)] 2)).grownBy w3 (Value.slice B2 k c2).ownBlock → w3.cell? ⟨q, 3, none⟩ = some (.slice B2 k c2) ∧ w3.frozen? ⟨q, 3, none⟩ = false) := Lib.hid (fun w3 hg => R4.out.at_ (.inr (.inl rfl)) hg 3)
      go_upto_region 9 with (at_builtin; refine wpList_append_lies _ rfl (.tmp 34) (.tmp 35) _ rfl w.heap.size 2 i0 _ 1 8 Try.underlying31 hi0 hz0 hz1 hz2 rfl (by omega) _ k _ rfl (O.out.alloc _) ⟨w4.heap.size, 0, none⟩ 1 1 [.int .i64 (65537)] rfl rfl (World.news_of_block (cs := #[.int .i64 (65537)]) (t := 2) (fr := (0, 0)) (heap_alloc_new w4 _)) (by simp [Value.oneCell']) (by omega) (by simp only [maxLen]; omega) (by omega) (by simp; omega) (w4.heap.size + 1) (by simp) ?_; intro gg cap w3 hown hgrow hat hlt; have b2 := (BC.out _ hgrow).1; have bf := (BC.out _ hgrow).2)
      have hw4 : w3.ownsRow w.heap.size 2 1 (.slice (some ⟨gg, 0, none⟩) (List.replicate k (65537 : Int) ++ [65537]).length cap) (List.replicate k (65537 : Int) ++ [65537]).length ((List.replicate k (65537 : Int) ++ [65537]).map (Value.int .i64)) := by
        rw [List.length_append, List.length_replicate, List.map_append]
        exact hown
      have nx := R4.out.slots (x := 65537) HQ.out hgrow hw4 hat
      have nl : (List.replicate k (65537 : Int) ++ [65537]).length = k + 1 := by rw [List.length_append, List.length_replicate]; rfl
      have nx : Rnd w (w3.setCell ⟨q, 3, none⟩ (.slice (some ⟨gg, 0, none⟩) (List.replicate k (65537 : Int) ++ [65537]).length cap)) q ⟨true, 65536, rndE (k + 1), List.replicate (k + 1) 65537, List.replicate k 0⟩ E1 (.slice (some ⟨gg, 0, none⟩) (List.replicate k (65537 : Int) ++ [65537]).length cap) (.slice B3 k c3) := by
        rw [← rep_step k 65537]; exact nx
      rw [nl] at nx
      have R5 := Lib.hid nx
      clear nx nl hw4 hown hgrow hat hlt b2 bf BC O R4
      generalize w3.setCell ⟨q, 3, none⟩ (.slice (some ⟨gg, 0, none⟩) (k + 1) cap) = w5 at *
      clear d2 hsz
      obtain ⟨E2, hE2⟩ : ∃ v, Value.slice (some ⟨gg, 0, none⟩) (k + 1) cap = v := ⟨_, rfl⟩
      rw [hE2] at R5 ⊢
      clear hE2
      have d2 : w5.cell? ⟨q, 4, none⟩ = some (.slice B3 k c3) := R5.out.node.cell 4
      have O := Lib.hid R5.out.mine.mg
      unfold Mw at O
      rw [show (List.replicate k (0 : Int)).length = k from List.length_replicate ..] at O
      have hsz : w.heap.size ≤ w5.heap.size := R5.out.bel.size
      have BC : Hid (∀ w3, (w5.alloc (.cells #[.int .i64 (0)] 2)).grownBy w3 (Value.slice B3 k c3).ownBlock → w3.cell? ⟨q, 4, none⟩ = some (.slice B3 k c3) ∧ w3.frozen? ⟨q, 4, none⟩ = false) := Lib.hid (fun w3 hg => R5.out.at_ (.inr (.inr rfl)) hg 4)
      go_upto_region 6 with (at_builtin; refine wpList_append_lies _ rfl (.tmp 39) (.tmp 40) _ rfl w.heap.size 2 i0 _ 1 8 Try.underlying31 hi0 hz0 hz1 hz2 rfl (by omega) _ k _ rfl (O.out.alloc _) ⟨w5.heap.size, 0, none⟩ 1 1 [.int .i64 (0)] rfl rfl (World.news_of_block (cs := #[.int .i64 (0)]) (t := 2) (fr := (0, 0)) (heap_alloc_new w5 _)) (by simp [Value.oneCell']) (by omega) (by simp only [maxLen]; omega) (by omega) (by simp; omega) (w5.heap.size + 1) (by simp) ?_; intro gg cap w3 hown hgrow hat hlt; have b2 := (BC.out _ hgrow).1; have bf := (BC.out _ hgrow).2)
      have hw4 : w3.ownsRow w.heap.size 2 1 (.slice (some ⟨gg, 0, none⟩) (List.replicate k (0 : Int) ++ [0]).length cap) (List.replicate k (0 : Int) ++ [0]).length ((List.replicate k (0 : Int) ++ [0]).map (Value.int .i64)) := by
        rw [List.length_append, List.length_replicate, List.map_append]
        exact hown
      have nx := R5.out.gaps (x := 0) HQ.out hgrow hw4 hat
      have nl : (List.replicate k (0 : Int) ++ [0]).length = k + 1 := by rw [List.length_append, List.length_replicate]; rfl
      have nx : Rnd w (w3.setCell ⟨q, 4, none⟩ (.slice (some ⟨gg, 0, none⟩) (List.replicate k (0 : Int) ++ [0]).length cap)) q (rndNd (k + 1)) E1 E2 (.slice (some ⟨gg, 0, none⟩) (List.replicate k (0 : Int) ++ [0]).length cap) := by
        have e : rndNd (k + 1) = ⟨true, 65536, rndE (k + 1), List.replicate (k + 1) 65537, List.replicate k 0 ++ [0]⟩ := by rw [rep_step]; rfl
        rw [e]; exact nx
      rw [nl] at nx
      have R6 := Lib.hid nx
      clear nx nl hw4 hown hgrow hat hlt b2 bf BC O R5
      generalize w3.setCell ⟨q, 4, none⟩ (.slice (some ⟨gg, 0, none⟩) (k + 1) cap) = w6 at *
      clear d2 hsz
      go_wp2_with fail
      go_roundw
      case rel => exact ⟨k + 1, _, _, _, by omega, by go_num, R6.out⟩
      case measure => simp [intOf]; omega
    · have hkM : k = M + 1 := by omega
      have nlt : ¬ (k : Int) ≤ (M : Int) := by omega
      have h1 : 1 ≤ k := by omega
      have h8 : k ≤ 8 := by omega
      have hF := rnd_formed h1 h8
      have HX := Lib.hid (pack_len hF.cnt)
      have HP := Lib.hid (fits_pack hF (rnd_fits k))
      have HFI := Lib.hid (rnd_find h1 h8 addr)
      have HTH := Lib.hid (rnd_thru h1 h8)
      have RH1 := Lib.hid (fun cnt => rnd_find_h h1 h8 addr cnt)
      have RH2 := Lib.hid (fun cnt => rnd_thru_h h1 h8 cnt)
      have CP := Lib.hid (refPackN_c hR.mine.here hF.cnt)
      have GB := Lib.hid hR.bel
      have d := hR.node
      obtain ⟨B1, c1, rfl⟩ := own_slice hR.mine.me
      obtain ⟨B2, c2, rfl⟩ := own_slice hR.mine.ms
      obtain ⟨B3, c3, rfl⟩ := own_slice hR.mine.mg
      unfold Nd.val at CP
      rw [show (rndNd k).ends.length = k from rndE_len k, show (rndNd k).slots.length = k by simp [rndNd], show (rndNd k).gaps.length = k by simp [rndNd], show (rndNd k).inner = true from rfl, show (rndNd k).lo = 65536 from rfl] at CP d
      obtain ⟨d0, d1, d2, d3, d4⟩ := row5 d
      clear hR hF d hkM h1 h8
      generalize packN (rndNd k) = pk at *
      go_wp2_with fail
      refine CP.out.mono ?_
      rintro e w3 ⟨v, rfl, hv, hb⟩
      obtain ⟨B, kk, rfl⟩ := hv.is
      rw [HX.out] at hv ⊢
      have SL := Lib.hid (slots_many (wss_one hv) (one28 HX.out) (by simp))
      have GB := Lib.hid (below_then (below_then GB.out hb (Nat.le_refl _)) (below_new w3 (.cells #[.slice B 28 kk] 31)) (Nat.le_refl _))
      clear hv hb CP d0 d1 d2 d3 d4
      go_wp2_with fail
      refine SL.out.mono ?_
      rintro e w4 ⟨mb, mg, ab, ag, rfl, hm, ha, m1, m2, m3, m4, hb⟩
      have AL := Lib.hid (alone_find (root := 65537) (addr := addr) (one28 HX.out) (one_fit HP.out) (by simp) hm ha (by omega))
      have HMO : Hid ((findW [pk] addr 8 65537).2 ≤ 80) := Lib.hid (findW_most [pk] addr 8 65537)
      have MW : Hid (w.heap.size ≤ mb ∧ w.heap.size ≤ mg ∧ w.heap.size ≤ ab ∧ w.heap.size ≤ ag) := Lib.hid (by have := GB.out.size; omega)
      have GB := Lib.hid (below_then GB.out hb (Nat.le_refl _))
      clear hm ha m1 m2 m3 m4 hb SL
      generalize findW [pk] addr 8 65537 = fw at *
      obtain ⟨⟨fh, fo⟩, fk⟩ := fw
      have hfo : fo = false := HFI.out
      subst hfo
      simp only at AL HMO
      go_wp2_with fail
      refine AL.out.mono ?_
      rintro e w5 ⟨A1, a1, A2, a2, cnt', st', rfl, _, _, hm, hcn, ha, ho, hst⟩
      have hst := hst (RH1.out _)
      subst hst
      have GB := Lib.hid (many_below GB.out ho MW.out)
      have AN : Hid (∀ W, Below w5.heap.size w5 W → Calls Try.prog 11 #[.pointer (some ⟨mb, 0, none⟩), .agg #[.pointer (some ⟨ab, 0, none⟩), .int .i64 65537, .int .i64 0, .bool true, .pointer none]] W (ManyPost W mb mg ab ag [pk] cnt' false ⟨0, false, [], []⟩ (thruW [pk] 8 65537 ⟨[], []⟩).2 ((thru (fun h => cellOf 3 [pk].length h) 8 65537 ⟨[], []⟩).reads (manyM [pk] cnt')))) := Lib.hid (fun W hb => by
        have := alone_all (root := 65537) (addr := 0) (one28 HX.out) (one_fit HP.out) (by simp at hcn; omega) (hm.only (Only.of_below hb (fun _ => False)) id id) (ha.still hb) (by omega)
        rw [HTH.out] at this
        exact this)
      have LT : Hid (mb < w5.heap.size ∧ mg < w5.heap.size ∧ ab < w5.heap.size ∧ ag < w5.heap.size) := Lib.hid ⟨hm.top.lt, hm.row.lt, ha.top.lt, ha.row.lt⟩
      clear hm ha ho AL hcn HFI
      simp only [List.length_nil]
      have hb := below_new w5 (.cells #[.int .i64 fh, .bool false, .slice A1 0 a1, .slice A2 0 a2] 33)
      have V5 := Lib.hid (Whole.new w5 33 #[.int .i64 fh, .bool false, .slice A1 0 a1, .slice A2 0 a2])
      have GB := Lib.hid (below_then GB.out hb (Nat.le_refl _))
      have AM := Lib.hid (AN.out _ hb)
      clear hb AN
      go_upto_region 12 with (fail)
      generalize w5.alloc (.cells #[.int .i64 fh, .bool false, .slice A1 0 a1, .slice A2 0 a2] 33) = w6 at *
      generalize w5.heap.size = qr at *
      go_wp2_with fail
      refine AM.out.mono ?_
      rintro e w7 ⟨A3, a3, A4, a4, cnt2, st2, rfl, _, _, _, _, ha, ho, hst⟩
      have hst := hst (RH2.out _)
      subst hst
      have GB := Lib.hid (many_below GB.out ho MW.out)
      have V7 := Lib.hid (V5.out.only ho (by have := LT.out; rintro ((h5 | h5) | (h5 | h5)) <;> omega))
      have HA := Lib.hid ha
      clear ha ho AM V5 LT MW
      simp only [List.length_nil]
      have hb := below_new w7 (.cells #[.int .i64 0, .bool false, .slice A3 0 a3, .slice A4 0 a4] 33)
      have V8 := Lib.hid (Whole.new w7 33 #[.int .i64 0, .bool false, .slice A3 0 a3, .slice A4 0 a4])
      have V7 := Lib.hid (V7.out.below hb V7.out.lt)
      have GB := Lib.hid (below_then GB.out hb (Nat.le_refl _))
      have HA := Lib.hid (HA.out.still hb)
      clear hb
      go_upto_region 13 with (fail)
      generalize w7.alloc (.cells #[.int .i64 0, .bool false, .slice A3 0 a3, .slice A4 0 a4] 33) = w8 at *
      generalize w7.heap.size = qs at *
      obtain ⟨z0, z1, z2, z3⟩ := grow4 V7.out
      obtain ⟨y0, y1, y2, y3⟩ := grow4 V8.out
      have ST := Lib.hid (stale_any ab false w8 HA.out.c2)
      have FX := Lib.hid (FIN.out _ GB.out)
      have j4 : decide ((fk : Int) ≤ 80) = true := decide_eq_true (by have := HMO.out; omega)
      clear V7 V8 HA GB FIN HMO RH1 RH2 HTH
      go_wp2_with fail
      refine ST.out.mono ?_
      rintro e w9 ⟨rfl, rfl⟩
      clear ST
      go_wp2_with fail
      exact FX.out
end Go.Proofs.Ytlhjimkfcchdaaa
