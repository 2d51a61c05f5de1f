/-
  Layer 8: addresses with room, as pages; the least and the greatest one; what follows. No program is asked.
-/
import Derived.Test.YtmppodobgkhojaaGapHigh
import Derived.Test.YtmppodobgkhojaaGapEvery
namespace Go.Proofs.Ytmppodobgkhojaa
set_option linter.unusedVariables false

/-- Whether there is room at an address: in one gap. -/
def FitsAt (l : List Ar) (addr size : Int) : Prop := addr % 4096 = 0 ∧ 1 ≤ size ∧ size % 4096 = 0 ∧ ∃ g ∈ gapsL l, g.s ≤ addr ∧ addr + size ≤ g.e
theorem apart_eq {gs : List Gp} (h : Apart gs) {g k : Gp} (hg : g ∈ gs) (hk : k ∈ gs) : g = k ∨ g.e < k.s ∨ k.e < g.s := by
  induction gs with
  | nil => cases hg
  | cons a r ih =>
    have hp := List.pairwise_cons.1 h
    rcases List.mem_cons.1 hg with rfl | hg
    · rcases List.mem_cons.1 hk with rfl | hk
      · exact .inl rfl
      · exact .inr (.inl (hp.1 k hk))
    · rcases List.mem_cons.1 hk with e | hk
      · rw [e]; exact .inr (.inr (hp.1 g (by assumption)))
      · exact ih hp.2 (by assumption) hk
/-- Room, page by page. -/
theorem fits_pages {l : List Ar} (h : RightL l) (addr size : Int) : FitsAt l addr size ↔ (addr % 4096 = 0 ∧ 1 ≤ size ∧ size % 4096 = 0 ∧ ∀ p : Int, addr ≤ 4096 * p → 4096 * p < addr + size → FreeP l p) := by
  constructor
  · rintro ⟨h1, h2, h3, g, hg, h4, h5⟩
    exact ⟨h1, h2, h3, fun p hp hq => (gaps_page h p).1 ⟨g, hg, by unfold InG; omega⟩⟩
  · rintro ⟨h1, h2, h3, h4⟩
    obtain ⟨g, hg, hi⟩ := (gaps_page h (addr / 4096)).2 (h4 _ (by omega) (by omega))
    have gg := gapsL_good g hg
    have g1 := gg.lo; have g2 := gg.lt; have g3 := gg.hi; have g4 := gg.sp; have g5 := gg.ep
    unfold InG at hi
    refine ⟨h1, h2, h3, g, hg, by omega, ?_⟩
    rcases Int.lt_or_le g.e (addr + size) with hlt | hle
    · exfalso
      obtain ⟨k, hk, hik⟩ := (gaps_page h (g.e / 4096)).2 (h4 _ (by omega) (by omega))
      unfold InG at hik
      have kg := gapsL_good k hk
      have := kg.lt
      rcases apart_eq (gapsL_apart l) hg hk with rfl | h6 | h6 <;> omega
    · exact hle

theorem mem_good {l : List Ar} {x : GG} : x ∈ goodL l ↔ x.1 ∈ gapsL l := by
  rw [← goodL_raw l]
  constructor
  · intro h; exact List.mem_map.2 ⟨x, h, rfl⟩
  · intro h
    obtain ⟨y, hy, e⟩ := List.mem_map.1 h
    obtain rfl : y = x := Subtype.ext e
    exact hy
/-- What is told has room, from its start up to its end. -/
theorem mem_rooms {lo hi size : Int} {l : List Ar} {y : GG} (h : y ∈ roomsL lo hi size l) : 1 ≤ size ∧ size % 4096 = 0 ∧ size ≤ y.1.e - y.1.s ∧ ∃ g ∈ gapsL l, y.1 = withinG lo hi g := by
  unfold roomsL at h
  by_cases hs : 1 ≤ size ∧ size % 4096 = 0
  · rw [if_pos hs] at h
    obtain ⟨x, hx, hy⟩ := List.mem_flatMap.1 h
    unfold roomOf at hy
    by_cases hg : GoodG (withinG lo hi x.1) ∧ size ≤ (withinG lo hi x.1).e - (withinG lo hi x.1).s
    · rw [dif_pos hg] at hy
      obtain rfl := List.mem_singleton.1 hy
      exact ⟨hs.1, hs.2, hg.2, x.1, mem_good.1 hx, rfl⟩
    · rw [dif_neg hg] at hy; cases hy
  · rw [if_neg hs] at h; cases h
/-- Within bounds: the numbers. -/
theorem within_num {g : Gp} (hg : GoodG g) {lo hi size : Int} (h1 : 1 ≤ size) (h2 : size ≤ (withinG lo hi g).e - (withinG lo hi g).s) :
    lo ≤ (withinG lo hi g).s ∧ g.s ≤ (withinG lo hi g).s ∧ (withinG lo hi g).e ≤ hi ∧ (withinG lo hi g).e ≤ g.e ∧ (withinG lo hi g).s < lo + 4096 ∨ (lo ≤ (withinG lo hi g).s ∧ (withinG lo hi g).s = g.s ∧ (withinG lo hi g).e ≤ hi ∧ (withinG lo hi g).e ≤ g.e) := by
  unfold withinG at *
  have := hg.sp
  by_cases h : max lo g.s < min hi g.e
  · rw [if_pos h] at h2 ⊢
    simp only at h2 ⊢
    have a1 := upg_le (max lo g.s)
    have a2 := pg_le (min hi g.e)
    omega
  · rw [if_neg h] at h2; simp at h2; omega
/-- The gap that has room at an address is told, and holds it. -/
theorem rooms_has {lo hi size : Int} {l : List Ar} {b : Int} (hf : FitsAt l b size) (hlo : lo ≤ b) (hhi : b + size ≤ hi) : ∃ y ∈ roomsL lo hi size l, y.1.s ≤ b ∧ b + size ≤ y.1.e := by
  obtain ⟨h1, h2, h3, g, hg, h4, h5⟩ := hf
  have gg := gapsL_good g hg
  have g1 := gg.lo; have g2 := gg.lt; have g3 := gg.hi; have g4 := gg.sp; have g5 := gg.ep
  have hw : withinG lo hi g = ⟨upg (max lo g.s), pg (min hi g.e)⟩ := by unfold withinG; rw [if_pos (by omega)]
  have a1 := upg_le (max lo g.s)
  have a2 := pg_le (min hi g.e)
  have e1 : (withinG lo hi g).s ≤ b := by rw [hw]; simp only; omega
  have e2 : b + size ≤ (withinG lo hi g).e := by rw [hw]; simp only; omega
  have hsz : size ≤ (withinG lo hi g).e - (withinG lo hi g).s := by omega
  refine ⟨⟨withinG lo hi g, within_good gg h2 hsz⟩, ?_, e1, e2⟩
  unfold roomsL
  rw [if_pos ⟨h2, h3⟩]
  refine List.mem_flatMap.2 ⟨⟨g, gg⟩, mem_good.2 hg, ?_⟩
  unfold roomOf
  rw [dif_pos ⟨within_good gg h2 hsz, hsz⟩]
  simp
theorem room_fits {lo hi size : Int} {l : List Ar} {y : GG} (h : y ∈ roomsL lo hi size l) {b : Int} (hb : b % 4096 = 0) (h1 : y.1.s ≤ b) (h2 : b + size ≤ y.1.e) : FitsAt l b size ∧ lo ≤ b ∧ b + size ≤ hi := by
  obtain ⟨s1, s2, s3, g, hg, he⟩ := mem_rooms h
  have hn := within_num (lo := lo) (hi := hi) (gapsL_good g hg) s1 (by rw [← he]; exact s3)
  rw [← he] at hn
  exact ⟨⟨hb, s1, s2, g, hg, by omega, by omega⟩, by omega, by omega⟩
/-- What is told rises. -/
theorem rooms_rise {lo hi size : Int} {l : List Ar} : (roomsL lo hi size l).Pairwise (fun a b => a.1.e < b.1.s) := by
  unfold roomsL
  by_cases hs : 1 ≤ size ∧ size % 4096 = 0
  · rw [if_pos hs]
    have hp : (goodL l).Pairwise (fun a b => a.1.e < b.1.s) := by
      have := gapsL_apart l
      unfold Apart at this
      rw [← goodL_raw l] at this
      exact List.pairwise_map.1 this
    have hmem : ∀ x ∈ goodL l, True := fun _ _ => trivial
    generalize goodL l = gs at *
    induction gs with
    | nil => exact List.Pairwise.nil
    | cons x r ih =>
      have hc := List.pairwise_cons.1 hp
      have e : roomsG lo hi size (x :: r) = roomOf lo hi size x ++ roomsG lo hi size r := by simp [roomsG]
      rw [e]
      have in1 : ∀ {z w : GG}, w ∈ roomOf lo hi size z → z.1.s ≤ w.1.s ∧ w.1.e ≤ z.1.e := fun {z w} hw => by
        unfold roomOf at hw
        by_cases hg : GoodG (withinG lo hi z.1) ∧ size ≤ (withinG lo hi z.1).e - (withinG lo hi z.1).s
        · rw [dif_pos hg] at hw
          obtain rfl := List.mem_singleton.1 hw
          have := within_num (lo := lo) (hi := hi) z.2 hs.1 hg.2
          simp only; omega
        · rw [dif_neg hg] at hw; cases hw
      refine List.pairwise_append.2 ⟨?_, ih hc.2 (fun _ _ => trivial), fun a ha b hb => ?_⟩
      · unfold roomOf; split <;> simp
      · obtain ⟨z, hz, hb⟩ := List.mem_flatMap.1 hb
        have h1 := in1 ha
        have h2 := in1 hb
        have h3 := hc.1 z hz
        omega
  · rw [if_neg hs]; exact List.Pairwise.nil

/-- Where there may be something. -/
def May (l : List Ar) (lo hi size b : Int) : Prop := FitsAt l b size ∧ lo ≤ b ∧ b + size ≤ hi
theorem low_is (l : List Ar) (lo hi size : Int) : (lowOf (roomsL lo hi size l) = (0, false) ∧ ∀ b, ¬ May l lo hi size b) ∨ (∃ a, lowOf (roomsL lo hi size l) = (a, true) ∧ May l lo hi size a ∧ ∀ b, May l lo hi size b → a ≤ b) := by
  have hr := rooms_rise (lo := lo) (hi := hi) (size := size) (l := l)
  cases hc : roomsL lo hi size l with
  | nil =>
    refine .inl ⟨rfl, fun b ⟨hf, h1, h2⟩ => ?_⟩
    obtain ⟨y, hy, _⟩ := rooms_has hf h1 h2
    rw [hc] at hy; cases hy
  | cons x r =>
    have hx : x ∈ roomsL lo hi size l := by rw [hc]; simp
    have hm := mem_rooms hx
    refine .inr ⟨x.1.s, rfl, room_fits hx x.2.sp (Int.le_refl _) (by omega), fun b ⟨hf, h1, h2⟩ => ?_⟩
    obtain ⟨y, hy, h3, h4⟩ := rooms_has hf h1 h2
    rw [hc] at hy hr
    rcases List.mem_cons.1 hy with rfl | hy
    · exact h3
    · have := (List.pairwise_cons.1 hr).1 y hy
      have := x.2.lt
      omega
theorem high_is (l : List Ar) (lo hi size : Int) : (highOf size (roomsL lo hi size l) = (0, false) ∧ ∀ b, ¬ May l lo hi size b) ∨ (∃ a, highOf size (roomsL lo hi size l) = (a, true) ∧ May l lo hi size a ∧ ∀ b, May l lo hi size b → b ≤ a) := by
  have hr := rooms_rise (lo := lo) (hi := hi) (size := size) (l := l)
  cases hc : (roomsL lo hi size l).getLast? with
  | none =>
    have hn : roomsL lo hi size l = [] := List.getLast?_eq_none_iff.1 hc
    refine .inl ⟨by unfold highOf; rw [hc], fun b ⟨hf, h1, h2⟩ => ?_⟩
    obtain ⟨y, hy, _⟩ := rooms_has hf h1 h2
    rw [hn] at hy; cases hy
  | some x =>
    obtain ⟨r, hs⟩ := List.getLast?_eq_some_iff.1 hc
    have hx : x ∈ roomsL lo hi size l := by rw [hs]; simp
    have hm := mem_rooms hx
    have hxe := x.2.ep
    refine .inr ⟨x.1.e - size, by unfold highOf; rw [hc], room_fits hx (by omega) (by omega) (by omega), fun b ⟨hf, h1, h2⟩ => ?_⟩
    obtain ⟨y, hy, h3, h4⟩ := rooms_has hf h1 h2
    rw [hs] at hy hr
    rcases List.mem_append.1 hy with hy | hy
    · have := (List.pairwise_append.1 hr).2.2 y hy x (by simp)
      have := x.2.lt
      omega
    · obtain rfl := List.mem_singleton.1 hy
      omega
/-- What Fits tells. -/
theorem fits_is (l : List Ar) (addr size : Int) : ((lowOf (roomsL addr 2097152 size l)).2 && decide ((lowOf (roomsL addr 2097152 size l)).1 = addr)) = true ↔ FitsAt l addr size := by
  rcases low_is l addr 2097152 size with ⟨h1, h2⟩ | ⟨a, h1, h2, h3⟩
  · rw [h1]
    simp only [Bool.false_and, Bool.false_eq_true, false_iff]
    intro hf
    obtain ⟨g, hg, _, h5⟩ := hf.2.2.2
    have := (gapsL_good g hg).hi
    exact h2 addr ⟨hf, Int.le_refl _, by omega⟩
  · rw [h1]
    simp only [Bool.true_and, decide_eq_true_eq]
    constructor
    · rintro rfl; exact h2.1
    · intro hf
      obtain ⟨g, hg, _, h5⟩ := hf.2.2.2
      have := (gapsL_good g hg).hi
      have := h3 addr ⟨hf, Int.le_refl _, by omega⟩
      have := h2.2.1
      omega
/-- The longest gap. -/
theorem most_ge {gs : List Gp} {g : Gp} (h : g ∈ gs) : g.e - g.s ≤ mostL gs := by
  induction gs with
  | nil => cases h
  | cons a r ih =>
    unfold mostL
    rcases List.mem_cons.1 h with rfl | h
    · omega
    · have := ih h; omega
theorem most_cons (a : Gp) (r : List Gp) : mostL (a :: r) = max (a.e - a.s) (mostL r) := rfl
theorem most_in {gs : List Gp} (h : 0 < mostL gs) : ∃ g ∈ gs, g.e - g.s = mostL gs := by
  induction gs with
  | nil => simp [mostL] at h
  | cons a r ih =>
    rw [most_cons] at *
    rcases Int.lt_or_le (a.e - a.s) (mostL r) with hl | hl
    · obtain ⟨g, hg, e⟩ := ih (by omega)
      exact ⟨g, by simp [hg], by omega⟩
    · exact ⟨a, by simp, by omega⟩
theorem fits_most {l : List Ar} {b size : Int} (h : FitsAt l b size) : size ≤ mostL (gapsL l) := by
  obtain ⟨_, _, _, g, hg, h1, h2⟩ := h
  have := most_ge hg
  omega
theorem most_num (l : List Ar) : 0 ≤ mostL (gapsL l) ∧ mostL (gapsL l) ≤ 2031616 ∧ mostL (gapsL l) % 4096 = 0 := by
  have hb := most_bound (goodL l)
  unfold mostG at hb
  rw [goodL_raw] at hb
  refine ⟨hb.1, hb.2, ?_⟩
  rcases Int.lt_or_le 0 (mostL (gapsL l)) with h | h
  · obtain ⟨g, hg, e⟩ := most_in h
    have := (gapsL_good g hg).sp; have := (gapsL_good g hg).ep
    omega
  · omega
theorem most_fits {l : List Ar} (h : 0 < mostL (gapsL l)) : ∃ b, FitsAt l b (mostL (gapsL l)) ∧ 0 ≤ b ∧ b + mostL (gapsL l) ≤ 2097152 := by
  obtain ⟨g, hg, e⟩ := most_in h
  have gg := gapsL_good g hg
  have := gg.lo; have := gg.lt; have := gg.hi; have := gg.sp; have := gg.ep
  exact ⟨g.s, ⟨by omega, by omega, (most_num l).2.2, g, hg, by omega, by omega⟩, by omega, by omega⟩
end Go.Proofs.Ytmppodobgkhojaa
