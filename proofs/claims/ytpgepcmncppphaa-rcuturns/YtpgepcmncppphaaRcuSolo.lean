/-
  Layer 4: a step of a call, as the reference says it; and one trail whose memory lies elsewhere.
-/
import Derived.Test.YtpgepcmncppphaaRcuRef
namespace Go.Proofs.Ytpgepcmncppphaa
open Go.ChangeShapes Go.WideShapes Go.ChangeAt Go.RowKit
set_option linter.unusedVariables false

/-- What a step leaves, as the reference says it. -/
structure SStep (kd : Int) (y : Rt) (bl' : List Int) (w : World) (b g tb : Nat) (tv mv : Value) (sp : Option Addr) (m : Mm) (a : Bool) (T' : Tr) (m' : Mm) (tv' mv' : Value) (w' : World) : Prop where
  st : St w' b g tb tv' mv' T' m'
  sim : Sim kd y T'
  size : m'.cs.length = 30
  board : seen m'.cs 3 17 = bl'
  cnt : m'.cnt ≤ m.cnt + 1
  only : Only (May b g tb tv mv sp) w w'
  rt : ∀ k, tv'.ownBlock = some k → tv.ownBlock = some k ∨ w.heap.size ≤ k
  rm : ∀ k, mv'.ownBlock = some k → mv.ownBlock = some k ∨ w.heap.size ≤ k
  flag : ∀ p, sp = some p → ¬ All b g tb tv mv p.block → p.block < w.heap.size → w'.heap[p.block]? = (flagged sp a w).heap[p.block]?

section
variable {w0 w w' w'' : World} {b g tb : Nat} {tv mv tv' mv' : Value} {T T' : Tr} {m m' : Mm} {sp : Option Addr} {x y : Rt} {bl bl' : List Int} {kd : Int} {a : Bool}

theorem SStep.all (h : SStep kd y bl' w b g tb tv mv sp m a T' m' tv' mv' w') {k : Nat} (hk : k < w.heap.size) (ha : All b g tb tv' mv' k) : All b g tb tv mv k := by
  rcases ha with h1 | h1 | h1 | h1 | h1
  · exact .inl h1
  · exact .inr (.inl h1)
  · exact .inr (.inr (.inl h1))
  · rcases h.rt k h1 with h2 | h2
    · exact .inr (.inr (.inr (.inl h2)))
    · omega
  · rcases h.rm k h1 with h2 | h2
    · exact .inr (.inr (.inr (.inr h2)))
    · omega
theorem SStep.flags {qb qi : Nat} {ty : TypeId} {cs : Array Value} (h : SStep kd y bl' w b g tb tv mv (some ⟨qb, qi, none⟩) m a T' m' tv' mv' w') (hw : Whole w qb ty cs) (hn : ¬ All b g tb tv mv qb) :
    Whole w' qb ty (if a then cs.setIfInBounds qi (.bool true) else cs) := by
  have := h.flag ⟨qb, qi, none⟩ rfl hn hw.lt
  unfold Whole
  simp only at this
  rw [this]
  unfold flagged
  cases a
  · exact hw
  · exact hw.put qi (.bool true)

theorem sim_step (time : Int) (r : Nat) (hr : r < 16) (hk0 : 0 ≤ kd) (hk1 : kd ≤ 255) (h : St w b g tb tv mv T m) (hs : Sim kd x T) (hm : m.cs.length = 30) (hsp : FlagIn w b g tb tv mv sp) (hs2 : kd % 3 = 2 → sp ≠ none) (hu : m.cnt + 18 ≤ 4611686018427387904) :
    Calls Try.prog 10 #[.pointer (some ⟨tb, 0, none⟩), .int .i64 time, .func (.func 11) #[.agg #[.int .u8 kd, .int .i64 r, .pointer sp]] #[]] w fun e w' =>
      e = .returned (.bool (rstep kd r x (seen m.cs 3 17)).1.over) ∧ ∃ a T' m' tv' mv', (x.went || a) = (rstep kd r x (seen m.cs 3 17)).1.went ∧ SStep kd (rstep kd r x (seen m.cs 3 17)).1 (rstep kd r x (seen m.cs 3 17)).2 w b g tb tv mv sp m a T' m' tv' mv' w' := by
  cases ho : x.over with
  | true =>
    refine (step_over time _ h (hs.over.trans ho)).mono ?_
    rintro e w' ⟨rfl, rfl⟩
    have hR : rstep kd r x (seen m.cs 3 17) = (x, seen m.cs 3 17) := by simp [rstep, ho]
    rw [hR]
    exact ⟨by rw [ho], false, T, m, tv, mv, by simp, h, hs, hm, rfl, by omega, Only.refl _ _, fun _ h => .inl h, fun _ h => .inl h, fun p _ _ _ => rfl⟩
  | false =>
    have hl := hs.len
    refine (call_step time kd r hk0 hk1 h (hs.over.trans ho) hs.ph hsp hs2 (by omega) hu).mono ?_
    rintro e w' ⟨rfl, T', tv', mv', hst⟩
    have ag := turn_agrees kd r x T.told m hr hm hk0 ho (hs.told ho)
    have hc := turn_cnt (callP kd r) T.told m
    refine ⟨by rw [ag.over], (turn (callP kd r) T.told m).a, T', _, tv', mv', ag.went, hst.st, ⟨hst.over.trans ag.over, hst.ph, ?_, fun hy => ?_, ag.at_⟩, ag.size, ag.board, hc.1, hst.only, hst.t, hst.m, hst.flag⟩
    · rw [hst.told, List.length_append]
      have h18 : T.told.length ≤ 17 := by
        rcases hs.told ho with ⟨_, h2⟩ | ⟨_, _, h2⟩ | ⟨_, _, h17, cells, h2, h3, _⟩
        · rw [h2]; simp
        · rw [h2]; simp
        · rw [h2]; simp; omega
      omega
    · rw [hst.told]; exact ag.told hy
end

/-- The flag's place, where there is one. -/
def flagAt (q : Option Nat) : Option Addr := q.map fun k => ⟨k, 0, none⟩
/-- One trail of its own, with a flag of its own or none, over a memory. -/
structure Solo (w0 : World) (b g tb : Nat) (q : Option Nat) (kd : Int) (x : Rt) (bl : List Int) (c : Int) (T : Tr) (m : Mm) (tv mv : Value) (w : World) : Prop where
  st : St w b g tb tv mv T m
  sim : Sim kd x T
  size : m.cs.length = 30
  board : seen m.cs 3 17 = bl
  cnt : m.cnt ≤ c
  flag : ∀ k, q = some k → Whole w k 4 #[.bool x.went] ∧ w0.heap.size ≤ k
  only : Only (Two b g) w0 w
  new : ∀ k, All b g tb tv mv k → Two b g k ∨ w0.heap.size ≤ k

section
variable {w0 w w' w'' : World} {b g tb : Nat} {q : Option Nat} {tv mv tv' mv' : Value} {T T' : Tr} {m m' : Mm} {sp : Option Addr} {x y : Rt} {bl bl' : List Int} {kd c : Int} {a : Bool}

theorem Solo.still (h : Solo w0 b g tb q kd x bl c T m tv mv w) (hb : Below w.heap.size w w') : Solo w0 b g tb q kd x bl c T m tv mv w' :=
  ⟨h.st.still hb, h.sim, h.size, h.board, h.cnt, fun k hk => ⟨(h.flag k hk).1.below hb (h.flag k hk).1.lt, (h.flag k hk).2⟩, h.only.trans (Only.of_below hb _), h.new⟩

theorem solo_step (time : Int) (r : Nat) (hr : r < 16) (hk0 : 0 ≤ kd) (hk1 : kd ≤ 255) (h : Solo w0 b g tb q kd x bl c T m tv mv w) (hs2 : kd % 3 = 2 → q ≠ none) (hc : c ≤ 1000000) :
    Calls Try.prog 10 #[.pointer (some ⟨tb, 0, none⟩), .int .i64 time, .func (.func 11) #[.agg #[.int .u8 kd, .int .i64 r, .pointer (flagAt q)]] #[]] w fun e w' =>
      ∃ T' m' tv' mv', e = .returned (.bool (rstep kd r x bl).1.over) ∧ Solo w0 b g tb q kd (rstep kd r x bl).1 (rstep kd r x bl).2 (c + 1) T' m' tv' mv' w' := by
  have hn : ∀ k, q = some k → ¬ All b g tb tv mv k := fun k hk => not_all h.st (h.flag k hk).1 (by decide) (by decide) (by decide) (by decide)
  have hsp : FlagIn w b g tb tv mv (flagAt q) := by
    intro p hp
    cases q with
    | none => cases hp
    | some k =>
      injection hp with hp
      subst hp
      exact ⟨⟨x.went, (h.flag k rfl).1.cell 0⟩, (h.flag k rfl).1.frozen 0, hn k rfl⟩
  have hcn := h.cnt
  refine (sim_step time r hr hk0 hk1 h.st h.sim h.size hsp (fun h2 => by
    cases q with
    | none => exact absurd rfl (hs2 h2)
    | some k => simp [flagAt]) (by omega)).mono ?_
  rw [h.board]
  rintro e w' ⟨rfl, a, T', m', tv', mv', ha, hS⟩
  have hO : Only (Two b g) w0 w' := by
    refine ⟨hS.only.os.trans h.only.os, hS.only.tape.trans h.only.tape, hS.only.output.trans h.only.output, Nat.le_trans h.only.size hS.only.size, fun k hk hn2 => ?_⟩
    refine (hS.only.block k (Nat.lt_of_lt_of_le hk h.only.size) ?_).trans (h.only.block k hk hn2)
    rintro (hA | ⟨p, hp, rfl⟩)
    · rcases h.new k hA with h2 | h2
      · exact hn2 h2
      · omega
    · cases q with
      | none => cases hp
      | some j =>
        injection hp with hp
        subst hp
        have := (h.flag j rfl).2
        simp only at hk
        omega
  refine ⟨T', m', tv', mv', rfl, hS.st, hS.sim, hS.size, hS.board, ?_, fun k hk => ⟨?_, (h.flag k hk).2⟩, hO, fun k hk => ?_⟩
  · have := hS.cnt; omega
  · subst hk
    have := hS.flags (h.flag k rfl).1 (hn k rfl)
    rw [← ha]
    cases a
    · simpa using this
    · simpa using this
  · by_cases hlt : k < w.heap.size
    · exact h.new k (hS.all hlt hk)
    · have := h.only.size; exact .inr (by omega)
end

/-- Steps of one task, the one behind the other. -/
def rsteps (kd : Int) (r : Nat) : Nat → Rt × List Int → Rt × List Int
  | 0, x => x
  | n + 1, x => rstep kd r (rsteps kd r n x).1 (rsteps kd r n x).2
/-- A new trail and a new flag. -/
theorem solo_new {w w1 w2 : World} {b g tb : Nat} {m : Mm} (kd c : Int) (hs : St w1 b g tb (.slice none 0 0) (.slice none 0 0) newTr m) (hb : Below w.heap.size w w1) (htb : w.heap.size ≤ tb) (hm : m.cs.length = 30) (hc : m.cnt ≤ c) :
    Solo w b g tb none kd rt0 (seen m.cs 3 17) c newTr m (.slice none 0 0) (.slice none 0 0) w1 ∧
    Solo w b g tb (some w1.heap.size) kd rt0 (seen m.cs 3 17) c newTr m (.slice none 0 0) (.slice none 0 0) (w1.alloc (.cells #[.bool false] 4)) := by
  have hb3 : Below w1.heap.size w1 (w1.alloc (.cells #[.bool false] 4)) := (Below.refl _ _).alloc (Nat.le_refl _) _
  have hn : ∀ k, All b g tb (.slice none 0 0) (.slice none 0 0) k → Two b g k ∨ w.heap.size ≤ k := by
    rintro k (hk | hk | hk | hk | hk)
    · exact .inl (.inl hk)
    · exact .inl (.inr hk)
    · exact .inr (by omega)
    · simp [Value.ownBlock] at hk
    · simp [Value.ownBlock] at hk
  refine ⟨⟨hs, sim_new kd, hm, rfl, hc, (fun k hk => by cases hk), Only.of_below hb _, hn⟩, ⟨hs.still hb3, sim_new kd, hm, rfl, hc, fun k hk => ?_, (Only.of_below hb _).trans (Only.of_below hb3 _), hn⟩⟩
  injection hk with hk
  subst hk
  exact ⟨Whole.new w1 _ _, hb.size⟩
end Go.Proofs.Ytpgepcmncppphaa
