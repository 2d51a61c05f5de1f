/-
  Layer 3: the walk of the statement on waits.
-/
import Derived.Test.YtodclnfhhaiblaaTrailOne
namespace Go.Proofs.Ytodclnfhhaiblaa
open Go.ChangeShapes Go.WideShapes Go.ChangeAt Go.RowKit
set_option linter.unusedVariables false

/-- The program: a wait, and a store. -/
def wl (v : Int) : List Pop := [⟨4, 0, 0, v, false⟩, ⟨1, 1, 7, 0, false⟩]

/-- Behind k steps that waited. -/
structure Waited (T : Tr) (m : Mm) (k : Nat) : Prop where
  told : T.told = []
  marks : T.marks = []
  over : T.over = false
  cs : m.cs = [0, 0]
  cnt : m.cnt = k

theorem waits_on {v : Int} {T : Tr} {m : Mm} {k : Nat} (hv : v ≠ 0) (h : Waited T m k) (time : Int) :
    Waited (ended (stepR (wl v) time T m).1.T) (stepR (wl v) time T m).1.m (k + 1) ∧ dry (stepR (wl v) time T m).1.T = true := by
  have hl : T.told.length ≤ many3 (wl v) := by simp [h.told]
  have hsk : skip (replay (wl v) T.told 0).1 = ⟨4, 0, 0, v, false⟩ :: [⟨1, 1, 7, 0, false⟩] := by rw [h.told]; rfl
  have hok : okOf 4 0 v m = false := by
    simp only [okOf, inb, h.cs, if_true]
    simp [nth, Ne.symm hv]
  obtain ⟨d1, d2, d3, d4, d5, d6⟩ := step_waits (time := time) (m := m) hl hsk hok
  refine ⟨⟨d1.trans h.told, d2.trans h.marks, d3, ?_, ?_⟩, d4⟩
  · rw [d5]; simp [memOf, inb, h.cs]
  · rw [d5]; simp [memOf, inb, h.cs, h.cnt]
/-- It ends. -/
theorem waits_end {v : Int} {T : Tr} {m : Mm} (ht : T.told = []) (hm : T.marks = []) (hc : m.cs = [v, 0]) (time : Int) :
    (ended (stepR (wl v) time T m).1.T).told = [v] ∧ (ended (stepR (wl v) time T m).1.T).marks = [] ∧ (ended (stepR (wl v) time T m).1.T).over = false ∧ dry (stepR (wl v) time T m).1.T = true ∧ (stepR (wl v) time T m).1.m = ⟨[v, 0], m.cnt + 1⟩ := by
  have hl : T.told.length ≤ many3 (wl v) := by simp [ht]
  have hsk : skip (replay (wl v) T.told 0).1 = ⟨4, 0, 0, v, false⟩ :: [⟨1, 1, 7, 0, false⟩] := by rw [ht]; rfl
  have hok : okOf 4 0 v m = true := by
    simp only [okOf, inb, hc, if_true]
    simp [nth]
  obtain ⟨d1, d2, d3, d4, d5, d6, d7⟩ := step_does (time := time) (m := m) hl hsk hok
  refine ⟨?_, ?_, ?_, ?_, ?_⟩
  · rw [d1, ht]; simp [toldOf, inb, hc, nth]
  · rw [d2, hm]; rfl
  · rw [d3]; rfl
  · rw [d4]; rfl
  · rw [d5]; simp [memOf, inb, hc]
/-- The store is done. -/
theorem waits_store {v : Int} {T : Tr} {m : Mm} (ht : T.told = [v]) (hc : m.cs = [v, 0]) (time : Int) :
    (ended (stepR (wl v) time T m).1.T).told.length = 2 ∧ dry (stepR (wl v) time T m).1.T = false ∧ (stepR (wl v) time T m).1.m = ⟨[v, 7], m.cnt + 1⟩ := by
  have hl : T.told.length ≤ many3 (wl v) := by rw [ht, show many3 (wl v) = 2 from rfl]; simp
  have hsk : skip (replay (wl v) T.told 0).1 = ⟨1, 1, 7, 0, false⟩ :: [] := by rw [ht]; rfl
  have hok : okOf 1 1 0 m = true := rfl
  obtain ⟨d1, d2, d3, d4, d5, d6, d7⟩ := step_does (time := time) (m := m) hl hsk hok
  refine ⟨?_, ?_, ?_⟩
  · rw [d1, ht]; rfl
  · rw [d4]; rfl
  · rw [d5]; simp [memOf, inb, hc, popV]

def WaitRel (w0 : World) (b g tb pb lb : Nat) (v : Int) (N : Nat) (iv : Value) (wr : World) : Prop :=
  ∃ (k : Nat) (tv mv : Value) (T : Tr) (m : Mm), k ≤ N ∧ iv = .int .i64 k ∧ One w0 b g tb pb (some ⟨lb, 0, none⟩) 2 2 lb 0 (wl v) tv mv T m wr ∧ Waited T m k

set_option maxHeartbeats 4000000 in
set_option maxRecDepth 100000 in
theorem trWaits_walk (v st : Int) (w : World) (hs0 : 0 ≤ st) (hs1 : st ≤ 255) :
    Calls Try.prog 5 #[.int .i64 v, .int .u8 st] w fun e w' => e = .returned (.bool true) ∧ Below w.heap.size w w' := by
  obtain ⟨N, hN⟩ : ∃ N : Nat, st % 100 = N := ⟨(st % 100).toNat, by omega⟩
  have hN1 : N < 100 := by omega
  have HN := Lib.hid hN
  clear hN
  go_enter Try.func5, Try.ntmps5
  go_wp2_with fail
  refine (new_mem_ex 2 _).mono ?_
  rintro e w1 ⟨b, g, rfl, hm, hb, hg, hbel⟩
  have HM : Hid (MemAt w1 b g (Mm.mk [0, 0] 0).cs (Mm.mk [0, 0] 0).cnt) := hm
  have HB := Lib.hid hbel
  have hsz1 := hbel.size
  clear hm hbel
  go_wp2_with fail
  refine (new_trail_ex (m := ⟨[0, 0], 0⟩) HM.out).mono ?_
  rintro e w2 ⟨tb, rfl, hs, htb, hbel⟩
  have HB2 := Lib.hid (HB.out.trans (hbel.mono HB.out.size))
  have HS := Lib.hid hs
  clear hs hbel HB HM
  go_upto_region 4 with (fail)
  have hb3 : Below w2.heap.size w2 ((w2.alloc (.cells #[.int .u8 4, .int .i64 0, .int .i64 0, .int .i64 v, .bool false, .int .u8 1, .int .i64 1, .int .i64 7, .int .i64 0, .bool false] 53)).alloc (.cells #[.slice (some ⟨w2.heap.size, 0, none⟩) 2 2, .pointer none] 40)) := ((Below.refl _ _).alloc (Nat.le_refl _) _).alloc (by simp only [World.size_alloc]; omega) _
  have hop : Whole ((w2.alloc (.cells #[.int .u8 4, .int .i64 0, .int .i64 0, .int .i64 v, .bool false, .int .u8 1, .int .i64 1, .int .i64 7, .int .i64 0, .bool false] 53)).alloc (.cells #[.slice (some ⟨w2.heap.size, 0, none⟩) 2 2, .pointer none] 40)) w2.heap.size 53 #[.int .u8 4, .int .i64 0, .int .i64 0, .int .i64 v, .bool false, .int .u8 1, .int .i64 1, .int .i64 7, .int .i64 0, .bool false] := (Whole.new w2 _ _).alloc _
  have hbx : Whole ((w2.alloc (.cells #[.int .u8 4, .int .i64 0, .int .i64 0, .int .i64 v, .bool false, .int .u8 1, .int .i64 1, .int .i64 7, .int .i64 0, .bool false] 53)).alloc (.cells #[.slice (some ⟨w2.heap.size, 0, none⟩) 2 2, .pointer none] 40)) (w2.heap.size + 1) 40 #[.slice (some ⟨w2.heap.size, 0, none⟩) 2 2, .pointer none] := by
    have := Whole.new (w2.alloc (.cells #[.int .u8 4, .int .i64 0, .int .i64 0, .int .i64 v, .bool false, .int .u8 1, .int .i64 1, .int .i64 7, .int .i64 0, .bool false] 53)) 40 #[.slice (some ⟨w2.heap.size, 0, none⟩) 2 2, .pointer none]
    rwa [World.size_alloc] at this
  have O : One w b g tb (w2.heap.size + 1) (some ⟨w2.heap.size, 0, none⟩) 2 2 w2.heap.size 0 (wl v) (.slice none 0 0) (.slice none 0 0) newTr ⟨[0, 0], 0⟩ ((w2.alloc (.cells #[.int .u8 4, .int .i64 0, .int .i64 0, .int .i64 v, .bool false, .int .u8 1, .int .i64 1, .int .i64 7, .int .i64 0, .bool false] 53)).alloc (.cells #[.slice (some ⟨w2.heap.size, 0, none⟩) 2 2, .pointer none] 40)) := by
    refine ⟨HS.out.still hb3, rfl, rfl, hbx, ops_two _ ⟨4, 0, 0, v, false⟩ ⟨1, 1, 7, 0, false⟩ _ (show (0 : Int) ≤ 4 by decide) (show (4 : Int) ≤ 255 by decide) (by decide) (by decide) hop, fun _ => not_all_new (w' := w2) HS.out (Nat.le_refl _), HB2.out.trans (hb3.mono HB2.out.size), fun k hk => ?_⟩
    rcases hk with hk | hk | hk | hk | hk
    · omega
    · omega
    · omega
    · simp [Value.ownBlock] at hk
    · simp [Value.ownBlock] at hk
  have HO := Lib.hid O
  clear O hbx hop hb3 HS HB2
  generalize (w2.alloc (.cells #[.int .u8 4, .int .i64 0, .int .i64 0, .int .i64 v, .bool false, .int .u8 1, .int .i64 1, .int .i64 7, .int .i64 0, .bool false] 53)).alloc (.cells #[.slice (some ⟨w2.heap.size, 0, none⟩) 2 2, .pointer none] 40) = w3 at *
  generalize w2.heap.size = lb at *
  clear hb hg htb hsz1
  go_wp2_with fail
  try rw [HN.out]
  go_loopw [9] (fun iv wr => WaitRel w b g tb (lb + 1) lb v N iv wr) (fun iv _ => N - (intOf iv).toNat)
  case atStart => exact ⟨0, _, _, _, _, by omega, by go_num, HO.out, ⟨rfl, rfl, rfl, rfl, rfl⟩⟩
  case round =>
    obtain ⟨k, tv, mv, T, m, hk, rfl, hO, hW⟩ := hrel
    have O1 := Lib.hid hO
    have W1 := Lib.hid hW
    have bx : wr.cell? ⟨lb + 1, 0, none⟩ = some (.slice (some ⟨lb, 0, none⟩) 2 2) := hO.box.cell 0
    have bx1 : wr.cell? ⟨lb + 1, 1, none⟩ = some (.pointer none) := hO.box.cell 1
    clear hO hW
    by_cases hlt : k < N ∧ v ≠ 0
    · obtain ⟨hlt, hv⟩ := hlt
      have hvb : (v != 0) = true := bne_iff_ne.2 hv
      have HV := Lib.hid hv
      clear hv
      go_wp2_with fail
      refine (one_step k O1.out W1.out.over (by rw [W1.out.told]; simp [wl]) (by rw [W1.out.marks]; simp [wl]) (by rw [W1.out.cnt]; simp [wl]; omega)).mono ?_
      obtain ⟨hw1, hd1⟩ := waits_on HV.out W1.out k
      rw [hd1]
      rintro e w4 ⟨rfl, tv1, mv1, o1⟩
      have HO1 := Lib.hid o1
      have HW1 := Lib.hid hw1
      have HX := Lib.hid (steps o1.st)
      rw [hw1.told] at HX
      have HC := Lib.hid (count_any _ _ _ o1.st.mem.c1)
      rw [hw1.cnt] at HC
      clear o1 hw1 hd1 O1 bx bx1
      go_wp2_with fail
      refine HX.out.mono ?_
      rintro e w5 ⟨rfl, rfl⟩
      go_wp2_with fail
      refine HC.out.mono ?_
      rintro e w5 ⟨rfl, rfl⟩
      have hci : (((k + 1 : Nat) : Int) != (k : Int) + 1) = false := by simp
      have hci' : ((k : Int) + 1 != (k : Int) + 1) = false := by simp
      go_wp2_with fail
      go_roundw
      case rel => exact ⟨k + 1, tv1, mv1, _, _, by omega, by go_num, HO1.out, HW1.out⟩
      case measure => simp [intOf]; omega
    · have hout : (k < N ∧ (v != 0) = false) ∨ ¬ k < N := by
        by_cases h1 : k < N
        · exact .inl ⟨h1, by simp; exact Classical.not_not.1 (fun h2 => hlt ⟨h1, h2⟩)⟩
        · exact .inr h1
      clear hlt
      have FIN : Hid (∀ w4, MemAt w4 b g ((m.cs.set 0 v)) (m.cnt + 1) → Only (Two b g) wr w4 → One w b g tb (lb + 1) (some ⟨lb, 0, none⟩) 2 2 lb 0 (wl v) tv mv T ⟨[v, 0], m.cnt + 1⟩ w4) := by
        intro w4 h1 h2
        refine O1.out.told ?_ h2
        rw [W1.out.cs] at h1
        exact h1
      have ST := Lib.hid (store_in (cs := m.cs) (cnt := m.cnt) 0 v O1.out.st.mem (by decide) (by rw [W1.out.cs]; decide) (by rw [W1.out.cnt]; omega))
      have hkc : m.cnt ≤ 100 := by rw [W1.out.cnt]; omega
      rcases hout with ⟨hk1, hk2⟩ | hk1
      all_goals
        go_wp2_with fail
        refine ST.out.mono ?_
        rintro e w4 ⟨rfl, hm4, ho4⟩
        have O4 := Lib.hid (FIN.out w4 hm4 ho4)
        have bx4 : w4.cell? ⟨lb + 1, 0, none⟩ = some (.slice (some ⟨lb, 0, none⟩) 2 2) := O4.out.box.cell 0
        have bx5 : w4.cell? ⟨lb + 1, 1, none⟩ = some (.pointer none) := O4.out.box.cell 1
        clear hm4 ho4 bx bx1
        go_wp2_with fail
        refine (one_step 100 O4.out W1.out.over (by rw [W1.out.told]; simp [wl]) (by rw [W1.out.marks]; simp [wl]) (by simp [wl]; omega)).mono ?_
        obtain ⟨d1, d2, d3, d4, d5⟩ := waits_end (T := T) (m := ⟨[v, 0], m.cnt + 1⟩) W1.out.told W1.out.marks rfl 100
        rw [d4]
        rintro e w5 ⟨rfl, tv5, mv5, o5⟩
        rw [d5] at o5
        have O5 := Lib.hid o5
        have D1 := Lib.hid d1
        have D2 := Lib.hid d2
        have D3 := Lib.hid d3
        clear bx4 bx5 d1 d2 d3 d4 d5 o5
        generalize ended (stepR (wl v) 100 T ⟨[v, 0], m.cnt + 1⟩).1.T = T5 at *
        have bx4 : w5.cell? ⟨lb + 1, 0, none⟩ = some (.slice (some ⟨lb, 0, none⟩) 2 2) := O5.out.box.cell 0
        have bx5 : w5.cell? ⟨lb + 1, 1, none⟩ = some (.pointer none) := O5.out.box.cell 1
        go_wp2_with fail
        refine (one_step 101 O5.out D3.out (by rw [D1.out]; simp [wl]) (by rw [D2.out]; simp [wl]) (by simp [wl]; omega)).mono ?_
        obtain ⟨d1, d2, d3⟩ := waits_store (T := T5) (m := ⟨[v, 0], m.cnt + 1 + 1⟩) D1.out rfl 101
        rw [d2]
        rintro e w6 ⟨rfl, tv6, mv6, o6⟩
        rw [d3] at o6
        have DL := Lib.hid d1
        have LD := Lib.hid (load_in (cs := [v, 7]) (cnt := m.cnt + 1 + 1 + 1) 1 o6.st.mem (by decide) (show (1 : Int) < 2 by decide) (by omega))
        have O6 := Lib.hid o6
        clear bx4 bx5 d1 d2 d3 o6
        generalize ended (stepR (wl v) 101 T5 ⟨[v, 0], m.cnt + 1 + 1⟩).1.T = T6 at *
        go_wp2_with fail
        refine LD.out.mono ?_
        rintro e w7 ⟨rfl, hm7, ho7⟩
        have O7 := Lib.hid (O6.out.told (m' := ⟨[v, 7], m.cnt + 1 + 1 + 1 + 1⟩) hm7 ho7)
        clear hm7 ho7
        go_wp2_with fail
        refine (tr_awake _).mono ?_
        rintro e w8 ⟨rfl, hb8⟩
        have O8 := Lib.hid (O7.out.still hb8)
        clear hb8
        have HX := Lib.hid (steps O8.out.st)
        rw [DL.out] at HX
        go_wp2_with fail
        refine HX.out.mono ?_
        rintro e w9 ⟨rfl, rfl⟩
        go_wp2_with fail
        go_ret
        exact ⟨rfl, O8.out.bel⟩
end Go.Proofs.Ytodclnfhhaiblaa
