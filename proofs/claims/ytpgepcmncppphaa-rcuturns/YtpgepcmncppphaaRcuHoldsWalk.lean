/-
  Layer 4: the walk of the statement on a reader that holds the epoch back.
-/
import Derived.Test.YtpgepcmncppphaaRcuHoldsPure
namespace Go.Proofs.Ytpgepcmncppphaa
open Go.ChangeShapes Go.WideShapes Go.ChangeAt Go.RowKit
set_option linter.unusedVariables false

theorem nums17 (l : List Int) (h : l.length = 17) : nums l = #[.int .i64 (nth l 0), .int .i64 (nth l 1), .int .i64 (nth l 2), .int .i64 (nth l 3), .int .i64 (nth l 4), .int .i64 (nth l 5), .int .i64 (nth l 6), .int .i64 (nth l 7), .int .i64 (nth l 8), .int .i64 (nth l 9), .int .i64 (nth l 10), .int .i64 (nth l 11), .int .i64 (nth l 12), .int .i64 (nth l 13), .int .i64 (nth l 14), .int .i64 (nth l 15), .int .i64 (nth l 16)] := by
  apply Array.ext
  · simp [nums_size, h]
  · intro i h1 h2
    have hl : i < l.length := by rwa [nums_size] at h1
    have e1 := nums_at l i hl
    rw [Array.getElem?_eq_getElem h1] at e1
    injection e1 with e1
    rw [e1]
    have hi : i < 17 := by omega
    rcases i with _|_|_|_|_|_|_|_|_|_|_|_|_|_|_|_|_|i
    all_goals first | rfl | omega
theorem bd_len (e : Int) (who : Nat) (x : Int) : (bd e who x).length = 17 := by simp [bd, bl0]
theorem nums_bd (e : Int) (who : Nat) (x : Int) (hw : who < 16) : nums (bd e who x) = #[.int .i64 e, .int .i64 (nth (bd e who x) 1), .int .i64 (nth (bd e who x) 2), .int .i64 (nth (bd e who x) 3), .int .i64 (nth (bd e who x) 4), .int .i64 (nth (bd e who x) 5), .int .i64 (nth (bd e who x) 6), .int .i64 (nth (bd e who x) 7), .int .i64 (nth (bd e who x) 8), .int .i64 (nth (bd e who x) 9), .int .i64 (nth (bd e who x) 10), .int .i64 (nth (bd e who x) 11), .int .i64 (nth (bd e who x) 12), .int .i64 (nth (bd e who x) 13), .int .i64 (nth (bd e who x) 14), .int .i64 (nth (bd e who x) 15), .int .i64 (nth (bd e who x) 16)] := by
  rw [nums17 _ (bd_len e who x), bd_nth e who x hw 0]
  rfl

theorem field_lit (x0 x1 x2 x3 x4 x5 x6 x7 x8 x9 x10 x11 x12 x13 x14 x15 x16 : Int) (w : World) : (Instr.field 29 (.agg #[.int .i64 x0, .int .i64 x1, .int .i64 x2, .int .i64 x3, .int .i64 x4, .int .i64 x5, .int .i64 x6, .int .i64 x7, .int .i64 x8, .int .i64 x9, .int .i64 x10, .int .i64 x11, .int .i64 x12, .int .i64 x13, .int .i64 x14, .int .i64 x15, .int .i64 x16]) 0).run Try.prog w = .ok (.int .i64 x0) w := by rfl
theorem field_bd (e : Int) (who : Nat) (x : Int) (hw : who < 16) (w : World) : (Instr.field 29 (.agg (nums (bd e who x))) 0).run Try.prog w = .ok (.int .i64 e) w := by
  rw [nums_bd e who x hw]
  exact field_lit ..

section
variable {w0 w w' w'' : World} {b g tb : Nat} {q : Option Nat} {tv mv : Value} {T : Tr} {m m' : Mm} {x : Rt} {bl bl' : List Int} {kd c c' : Int}
theorem Mem4.still (h : Mem4 w0 b g bl c m w) (hb : Below w.heap.size w w') : Mem4 w0 b g bl c m w' :=
  ⟨h.mem.only (Only.of_below hb (fun _ => False)) id id, h.size, h.board, h.cnt, h.only.trans (Only.of_below hb _)⟩
theorem Mem4.after (h : Mem4 w0 b g bl c m w) (k : Mem4 w b g bl' c' m' w') : Mem4 w0 b g bl' c' m' w' := ⟨k.mem, k.size, k.board, k.cnt, h.only.trans k.only⟩
theorem Solo.mem4 (h : Solo w0 b g tb q kd x bl c T m tv mv w) : Mem4 w0 b g bl c m w := ⟨h.st.mem, h.size, h.board, h.cnt, h.only⟩
end

theorem free_no (t e : Int) (h : e < t + 2) : free t e = false := by
  have : ¬ t + 2 ≤ e := by omega
  simp [free, this]
theorem free_yes (t e : Int) (h : t + 2 ≤ e) (h0 : t ≤ 1000) : free t e = true := by
  have : t ≤ 9223372036854775805 := by omega
  simp [free, h, this]
set_option maxHeartbeats 8000000 in
theorem rcuHolds_walk (rd ah be : Int) (w : World) (r0 : 0 ≤ rd) (r1 : rd ≤ 255) (a0 : 0 ≤ ah) (a1 : ah ≤ 255) (b0 : 0 ≤ be) (b1 : be ≤ 255) :
    Calls Try.prog 4 #[.int .u8 rd, .int .u8 ah, .int .u8 be] w fun e w' => e = .returned (.bool true) ∧ Below w.heap.size w w' := by
  have hnot : ∀ (x : Bool) (w : World), (Op.unary .not (.bool x)).run Try.prog w = .ok (.bool (!x)) w := fun _ _ => rfl
  have hmf : ∀ (fn : Fn) (first cap : Array Value) (w : World), (Instr.makeFunc fn first cap).run Try.prog w = .ok (.func fn first cap) w := fun _ _ _ _ => rfl
  have hfd := fun (e x : Int) (who : Nat) (hw : who < 16) (w : World) => field_bd e who x hw w
  obtain ⟨who, hwho⟩ : ∃ n : Nat, rd % 16 = n := ⟨(rd % 16).toNat, by omega⟩
  obtain ⟨na, hna⟩ : ∃ n : Nat, ah % 20 = n := ⟨(ah % 20).toNat, by omega⟩
  obtain ⟨nb, hnb⟩ : ∃ n : Nat, be % 20 = n := ⟨(be % 20).toNat, by omega⟩
  have hw16 : who < 16 := by omega
  have hfw : ∀ (e x : Int) (w : World), (Instr.field 29 (.agg (nums (bd e who x))) 0).run Try.prog w = .ok (.int .i64 e) w := fun e x w => hfd e x who hw16 w
  clear hfd
  have hna20 : na < 20 := by omega
  have hnb20 : nb < 20 := by omega
  have HW := Lib.hid hwho
  have HA := Lib.hid hna
  have HN := Lib.hid hnb
  clear hwho hna hnb
  have AW := Lib.hid (rcu_awake w)
  go_enter Try.func4, Try.ntmps4
  go_wp2_with fail
  refine AW.out.mono ?_
  rintro e w0 ⟨rfl, hb0⟩
  have HB0 := Lib.hid hb0
  clear hb0 AW
  go_wp2_with fail
  refine (new_mem_ex 30 _).mono ?_
  rintro e w1 ⟨b, g, rfl, hm, hb, hg, hbel⟩
  have M0 : Hid (Mem4 w1 b g (bd 0 who 0) 0 ⟨List.replicate 30 0, 0⟩ w1) := ⟨hm, by simp, by rw [bd_zero]; exact bl0_seen, by simp, Only.refl _ _⟩
  have HB1 := Lib.hid (HB0.out.trans (hbel.mono HB0.out.size))
  have hbs : Hid (w.heap.size ≤ b ∧ w.heap.size ≤ g) := ⟨Nat.le_trans HB0.out.size hb, Nat.le_trans HB0.out.size hg⟩
  clear hm hbel hb hg HB0
  go_wp2_with fail
  rw [HA.out]
  have TG := tries_go 0 who na hw16 (by omega)
  have X := tried_walk (c := 0) na (by omega) M0.out.mem M0.out.size M0.out.board M0.out.cnt (by omega)
  rw [show ((0 : Nat) : Int) = 0 from rfl, Nat.zero_add] at TG
  rw [TG] at X
  refine X.mono ?_
  clear X TG
  rintro e w2 ⟨m2, rfl, hM⟩
  have M2 := Lib.hid (M0.out.after hM)
  clear hM M0
  go_wp2_with fail
  refine (new_trail_ex (m := m2) M2.out.mem).mono ?_
  rintro e w3 ⟨tb, rfl, hs, htb, hbel⟩
  have SO := Lib.hid (solo_new (w2 := w3) 0 (0 + 18 * (na : Int)) hs hbel htb M2.out.size M2.out.cnt).1
  rw [M2.out.board] at SO
  clear hs hbel
  go_wp2_with fail
  try rw [HW.out]
  go_loopw [11] (fun kv wx => SoloRel w2 b g tb none 0 who (rt0, bd na who 0) (0 + 18 * (na : Int)) 2 kv wx) (fun kv _ => 2 - (intOf kv).toNat)
  case atStart => exact ⟨0, _, _, _, _, by omega, rfl, by rw [rsteps_zero]; simpa using SO.out⟩
  case round =>
    obtain ⟨k, T, m, tv, mv, hk, rfl, hS⟩ := hrel
    have S1 := Lib.hid hS
    clear hS
    by_cases hlt2 : k < 2
    · have X := Lib.hid (solo_step (k : Int) who hw16 (by omega) (by omega) S1.out (fun h => by omega) (by omega))
      go_wp2_with fail
      refine X.out.mono ?_
      rintro e w4 ⟨T', m', tv', mv', rfl, hS'⟩
      rw [← rsteps_succ] at hS'
      have S2 := Lib.hid hS'
      clear hS' X
      go_wp2_with fail
      go_roundw
      case rel => exact ⟨k + 1, _, _, _, _, by omega, by go_num, by push_cast; rw [← Int.add_assoc]; exact S2.out⟩
      case measure => simp [intOf]; omega
    · have hk2 : k = 2 := by omega
      subst hk2
      have hs := S1.out.mem4
      rw [enters_two na who hw16 (by omega)] at hs
      have M3 := Lib.hid (M2.out.after hs)
      clear hs S1 SO M2
      have X := board_walk M3.out.mem M3.out.size
      rw [M3.out.board] at X
      have BX := Lib.hid X
      clear X
      go_wp2_with fail
      refine BX.out.mono ?_
      rintro e w4 ⟨rfl, hb4⟩
      have M4 := Lib.hid (M3.out.still hb4)
      clear hb4 BX M3
      go_wp2_with fail
      try rw [HN.out]
      have TG := tries_one na who nb hw16 (by omega)
      have X := tried_walk nb (by omega) M4.out.mem M4.out.size M4.out.board M4.out.cnt (by omega)
      obtain ⟨q, hq⟩ : ∃ q, min nb 1 = q := ⟨_, rfl⟩
      rw [TG, hq] at X
      simp only at X
      refine X.mono ?_
      clear X TG
      rintro e w5 ⟨m5, rfl, hM⟩
      have M5 := Lib.hid (M4.out.after hM)
      have hq2 : (q = 0 ∧ nb = 0) ∨ (q = 1 ∧ nb = 1) ∨ (q = 1 ∧ 2 ≤ nb) := by omega
      clear hM M4 hq
      have X := board_walk M5.out.mem M5.out.size
      rw [M5.out.board] at X
      have BX := Lib.hid X
      clear X
      have ha := HA.out
      have hn := HN.out
      rcases hq2 with ⟨rfl, rfl⟩ | ⟨rfl, rfl⟩ | ⟨rfl, hq2⟩
      all_goals
        go_wp2_with fail
        refine BX.out.mono ?_
        rintro e w6 ⟨rfl, hb6⟩
        have M6 := Lib.hid (M5.out.still hb6)
        clear hb6 BX M5
        have X := board_walk M6.out.mem M6.out.size
        rw [M6.out.board] at X
        have BX := Lib.hid X
        clear X
        go_wp2_with fail
        refine BX.out.mono ?_
        rintro e w7 ⟨rfl, hb7⟩
        have M7 := Lib.hid (M6.out.still hb7)
        clear hb7 BX M6
        go_wp2_with fail
        refine (frees _ _ _ (by omega) (by omega)).mono ?_
        rintro e w8 ⟨rfl, rfl⟩
        rw [free_no _ _ (by omega)]
        go_wp2_with fail
        refine (new_trail_ex M7.out.mem).mono ?_
        rintro e w8 ⟨tb', rfl, hs, htb', hbel⟩
        have SO := (solo_new (w2 := w8) 1 _ hs hbel htb' M7.out.size M7.out.cnt).1
        rw [M7.out.board] at SO
        have X := Lib.hid (solo_step 0 who hw16 (by omega) (by omega) SO (fun h => by omega) (by omega))
        clear hs hbel SO
        go_wp2_with fail
        refine X.out.mono ?_
        rintro e w9 ⟨T', m', tv', mv', rfl, hS'⟩
        have hs := hS'.mem4
        rw [show ∀ bl : List Int, (rstep 1 who rt0 bl).2 = (rsteps 1 who 1 (rt0, bl)).2 from fun _ => rfl, leaves_one] at hs
        have M9 := Lib.hid (M7.out.after hs)
        clear hs hS' X M7
        have X := tried_walk 2 (by omega) M9.out.mem M9.out.size M9.out.board M9.out.cnt (by omega)
        rw [tries_go _ who 2 hw16 (by omega)] at X
        have TX := Lib.hid X
        clear X
        go_wp2_with fail
        refine TX.out.mono ?_
        rintro e w10 ⟨m10, rfl, hM⟩
        have M10 := Lib.hid (M9.out.after hM)
        clear hM M9 TX
        have X := board_walk M10.out.mem M10.out.size
        rw [M10.out.board] at X
        have BX := Lib.hid X
        clear X
        go_wp2_with fail
        refine BX.out.mono ?_
        rintro e w11 ⟨rfl, hb11⟩
        have M11 := Lib.hid (M10.out.still hb11)
        clear hb11 BX M10
        go_wp2_with fail
        refine (frees _ _ _ (by omega) (by omega)).mono ?_
        rintro e w12 ⟨rfl, rfl⟩
        rw [free_yes _ _ (by omega) (by omega)]
        go_wp2_with fail
        go_ret
        refine ⟨rfl, HB1.out.trans (M11.out.only.below (fun k hk => ?_) HB1.out.size)⟩
        have := hbs.out
        rcases hk with hk | hk <;> omega
end Go.Proofs.Ytpgepcmncppphaa
