/-
  Layer 1: the reference's memory is made, and both memories are held against each other.
-/
import Derived.Test.YtdnedmmhpgppmaaCellRef
namespace Go.Proofs.Ytdnedmmhpgppmaa
open Go.ChangeShapes Go.WideShapes Go.ChangeAt Go.RowKit
set_option linter.unusedVariables false

/-- The loop's relation: k noughts were appended. -/
def NewRel (w : World) (n : Int) (iv : Value) (wr : World) : Prop :=
  ∃ k : Nat, k ≤ n.toNat ∧ iv = .int .i64 k ∧ (∃ A c, RefAt wr w.heap.size w.heap.size A c (List.replicate k 0) 0) ∧ Below w.heap.size w wr

/-- A new memory of the reference. -/
def MadeRef (w : World) (k : Nat) (e : Ending) (w' : World) : Prop :=
  e = .returned (.pointer (some ⟨w.heap.size, 0, none⟩)) ∧ (∃ A c, RefAt w' w.heap.size w.heap.size A c (List.replicate k 0) 0) ∧ Below w.heap.size w w'

theorem replicate_more (k : Nat) : List.map (Value.int .i64) (List.replicate k 0) ++ [Value.int .i64 0] = List.map (Value.int .i64) (List.replicate (k + 1) 0) := by
  rw [List.replicate_succ']; simp

theorem refTop (w : World) : RefAt (w.alloc (.cells #[.slice none 0 0, .int .i64 0] 53)) w.heap.size w.heap.size none 0 (List.replicate 0 0) 0 :=
  ⟨Whole.new w _ _, World.ownsRow_nil _ _ _ _, by simp, by omega, by omega⟩

set_option maxHeartbeats 2000000 in
set_option maxRecDepth 100000 in
theorem refNew_any (n : Int) (w : World) (hn : n ≤ 127) : Calls Try.prog 10 #[.int .i64 n] w (MadeRef w n.toNat) := by
  obtain ⟨i0, hi0, hz0, hz1, hz2⟩ : ∃ i0, Try.prog.info? 2 = some i0 ∧ i0.zero = some (.int .i64 0) ∧ i0.size = 1 ∧ i0.bytes = 8 := by
    have := Try.info2'
    obtain ⟨i0, h1, h2⟩ := Option.map_eq_some_iff.1 this
    simp only [Prod.mk.injEq] at h2
    exact ⟨i0, h1, h2.1, h2.2.1, h2.2.2⟩
  go_enter Try.func10, Try.ntmps10
  go_wp2
  go_loopw [4] (fun iv wr => NewRel w n iv wr) (fun iv _ => n.toNat - (intOf iv).toNat)
  case atStart => exact ⟨0, by omega, by go_num, ⟨none, 0, refTop w⟩, (Below.refl _ _).alloc (Nat.le_refl _) _⟩
  case round =>
    obtain ⟨k, hk, rfl, ⟨A, c, hr⟩, hb⟩ := hrel
    by_cases hlt : (k : Int) < n
    · have hl : (List.replicate k (0 : Int)).length = k := List.length_replicate
      have hc0 := hr.c0
      have htop := hr.top
      have hown := hr.own
      rw [hl] at hc0 htop hown
      have HR := Lib.hid hr
      have HB := Lib.hid hb
      have HO := Lib.hid hown
      have HT := Lib.hid htop
      have hsz := hb.size
      have hlt2 : w.heap.size < wr.heap.size := htop.lt
      have h65 : (k : Int) < 65536 := by omega
      have h65d : decide ((k : Int) < 65536) = true := decide_eq_true h65
      clear hr hb hown htop hl
      go_wp2_with (at_builtin; refine wpList_append_own _ rfl (.tmp 20) (.tmp 21) _ rfl w.heap.size 2 i0 _ 1 8 Try.underlying39 hi0 hz0 hz1 hz2 rfl (by omega) _ k _ rfl (HO.out.alloc _) ⟨wr.heap.size, 0, none⟩ 1 1 [.int .i64 0] rfl rfl (cell_one_new _ _ _) (by simp [Value.oneCell']) (by simp only [maxLen]; omega) (by omega) (by simp; omega) ?_; intro v' w' hown' hg' _hnil; obtain ⟨A', c', rfl⟩ := own_slice hown'; have htop' := Whole.grown (HT.out.alloc _) hg' (Ne.symm (own_apart HO.out HT.out (by decide))); have hf' := htop'.frozen 0; have hc' : w'.cell? ⟨w.heap.size, 0, none⟩ = some (.slice A k c) := by { rw [htop'.cell]; rfl }; have HT' := Lib.hid htop'; have HO' := Lib.hid hown'; have HG' := Lib.hid hg'; clear htop' hown' hg' _hnil)
      go_roundw
      case rel =>
        refine ⟨k + 1, by omega, by go_num, ⟨A', c', ?_, ?_, by simp; omega, by omega, by omega⟩, ?_⟩
        · rw [List.length_replicate]; exact HT'.out.put 0 _
        · rw [List.length_replicate, ← replicate_more]
          exact own_only (S := fun j => j = w.heap.size) HO'.out ((Only.refl (fun j => j = w.heap.size) _).setCell (p := ⟨w.heap.size, 0, none⟩) (.inl rfl) _) (fun j hj e => by subst e; exact own_apart HO'.out HT'.out (by decide) hj)
        · exact ((HB.out.alloc hsz _).grown HG'.out (by simp; omega) (fun j hj => (HO.out.lt j hj).1)).setCell (p := ⟨w.heap.size, 0, none⟩) (Nat.le_refl _) _
      case measure => simp [intOf]; omega
    · have hkk : k = n.toNat := by omega
      have HK := Lib.hid hkk
      have HR : Hid (∃ A c, RefAt wr w.heap.size w.heap.size A c (List.replicate k 0) 0) := ⟨A, c, hr⟩
      have HB := Lib.hid hb
      clear hr hb hkk
      go_wp2
      go_ret
      exact ⟨rfl, by rw [← HK.out]; exact HR.out, HB.out⟩


theorem own_form {w : World} {base : Nat} {e : TypeId} {A : Option Addr} {n c : Nat} {xs : List Value} (h : w.ownsRow base e 1 (.slice A n c) n xs) (hn : 0 < n) : ∃ g, A = some ⟨g, 0, none⟩ ∧ base ≤ g ∧ g < w.heap.size := by
  rcases h.2 with ⟨_, h0⟩ | ⟨g, cap, cur, hv, hb, hh, _⟩
  · omega
  · injection hv with h1
    exact ⟨g, h1, hb, Whole.lt (t := e) hh⟩

theorem quietly {P : Program} {f : FuncId} {args : Array Value} {w : World} {n : Nat} {v : Value} (h : Calls P f args (w.drewN n) fun e w' => e = .returned v ∧ w.drewN n = w') :
    Calls P f args (w.drewN n) fun e w'' => e = .returned v ∧ ∃ m, w'' = w.drewN m := h.mono fun _ _ ⟨he, hm⟩ => ⟨he, n, hm.symm⟩

/-- The loop's relation: k numbers were held against each other. -/
def SameRel (w1 : World) (n : Nat) (iv : Value) (wr : World) : Prop := ∃ k : Nat, k ≤ n ∧ iv = .int .i64 k ∧ Only (fun _ => False) w1 wr

theorem seen_all (cs : List Int) : seen cs 0 cs.length = cs := by simp [seen]

set_option maxHeartbeats 4000000 in
set_option maxRecDepth 100000 in
theorem same_any {w : World} {b g rb base : Nat} {A : Option Addr} {c : Nat} {cs : List Int} {cnt : Int} (h : MemAt w b g cs cnt) (hr : RefAt w rb base A c cs cnt) :
    Calls Try.prog 13 #[.pointer (some ⟨b, 0, none⟩), .pointer (some ⟨rb, 0, none⟩)] w fun e w' => e = .returned (.bool true) ∧ Below w.heap.size w w' := by
  have hc := h.c0
  have hn := h.few
  have H := Lib.hid h
  have HR := Lib.hid hr
  clear h hr
  go_enter Try.func13, Try.ntmps13
  go_wp2_with fail
  refine (length_any _ _ _ _ _ hc).mono ?_
  rintro e w' ⟨rfl, rfl⟩
  go_wp2_with fail
  refine (look_any _ _ H.out).mono ?_
  rw [seen_all]
  rintro e w1 ⟨v, rfl, hown, hb⟩
  obtain ⟨lA, lc, rfl⟩ := own_slice hown
  have h1 := H.out.only (Only.of_below hb (fun _ => False)) id id
  have hr1 := HR.out.only (Only.of_below hb (fun _ => False)) (fun _ _ => id)
  have hc0 := h1.c0
  have hc1 := h1.c1
  have hd0 := hr1.c0
  have hd1 := hr1.c1
  have HO := Lib.hid hown
  have HB := Lib.hid hb
  have HR1 := Lib.hid hr1
  clear hown hb h1 hr1 hc
  have e1 : ((cs.length : Int) != (cs.length : Int)) = false := by simp
  have e2 : (cnt != cnt) = false := by simp
  go_upto_region 2 with (fail)
  go_quiet ((first | (go_at_call 14; exact quietly (length_any _ _ _ _ _ hc0)) | (go_at_call 17; exact quietly (count_any _ _ _ hc1))))
  go_wp2_with fail
  go_loopw [6] (fun iv wr => SameRel w1 cs.length iv wr) (fun iv _ => cs.length - (intOf iv).toNat)
  case atStart => exact ⟨0, by omega, by go_num, (Only.refl _ _).drewN _⟩
  case round =>
    obtain ⟨k, hk, rfl, ho⟩ := hrel
    by_cases hlt : k < cs.length
    · obtain ⟨lg, rfl, _, hlg⟩ := own_form HO.out (by omega)
      have hr2 := HR1.out.only ho (fun _ _ => id)
      obtain ⟨rg, rfl, _, _, _⟩ := hr2.form (by omega)
      have g0 := hr2.c0
      have g1 := hr2.at_ k hlt
      have g2 : wr.cell? ⟨lg, k, none⟩ = some (.int .i64 (nth cs k)) := by
        rw [ho.cell (p := ⟨lg, k, none⟩) hlg id, HO.out.cellAt k (by omega), List.getElem?_map, nth, List.getD_eq_getElem?_getD, List.getElem?_eq_getElem hlt]
        rfl
      have OO := Lib.hid ho
      generalize nth cs k = x at *
      have hne : (x != x) = false := by simp
      clear ho hr2
      go_upto_region 7 with (fail)
      go_quiet (fail)
      go_wp2_with fail
      go_roundw
      case rel => exact ⟨k + 1, by omega, by go_num, OO.out.drewN _⟩
      case measure => simp [intOf]; omega
    · have OO := Lib.hid ho
      clear ho
      go_wp2_with fail
      go_ret
      exact ⟨rfl, HB.out.trans (OO.out.below (fun _ f => f.elim) HB.out.size)⟩
end Go.Proofs.Ytdnedmmhpgppmaa
