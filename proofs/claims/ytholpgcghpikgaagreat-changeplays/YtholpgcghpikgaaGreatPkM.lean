/-
  Texts of our own, one behind the other (MapSmall, MapKit): what the laws' proofs rest on; each says at its head what it holds. No conditions.
-/
import Derived.Test.YtholpgcghpikgaaGreatPkLa
import Derived.Test.YtholpgcghpikgaaGreatPkC
import Derived.Deep.LoopGhost
import Derived.Lib.SliceRun
import Derived.Deep.RegionHeld3
/-
  Layer 10: the small calls: a contract for each.
-/
namespace Go.Proofs.YtholpgcghpikgaaGreat
open Go.ChangeShapes Go.WideShapes Go.ChangeAt Go.RowKit Go.Shelf
set_option linter.unusedVariables false

/-- An answer: its error, and its value; it has no attributes. -/
def ansC (e x : Int) : Array Value := #[.int .i64 e, .int .i64 x, .int .i64 0, .bool false, .int .i64 0, .int .i64 0]
def ansV (e x : Int) : Value := .agg (ansC e x)

/-! A copy. -/
set_option maxRecDepth 100000 in
set_option maxHeartbeats 2000000 in
theorem clone_c {w : World} {v : Value} {X : List Ar} (h : Holds w v X) (hl : X.length ≤ 10000) : Calls Tryz.prog 18 #[v] w fun e w' => ∃ v', e = .returned v' ∧ Mine w.heap.size w' v' X ∧ Below w.heap.size w w' := by
  obtain ⟨i0, hi0, hz0, hz1, hz2⟩ := info_parts area_info
  have HI0 : Hid (Tryz.prog.info? 52 = some i0) := Lib.hid hi0
  have H0 : Hid (i0.zero = some Ar.nil.v) := Lib.hid hz0
  have H1 : Hid (i0.size = 6) := Lib.hid hz1
  have H2 : Hid (i0.bytes = 48) := Lib.hid hz2
  clear hi0 hz0 hz1 hz2
  have q22 : ∀ (w : World) (a : Option Addr) (n c n' c' : Nat), (binOp .eql 24 (.slice a n c) (.slice none n' c')).run Tryz.prog w = .ok (.bool a.isNone) w := fun w a n c n' c' => Lib.run_eql_slice_nil w _ _ a n c n' c' Tryz.underlying24
  obtain ⟨A, c, rfl, hc, hA⟩ := h
  cases A with
  | none =>
    obtain rfl : X = [] := by
      rcases hA with h | ⟨b, off, h, _⟩
      · exact h
      · cases h
    clear hA
    simp only [List.length_nil] at *
    go_enter Tryz.func18, Tryz.ntmps18
    go_wp2_with fail
    go_ret
    exact ⟨_, rfl, Mine.nil _ _, Below.refl _ _⟩
  | some ad =>
    have HC : Hid (∀ (o : Obj) (j : Nat) (u : Value), (cls X)[j]? = some u → (w.alloc o).cell? (ad.add j) = some u) := Lib.hid (fun o j u hu => by
      rcases hA with h | ⟨b, off, h, hb, hcs⟩
      · subst h; simp [cls] at hu
      · injection h with h
        subst h
        have hj : j < X.length * 6 := by
          have := (List.getElem?_eq_some_iff.1 hu).1
          rwa [cls_len] at this
        have hat := cls_at X (j / 6) (by omega) (j % 6) (by omega)
        rw [show j / 6 * 6 + j % 6 = j by omega, hu] at hat
        have hA := hcs (j / 6) (by omega)
        rw [Addr.add_lit]
        refine Lib.cell?_alloc_some _ ?_
        have e6 : off + j = off + j / 6 * 6 + j % 6 := by omega
        rw [e6]
        generalize j % 6 = r at *
        have hr : r < 6 := by
          rcases Nat.lt_or_ge r 6 with h | h
          · exact h
          · rw [List.getElem?_eq_none (by simp [Ar.cl]; omega)] at hat; cases hat
        rcases (show r = 0 ∨ r = 1 ∨ r = 2 ∨ r = 3 ∨ r = 4 ∨ r = 5 by omega) with rfl | rfl | rfl | rfl | rfl | rfl
        · rw [hat]; exact hA.c0
        · rw [hat]; exact hA.c1
        · rw [hat]; exact hA.c2
        · rw [hat]; exact hA.c3
        · rw [hat]; exact hA.c4
        · rw [hat]; exact hA.c5)
    have HL := Lib.hid (cls_len X)
    have HO := Lib.hid (cls_one X)
    have HM : Hid (∀ W v', World.ownsRow W w.heap.size 52 6 v' (0 + X.length) ([] ++ cls X) → Mine w.heap.size W v' X) := Lib.hid (fun W v' h => by simpa [Mine] using h)
    clear hA
    generalize X.length = n at *
    go_enter Tryz.func18, Tryz.ntmps18
    go_wp2_with (at_builtin; refine wpList_append_own _ rfl _ _ 24 rfl w.heap.size 52 i0 _ 6 48 Tryz.underlying24 HI0.out H0.out H1.out H2.out rfl (by decide) _ 0 [] rfl (World.ownsRow_made w #[] 0 (Nat.le_refl _) (Nat.zero_le _) rfl) ad n c (cls X) rfl HL.out (HC.out _) HO.out (by simp only [maxLen]; omega) (by omega) (by simp) ?_; intro v' w2 hown' hg' _hnil; have HW := Lib.hid (HM.out _ _ hown'); have HGR := Lib.hid hg'; clear hown' hg' _hnil)
    go_ret
    exact ⟨_, rfl, HW.out, ((Below.refl _ w).alloc (Nat.le_refl _) _).grown HGR.out (by simp) (by intro k hk; have hk : some w.heap.size = some k := hk; injection hk with hk; omega)⟩

/-! The first error. -/
/-- The first one that isn't 0. -/
def firstE : List Int → Int
  | [] => 0
  | e :: r => if e = 0 then firstE r else e
theorem firstE_drop {es : List Int} {k : Nat} (h : k < es.length) : firstE (es.drop k) = if nth es k = 0 then firstE (es.drop (k + 1)) else nth es k := by
  rw [List.drop_eq_getElem_cons h, firstE]
  simp [nth, List.getElem?_eq_getElem h]
set_option maxHeartbeats 2000000 in
theorem or_any (es : List Int) (hl : es.length ≤ 100) (g c : Nat) (w : World) (hc : ∀ i, i < es.length → w.cell? ⟨g, i, none⟩ = some (.int .i64 (nth es i))) :
    Calls Tryz.prog 41 #[.slice (some ⟨g, 0, none⟩) es.length c] w fun e w' => e = .returned (.int .i64 (firstE es)) ∧ w' = w := by
  have HC := Lib.hid hc
  have HF := Lib.hid (fun k h => firstE_drop (es := es) (k := k) h)
  have HE : Hid (firstE (es.drop es.length) = 0) := Lib.hid (by simp [firstE])
  clear hc
  generalize hn : es.length = n at *
  clear hn
  obtain ⟨F, hF⟩ : ∃ F : Nat → Int, F = fun k => firstE (es.drop k) := ⟨_, rfl⟩
  have e0 : firstE es = F 0 := by rw [hF]; simp
  have HF2 : Hid (∀ k, k < n → F k = if nth es k = 0 then F (k + 1) else nth es k) := Lib.hid (fun k h => by rw [hF]; exact HF.out k h)
  have HE2 : Hid (F n = 0) := Lib.hid (by rw [hF]; exact HE.out)
  rw [e0]
  clear e0 hF HF HE
  generalize hr : F 0 = r at *
  have HR := Lib.hid hr
  clear hr
  go_enter Tryz.func41, Tryz.ntmps41
  go_wp2_with fail
  go_loopg [5, 8] n (fun g _ s8 wr => ∃ k : Nat, k ≤ n ∧ n - k ≤ g ∧ s8 = .int .i64 k ∧ wr = w ∧ Hid (F k = r))
  case atStart => exact ⟨0, by omega, by omega, rfl, rfl, HR⟩
  case round =>
    obtain ⟨k, hk, hg, rfl, rfl, HK⟩ := hrel
    by_cases hlt : k < n
    · have hz1 : (k : Int) < (n : Int) := by omega
      have hz0 : (0 : Int) ≤ (k : Int) := by omega
      have c0 := HC.out k hlt
      have hs := HF2.out k hlt
      generalize nth es k = x at *
      by_cases hx : x = 0
      · rw [if_pos hx] at hs
        subst hx
        have HK2 : Hid (F (k + 1) = r) := Lib.hid (by rw [← hs]; exact HK.out)
        clear hs
        go_wp2_with fail
        go_roundg (n - (k + 1))
        case measure => omega
        case rel => exact ⟨k + 1, by omega, by omega, by go_num, rfl, HK2⟩
      · rw [if_neg hx] at hs
        have HK2 : Hid (x = r) := Lib.hid (by rw [← hs]; exact HK.out)
        have hx' : (x != 0) = true := by simpa using hx
        clear hs
        go_wp2_with fail
        go_ret
        exact ⟨by rw [HK2.out]; rfl, rfl⟩
    · obtain rfl : k = n := by omega
      have HK2 : Hid (0 = r) := Lib.hid (by rw [← HE2.out]; exact HK.out)
      go_wp2_with fail
      go_ret
      exact ⟨by rw [← HK2.out]; rfl, rfl⟩

/-! Flags. -/
/-- Whether a flag is set. -/
def bitF (f k : Int) : Bool := bits .and .i64 f k != 0
/-- What is wrong with a map's flags. -/
def fgE (f : Int) : Int := if bitF f 2 = true ∧ bitF f 1 = false then 1 else flE f 15
theorem flagsE_any (f : Int) : Says 75 #[.int .i64 f] (.int .i64 (fgE f)) := by
  intro w
  have X := Lib.hid (flags_any f 15)
  unfold fgE
  cases h2 : bitF f 2 with
  | false =>
    rw [if_neg (by simp)]
    have k2 : (bits .and .i64 f 2 != 0) = false := h2
    generalize flE f 15 = r at *
    clear h2
    go_enter Tryz.func75, Tryz.ntmps75
    go_wp2_with fail
    refine (X.out _).mono ?_
    rintro e w1 ⟨rfl, hb⟩
    go_wp2_with fail
    go_ret
    exact ⟨rfl, hb⟩
  | true =>
    have k2 : (bits .and .i64 f 2 != 0) = true := h2
    cases h1 : bitF f 1 with
    | false =>
      rw [if_pos (by simp)]
      have k1 : (bits .and .i64 f 1 == 0) = true := by simpa [bitF] using h1
      clear h2 h1
      go_enter Tryz.func75, Tryz.ntmps75
      go_wp2_with fail
      go_ret
      exact ⟨rfl, Below.refl _ _⟩
    | true =>
      rw [if_neg (by simp)]
      have k1 : (bits .and .i64 f 1 == 0) = false := by simpa [bitF] using h1
      generalize flE f 15 = r at *
      clear h2 h1
      go_enter Tryz.func75, Tryz.ntmps75
      go_wp2_with fail
      refine (X.out _).mono ?_
      rintro e w1 ⟨rfl, hb⟩
      go_wp2_with fail
      go_ret
      exact ⟨rfl, hb⟩

/-! A gap's place. -/
theorem found_any (a : Int) (ok : Bool) : Says 107 #[.int .i64 a, .bool ok] (.tuple #[.int .i64 (if ok then a else 0), .int .i64 (if ok then 0 else 5)]) := by
  intro w
  cases ok with
  | true =>
    go_enter Tryz.func107, Tryz.ntmps107
    go_wp2_with fail
    go_ret2
    exact ⟨rfl, Below.refl _ _⟩
  | false =>
    go_enter Tryz.func107, Tryz.ntmps107
    go_wp2_with fail
    go_ret2
    exact ⟨rfl, Below.refl _ _⟩

/-! Whether a list may come. -/
/-- It is right, and has at most 24 areas. -/
def MayL (X : List Ar) : Prop := RightL X ∧ X.length ≤ 24
instance (X : List Ar) : Decidable (MayL X) := inferInstanceAs (Decidable (_ ∧ _))
def liE (X : List Ar) : Int := if MayL X then 0 else 1
set_option maxHeartbeats 1000000 in
theorem listE_c {w : World} {v : Value} {X : List Ar} (h : Holds w v X) (hl : X.length ≤ 10000) : Calls Tryz.prog 42 #[v] w fun e w' => e = .returned (.int .i64 (liE X)) ∧ Below w.heap.size w w' := by
  obtain ⟨A, c, rfl, hc, hA⟩ := h
  have CR := Lib.hid (right_any A X c (by omega) w hA)
  unfold liE
  clear hA
  by_cases hm : X.length ≤ 24
  · have hz : ¬ (24 : Int) < (X.length : Int) := by omega
    by_cases hr : RightL X
    · rw [if_pos (show MayL X from ⟨hr, hm⟩)]
      rw [decide_eq_true hr] at CR
      generalize X.length = n at *
      go_enter Tryz.func42, Tryz.ntmps42
      go_wp2_with fail
      refine CR.out.mono ?_
      rintro e w1 ⟨rfl, hb⟩
      go_wp2_with fail
      go_ret
      exact ⟨rfl, hb⟩
    · rw [if_neg (fun h : MayL X => hr h.1)]
      rw [decide_eq_false hr] at CR
      generalize X.length = n at *
      go_enter Tryz.func42, Tryz.ntmps42
      go_wp2_with fail
      refine CR.out.mono ?_
      rintro e w1 ⟨rfl, hb⟩
      go_wp2_with fail
      go_ret
      exact ⟨rfl, hb⟩
  · have hz : (24 : Int) < (X.length : Int) := by omega
    rw [if_neg (fun h : MayL X => hm h.2)]
    clear CR
    generalize X.length = n at *
    go_enter Tryz.func42, Tryz.ntmps42
    go_wp2_with fail
    go_ret
    exact ⟨rfl, Below.refl _ _⟩
end Go.Proofs.YtholpgcghpikgaaGreat

/-
  Layer 10: what is refused, and what is kept; calls: a contract for each call that asks no gap.
-/
namespace Go.Proofs.YtholpgcghpikgaaGreat
open Go.ChangeShapes Go.WideShapes Go.ChangeAt Go.RowKit Go.Shelf
set_option linter.unusedVariables false

/-! What lies in a range. -/
set_option maxHeartbeats 1000000 in
theorem within_c {w : World} {v : Value} {X : List Ar} (h : Holds w v X) (hX : RightL X) (lo hi : Int) : Calls Tryz.prog 105 #[v, .int .i64 lo, .int .i64 hi] w fun e w' => ∃ v', e = .returned v' ∧ Holds w' v' (insideL lo hi X) ∧ Below w.heap.size w w' := by
  have hl := right_len hX
  obtain ⟨A, c, rfl, hc, hA⟩ := h
  have CR := Lib.hid (right_any A X c (by omega) w hA)
  rw [decide_eq_true hX] at CR
  have CI := Lib.hid (fun w1 h => inside_any A X c lo hi (by omega) w1 h)
  have HA := Lib.hid hA
  clear hA hX
  generalize X.length = n at *
  go_enter Tryz.func105, Tryz.ntmps105
  go_wp2_with fail
  refine CR.out.mono ?_
  rintro e w1 ⟨rfl, hb⟩
  have B1 := Lib.hid hb
  have A1 := Lib.hid ((HA.out.below hb).mono hb.size)
  clear hb CR
  go_wp2_with fail
  refine (CI.out w1 A1.out).mono ?_
  rintro e w2 ⟨v2, rfl, hm, hb⟩
  have B2 := Lib.hid (below_then B1.out hb (Nat.le_refl _))
  have M2 := Lib.hid hm.holds
  clear hb hm CI
  go_wp2_with fail
  go_ret
  exact ⟨v2, rfl, M2.out, B2.out⟩

/-! What is kept. -/
theorem results_tmp_row {P : Program} {fn : Func} {p u : Tmp} {ty : TypeId} (h : fn.results = #[.tmp u, .cell p ty]) (tmps : Array Value) (w : World) (g : Nat) (t : TypeId) (cs : Array Value) (fr : Nat × Nat) (d : TypeDesc)
    (hp : tmps.getD p undef = .pointer (some ⟨g, 0, none⟩)) (hg : w.heap[g]? = some (.cells cs t fr))
    (hu : P.underlying ty = some d) (hd : (match d with | .struct _ | .array _ _ => true | _ => false) = true) (hi : (P.info? ty).map (·.size) = some cs.size) :
    (results fn tmps).run P w = .ok (.tuple #[tmps.getD u undef, .agg cs]) w := by
  have e : (results fn tmps).run P w = ((asAddr (tmps.getD p undef)).run P w).andThen fun a w₁ => ((loadVar ty a).run P w₁).andThen fun v w₂ => .ok (.tuple #[tmps.getD u undef, v]) w₂ := by
    simp only [results, h]
    simp [Sem.run_bind, Result.andThen]
  rw [e, hp]
  simp [asAddr, Result.andThen, run_loadVar_row w g t ty cs fr d hg hu hd hi]


/-- A list of its own, and an answer. -/
def Gives (w : World) (Y : List Ar) (e x : Int) (r : Ending) (w' : World) : Prop := ∃ v', r = .returned (.tuple #[v', ansV e x]) ∧ Mine w.heap.size w' v' Y ∧ Below w.heap.size w w'
/-- Six cells are written. -/
def set6 (w : World) (q : Nat) (x0 x1 x2 x3 x4 x5 : Value) : World := (((((w.setCell ⟨q, 0, none⟩ x0).setCell ⟨q, 1, none⟩ x1).setCell ⟨q, 2, none⟩ x2).setCell ⟨q, 3, none⟩ x3).setCell ⟨q, 4, none⟩ x4).setCell ⟨q, 5, none⟩ x5
theorem six_put {w : World} {q : Nat} {t : TypeId} {a b c d e f : Value} (h : Whole w q t #[a, b, c, d, e, f]) (x0 x1 x2 x3 x4 x5 : Value) : Whole (set6 w q x0 x1 x2 x3 x4 x5) q t #[x0, x1, x2, x3, x4, x5] :=
  (((((Whole.put h 0 _).put 1 _).put 2 _).put 3 _).put 4 _).put 5 _
theorem six_only (w : World) (q : Nat) (x0 x1 x2 x3 x4 x5 : Value) : Only (fun k => k = q) w (set6 w q x0 x1 x2 x3 x4 x5) :=
  ((((((Only.refl (fun k => k = q) w).setCell (p := ⟨q, 0, none⟩) (.inl rfl) _).setCell (p := ⟨q, 1, none⟩) (.inl rfl) _).setCell (p := ⟨q, 2, none⟩) (.inl rfl) _).setCell (p := ⟨q, 3, none⟩) (.inl rfl) _).setCell (p := ⟨q, 4, none⟩) (.inl rfl) _).setCell (p := ⟨q, 5, none⟩) (.inl rfl) _
/-- Six cells, to be read and written. -/
structure Six (w : World) (q : Nat) (a b c d e f : Value) : Prop where
  c : (w.cell? ⟨q, 0, none⟩ = some a ∧ w.cell? ⟨q, 1, none⟩ = some b ∧ w.cell? ⟨q, 2, none⟩ = some c ∧ w.cell? ⟨q, 3, none⟩ = some d ∧ w.cell? ⟨q, 4, none⟩ = some e ∧ w.cell? ⟨q, 5, none⟩ = some f)
  fr : w.frozen? ⟨q, 0, none⟩ = false ∧ w.frozen? ⟨q, 1, none⟩ = false ∧ w.frozen? ⟨q, 2, none⟩ = false ∧ w.frozen? ⟨q, 3, none⟩ = false ∧ w.frozen? ⟨q, 4, none⟩ = false ∧ w.frozen? ⟨q, 5, none⟩ = false
theorem six_of {w : World} {q : Nat} {t : TypeId} {a b c d e f : Value} (h : Whole w q t #[a, b, c, d, e, f]) : Six w q a b c d e f :=
  ⟨row6 h, ⟨h.frozen 0, h.frozen 1, h.frozen 2, h.frozen 3, h.frozen 4, h.frozen 5⟩⟩
/-- The list beside the answer's cells, while they are written. -/
theorem mine_far {B : Nat} {w : World} {v : Value} {l : List Ar} {q : Nat} {cs : Array Value} (h : Mine B w v l) (hq : Whole w q 34 cs) (x0 x1 x2 x3 x4 x5 : Value) : Mine B (set6 w q x0 x1 x2 x3 x4 x5) v l :=
  h.only (six_only w q _ _ _ _ _ _) (fun k hk e => own_apart h hq (by decide) (by rw [hk, e]))
/-- What is left when an answer has been laid into its cells. -/
theorem gives_end {w w1 : World} {v1 : Value} {Y : List Ar} {bag : List (Nat × TypeId × Array Value)} {cs : Array Value} {q : Nat} (G : Bag w w1 ((q, 34, cs) :: bag)) (hq : w.heap.size ≤ q) {B : Nat} (M : Mine B w1 v1 Y) (hB : w.heap.size ≤ B) (e x : Int) :
    Gives w Y e x (.returned (.tuple #[v1, ansV e x])) (set6 w1 q (.int .i64 e) (.int .i64 x) (.int .i64 0) (.bool false) (.int .i64 0) (.int .i64 0)) :=
  ⟨v1, rfl, mine_far (M.base hB) G.v0 _ _ _ _ _ _, G.bel.trans ((six_only w1 q _ _ _ _ _ _).below (fun k hk => by omega) G.bel.size)⟩

section
variable {w : World} {v v' : Value} {X Y : List Ar}
set_option maxHeartbeats 1000000 in
theorem refused_c (h : Holds w v X) (hl : X.length ≤ 10000) (e : Int) : Calls Tryz.prog 37 #[v, .int .i64 e] w (Gives w X e 0) := by
  have G := Lib.hid ((Bag.new w).add 34 (ansC 0 0))
  have CC := Lib.hid (clone_c (h.still G.out.bel) hl)
  obtain ⟨A, c, rfl⟩ := h.is
  clear h
  generalize hn : X.length = n at *
  clear hn
  go_enter Tryz.func37, Tryz.ntmps37
  go_wp2_with fail
  refine CC.out.mono ?_
  rintro r w1 ⟨v1, rfl, hm, hb⟩
  have G := Lib.hid (G.out.still hb)
  rw [World.size_alloc] at hm
  have M := Lib.hid hm
  clear hm hb CC
  obtain ⟨⟨c0, c1, c2, c3, c4, c5⟩, ⟨f0, f1, f2, f3, f4, f5⟩⟩ := six_of (G.out.v0)
  go_wp2_with fail
  refine bodyPost_ret (results_tmp_row rfl _ _ w.heap.size 34 (ansC e 0) (0, 0) _ rfl (six_put G.out.v0 _ _ _ _ _ _) Tryz.underlying34 rfl (by kernel_rfl)) rfl ?_
  exact gives_end G.out (Nat.le_refl _) M.out (by omega) e 0

set_option maxHeartbeats 1000000 in
theorem kept_many (h : Holds w v X) (hl : X.length ≤ 10000) (h' : Holds w v' Y) (hm : 24 < Y.length) (x : Int) : Calls Tryz.prog 38 #[v, v', .int .i64 x] w (Gives w X 9 0) := by
  have G := Lib.hid ((Bag.new w).add 34 (ansC 0 0))
  have CC := Lib.hid (refused_c (h.still G.out.bel) hl 9)
  obtain ⟨A, c, rfl⟩ := h.is
  obtain ⟨A', c', rfl⟩ := h'.is
  clear h h'
  have hz : (24 : Int) < (Y.length : Int) := by omega
  generalize hn : X.length = n at *
  clear hn
  generalize hn : Y.length = m at *
  clear hn
  go_enter Tryz.func38, Tryz.ntmps38
  go_wp2_with fail
  refine CC.out.mono ?_
  rintro r w1 ⟨v1, rfl, hm, hb⟩
  have G := Lib.hid (G.out.still hb)
  rw [World.size_alloc] at hm
  have M := Lib.hid hm
  clear hm hb CC
  obtain ⟨⟨c0, c1, c2, c3, c4, c5⟩, ⟨f0, f1, f2, f3, f4, f5⟩⟩ := six_of (G.out.v0)
  unfold ansV ansC
  go_wp2_with fail
  refine bodyPost_ret (results_tmp_row rfl _ _ w.heap.size 34 (ansC 9 0) (0, 0) _ rfl (six_put G.out.v0 _ _ _ _ _ _) Tryz.underlying34 rfl (by kernel_rfl)) rfl ?_
  exact gives_end G.out (Nat.le_refl _) M.out (by omega) 9 0

set_option maxHeartbeats 1000000 in
theorem kept_few (h : Holds w v X) (h' : Holds w v' Y) (hm : Y.length ≤ 24) (x : Int) : Calls Tryz.prog 38 #[v, v', .int .i64 x] w (Gives w Y 0 x) := by
  have G := Lib.hid ((Bag.new w).add 34 (ansC 0 0))
  have CC := Lib.hid (clone_c (h'.still G.out.bel) (by omega))
  obtain ⟨A, c, rfl⟩ := h.is
  obtain ⟨A', c', rfl⟩ := h'.is
  clear h h'
  have hz : ¬ (24 : Int) < (Y.length : Int) := by omega
  generalize hn : X.length = n at *
  clear hn
  generalize hn : Y.length = m at *
  clear hn
  go_enter Tryz.func38, Tryz.ntmps38
  go_wp2_with fail
  refine CC.out.mono ?_
  rintro r w1 ⟨v1, rfl, hm, hb⟩
  have G := Lib.hid (G.out.still hb)
  rw [World.size_alloc] at hm
  have M := Lib.hid hm
  clear hm hb CC
  obtain ⟨⟨c0, c1, c2, c3, c4, c5⟩, ⟨f0, f1, f2, f3, f4, f5⟩⟩ := six_of (G.out.v0)
  go_wp2_with fail
  refine bodyPost_ret (results_tmp_row rfl _ _ w.heap.size 34 (ansC 0 x) (0, 0) _ rfl (six_put G.out.v0 _ _ _ _ _ _) Tryz.underlying34 rfl (by kernel_rfl)) rfl ?_
  exact gives_end G.out (Nat.le_refl _) M.out (by omega) 0 x
end

/-! Calls. -/
/-- A call: its kind, Addr, Len, New, To, Prot, Flags, Back, Off. -/
structure Cl where
  k : Int
  a : Int
  n : Int
  nw : Int
  tw : Int
  p : Int
  f : Int
  b : Int
  o : Int
def Cl.cells (c : Cl) : Array Value := #[.int .i64 c.k, .int .i64 c.a, .int .i64 c.n, .int .i64 c.nw, .int .i64 c.tw, .int .i64 c.p, .int .i64 c.f, .int .i64 c.b, .int .i64 c.o]
def Cl.v (c : Cl) : Value := .agg c.cells
/-- All its numbers are of 64 bits. -/
def i64 (x : Int) : Prop := -9223372036854775808 ≤ x ∧ x ≤ 9223372036854775807
theorem sz_sz {n : Int} (h : szE n = 0) : szV (szV n) = szV n ∧ szE (szV n) = 0 := by
  have hp := sz_pages h
  generalize szV n = s at *
  rcases sz_is s with ⟨h1, _⟩ | ⟨h1, _⟩ | ⟨h1, h2, h3⟩
  · omega
  · omega
  · exact ⟨by omega, h2⟩
theorem first_zero : ∀ {es : List Int}, firstE es = 0 ↔ ∀ e ∈ es, e = 0
  | [] => by simp [firstE]
  | e :: r => by
    unfold firstE
    by_cases h : e = 0
    · rw [if_pos h, first_zero]; simp [h]
    · rw [if_neg h]; simp [h]

theorem or_six (W : World) (t : TypeId) (e0 e1 e2 e3 e4 e5 : Int) : Calls Tryz.prog 41 #[.slice (some ⟨W.heap.size, 0, none⟩) 6 6] (W.alloc (.cells #[.int .i64 e0, .int .i64 e1, .int .i64 e2, .int .i64 e3, .int .i64 e4, .int .i64 e5] t)) fun e w' =>
    e = .returned (.int .i64 (firstE [e0, e1, e2, e3, e4, e5])) ∧ w' = W.alloc (.cells #[.int .i64 e0, .int .i64 e1, .int .i64 e2, .int .i64 e3, .int .i64 e4, .int .i64 e5] t) := by
  have hw := Whole.new W t #[.int .i64 e0, .int .i64 e1, .int .i64 e2, .int .i64 e3, .int .i64 e4, .int .i64 e5]
  refine or_any [e0, e1, e2, e3, e4, e5] (by simp) W.heap.size 6 _ fun i hi => ?_
  rw [hw.cell]
  simp at hi
  rcases (show i = 0 ∨ i = 1 ∨ i = 2 ∨ i = 3 ∨ i = 4 ∨ i = 5 by omega) with rfl | rfl | rfl | rfl | rfl | rfl <;> rfl
theorem or_two (W : World) (t : TypeId) (e0 e1 : Int) : Calls Tryz.prog 41 #[.slice (some ⟨W.heap.size, 0, none⟩) 2 2] (W.alloc (.cells #[.int .i64 e0, .int .i64 e1] t)) fun e w' =>
    e = .returned (.int .i64 (firstE [e0, e1])) ∧ w' = W.alloc (.cells #[.int .i64 e0, .int .i64 e1] t) := by
  have hw := Whole.new W t #[.int .i64 e0, .int .i64 e1]
  refine or_any [e0, e1] (by simp) W.heap.size 2 _ fun i hi => ?_
  rw [hw.cell]
  simp at hi
  rcases (show i = 0 ∨ i = 1 by omega) with rfl | rfl <;> rfl


theorem row9 {w : World} {q : Nat} {t : TypeId} {c : Cl} (h : Whole w q t c.cells) : w.cell? ⟨q, 0, none⟩ = some (.int .i64 c.k) ∧ w.cell? ⟨q, 1, none⟩ = some (.int .i64 c.a) ∧ w.cell? ⟨q, 2, none⟩ = some (.int .i64 c.n) ∧ w.cell? ⟨q, 3, none⟩ = some (.int .i64 c.nw) ∧ w.cell? ⟨q, 4, none⟩ = some (.int .i64 c.tw) ∧ w.cell? ⟨q, 5, none⟩ = some (.int .i64 c.p) ∧ w.cell? ⟨q, 6, none⟩ = some (.int .i64 c.f) ∧ w.cell? ⟨q, 7, none⟩ = some (.int .i64 c.b) ∧ w.cell? ⟨q, 8, none⟩ = some (.int .i64 c.o) :=
  ⟨h.cell 0, h.cell 1, h.cell 2, h.cell 3, h.cell 4, h.cell 5, h.cell 6, h.cell 7, h.cell 8⟩
end Go.Proofs.YtholpgcghpikgaaGreat
