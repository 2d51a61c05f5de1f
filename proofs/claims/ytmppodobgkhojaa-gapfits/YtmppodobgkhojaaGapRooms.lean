/-
  Layer 8: what tells the gaps that are long enough, within bounds: its contract.
-/
import Derived.Test.YtmppodobgkhojaaGapSeq
namespace Go.Proofs.Ytmppodobgkhojaa
open Go.ChangeShapes Go.WideShapes Go.ChangeAt Go.RowKit Go.Shelf
set_option linter.unusedVariables false
attribute [local go_sem] Oper.semAt_some

instance (g : Gp) : Decidable (GoodG g) := decidable_of_iff (65536 ≤ g.s ∧ g.s < g.e ∧ g.e ≤ 2097152 ∧ g.s % 4096 = 0 ∧ g.e % 4096 = 0) ⟨fun ⟨a, b, c, d, e⟩ => ⟨a, b, c, d, e⟩, fun ⟨a, b, c, d, e⟩ => ⟨a, b, c, d, e⟩⟩
/-- What of a gap is long enough. -/
def roomOf (lo hi size : Int) (x : GG) : List GG := if h : GoodG (withinG lo hi x.1) ∧ size ≤ (withinG lo hi x.1).e - (withinG lo hi x.1).s then [⟨withinG lo hi x.1, h.1⟩] else []
def roomsG (lo hi size : Int) (l : List GG) : List GG := l.flatMap (roomOf lo hi size)
/-- A list's gaps, each with what is known of it. -/
def goodL (l : List Ar) : List GG := (gapsL l).attach.map (fun g => ⟨g.1, gapsL_good g.1 g.2⟩)
theorem goodL_raw (l : List Ar) : (goodL l).map (·.1) = gapsL l := by
  unfold goodL
  rw [List.map_map]
  exact List.attach_map_subtype_val _
theorem good_eq {l : List Ar} {ys : List GG} (h : ys.map (·.1) = gapsL l) : ys = goodL l := by
  rw [← goodL_raw] at h
  exact (List.map_inj_right (fun a b e => Subtype.ext e)).1 h
theorem told_eq {l : List Ar} {pre : List GG} (h : Told l pre) : ∃ t, pre ++ t = goodL l := by
  obtain ⟨t, ht⟩ := h
  have hp : pre.map (·.1) = ((goodL l).take pre.length).map (·.1) := by
    rw [List.map_take, goodL_raw, ← ht]; simp
  have h2 : pre = (goodL l).take pre.length := (List.map_inj_right (fun a b e => Subtype.ext e)).1 hp
  exact ⟨(goodL l).drop pre.length, by conv => lhs; lhs; rw [h2]
                                       exact List.take_append_drop _ _⟩
/-- All that has room. -/
def roomsL (lo hi size : Int) (l : List Ar) : List GG := if 1 ≤ size ∧ size % 4096 = 0 then roomsG lo hi size (goodL l) else []

theorem within_good {g : Gp} (hg : GoodG g) {lo hi size : Int} (h1 : 1 ≤ size) (h2 : size ≤ (withinG lo hi g).e - (withinG lo hi g).s) : GoodG (withinG lo hi g) := by
  unfold withinG at *
  have := hg.lo; have := hg.lt; have := hg.hi
  by_cases h : max lo g.s < min hi g.e
  · rw [if_pos h] at h2 ⊢
    simp only at h2
    have a1 := upg_le (max lo g.s)
    have a2 := pg_le (min hi g.e)
    exact ⟨by simp only; omega, by simp only; omega, by simp only; omega, a1.2.2, a2.2.2⟩
  · rw [if_neg h] at h2; simp at h2; omega
theorem within_bound {g : Gp} (hg : GoodG g) (lo hi : Int) : -2097152 ≤ (withinG lo hi g).e - (withinG lo hi g).s ∧ (withinG lo hi g).e - (withinG lo hi g).s ≤ 2097152 := by
  unfold withinG
  have := hg.lo; have := hg.lt; have := hg.hi
  by_cases h : max lo g.s < min hi g.e
  · rw [if_pos h]
    simp only
    have a1 := upg_le (max lo g.s)
    have a2 := pg_le (min hi g.e)
    omega
  · rw [if_neg h]; simp
theorem rooms_snoc_yes {lo hi size : Int} (pre : List GG) (x : GG) (h1 : 1 ≤ size) (h2 : size ≤ (withinG lo hi x.1).e - (withinG lo hi x.1).s) : roomsG lo hi size (pre ++ [x]) = roomsG lo hi size pre ++ [⟨withinG lo hi x.1, within_good x.2 h1 h2⟩] := by
  have : roomOf lo hi size x = [⟨withinG lo hi x.1, within_good x.2 h1 h2⟩] := by unfold roomOf; rw [dif_pos ⟨within_good x.2 h1 h2, h2⟩]
  unfold roomsG
  rw [List.flatMap_append]
  simp [this]
theorem rooms_snoc_no {lo hi size : Int} (pre : List GG) (x : GG) (h2 : ¬ size ≤ (withinG lo hi x.1).e - (withinG lo hi x.1).s) : roomsG lo hi size (pre ++ [x]) = roomsG lo hi size pre := by
  have : roomOf lo hi size x = [] := by unfold roomOf; rw [dif_neg (fun h => h2 h.2)]
  unfold roomsG
  rw [List.flatMap_append]
  simp [this]
theorem rooms_len (lo hi size : Int) (l : List GG) : (roomsG lo hi size l).length ≤ l.length := by
  induction l with
  | nil => simp [roomsG]
  | cons x l ih =>
    have : (roomOf lo hi size x).length ≤ 1 := by unfold roomOf; split <;> simp
    have e : roomsG lo hi size (x :: l) = roomOf lo hi size x ++ roomsG lo hi size l := by simp [roomsG]
    rw [e, List.length_append, List.length_cons]; omega

/-- The variables that rooms has laid for the function that it answers. -/
structure Caught (w : World) (b : Nat) (size : Int) (v : Value) (lo hi : Int) : Prop where
  v : Whole w b 22 #[v]
  lo : Whole w (b + 1) 2 #[.int .i64 lo]
  hi : Whole w (b + 2) 2 #[.int .i64 hi]
  size : Whole w (b + 3) 2 #[.int .i64 size]

theorem whole_ne {w : World} {a b : Nat} {t t' : TypeId} {cs cs' : Array Value} (h : Whole w a t cs) (h' : Whole w b t' cs') (ht : t ≠ t') : a ≠ b := fun e => by
  subst e; unfold Whole at h h'; rw [h] at h'; injection h' with h'; injection h' with _ h'; exact ht h'
/-- How a teller ends. -/
def Ends (S Sp : List GG → Prop) (J Jx : List GG → World → Prop) (e : Ending) (W' : World) : Prop := (∃ v, e = .returned v) ∧ ((∃ xs, S xs ∧ J xs W') ∨ (∃ pre, Sp pre ∧ Jx pre W'))
/-- What has come of a list. -/
def Part (l pre : List GG) : Prop := ∃ t, pre ++ t = l
/-- Where the loop stands: what was told, and its variables. -/
structure RoomAt (J : List GG → World → Prop) (b q l : Nat) (size : Int) (v : Value) (lo hi : Int) (pre : List GG) (Wr : World) : Prop where
  j : J (roomsG lo hi size pre) Wr
  c : Caught Wr b size v lo hi
  t : Whole Wr q 67 #[.func (.yield l) #[] #[]]
  sz : q + 2 ≤ Wr.heap.size
section
variable {w w' : World} {b : Nat} {size lo hi : Int} {v : Value}
theorem Caught.keep (h : Caught w b size v lo hi) (hk : ∀ k t cs, b ≤ k → Whole w k t cs → Whole w' k t cs) : Caught w' b size v lo hi :=
  ⟨hk _ _ _ (by omega) h.v, hk _ _ _ (by omega) h.lo, hk _ _ _ (by omega) h.hi, hk _ _ _ (by omega) h.size⟩
theorem room_own {J : List GG → World → Prop} {q l B : Nat} (hJ : Deaf B J) : OwnFrom B (fun s W => RoomAt J b q l size v lo hi s W) := fun s X Y row hs hg hr =>
  have hr' : ∀ r, row = some r → ∃ o : Obj, X.heap[r]? = some o ∧ o.isCells = false := fun r e => (hr r e).2
  ⟨hJ.own _ X Y row hs.j hg hr, hs.c.keep (fun k t cs _ h => Whole.grown h hg (fun e' => by obtain ⟨o, ho, hc⟩ := hr' k e'.symm; rw [show X.heap[k]? = _ from h] at ho; cases ho; cases hc)),
   Whole.grown hs.t hg (fun e' => by obtain ⟨o, ho, hc⟩ := hr' q e'.symm; rw [show X.heap[q]? = _ from hs.t] at ho; cases ho; cases hc), Nat.le_trans hs.sz hg.size⟩
end

/-- Behind the store of what lies within. -/
structure Within (Wr W2 : World) (n₀ b q l : Nat) (size : Int) (v : Value) (lo hi : Int) : Prop where
  c : Caught W2 b size v lo hi
  t : Whole W2 q 67 #[.func (.yield l) #[] #[]]
  ko : KeepsOthers Wr W2
  kp : KpA n₀ Wr W2
  sz : q + 2 ≤ W2.heap.size
  only : Only (fun k => q ≤ k) Wr W2
theorem within_at {J : List GG → World → Prop} {Wr W1 : World} {n₀ b q l Bx : Nat} {size lo hi : Int} {v : Value} {pre : List GG} {cs : Array Value} (hI : RoomAt J b q l size v lo hi pre Wr) (hb : Below Wr.heap.size Wr W1) (hX : Whole Wr Bx 29 cs) (hB : q + 2 ≤ Bx) (hbq : b + 3 < q) (hn : n₀ ≤ b) (r0 r1 : Value) :
    Within Wr ((W1.setCell ⟨Bx, 0, none⟩ r0).setCell ⟨Bx, 1, none⟩ r1) n₀ b q l size v lo hi := by
  have hX1 := hX.below hb hX.lt
  have k1 := KpA.set (n₀ := n₀) hX1 (by decide) (by omega) 0 r0
  have k2 := KpA.set (n₀ := n₀) (hX1.put 0 r0) (by decide) (by omega) 1 r1
  have hs := hI.sz
  have hk : ∀ k t cs', k < Bx → Whole Wr k t cs' → Whole ((W1.setCell ⟨Bx, 0, none⟩ r0).setCell ⟨Bx, 1, none⟩ r1) k t cs' := fun k t cs' hlt h => ((h.below hb h.lt).far (Nat.ne_of_lt hlt) _).far (Nat.ne_of_lt hlt) _
  refine ⟨⟨hk _ _ _ (by omega) hI.c.v, hk _ _ _ (by omega) hI.c.lo, hk _ _ _ (by omega) hI.c.hi, hk _ _ _ (by omega) hI.c.size⟩, hk _ _ _ (by omega) hI.t, ?_, (KpA.still (by omega) hb).trans (k1.trans k2), ?_, ?_⟩
  · exact (KeepsOthers.of_grownBy (below_grown hb) (fun j o e => by cases e)).trans ((KeepsOthers.setCell _ _ _).trans (KeepsOthers.setCell _ _ _))
  · have h1 := k1.bel.size; have h2 := k2.bel.size; have h3 := hb.size; omega
  · exact (only_still hb).trans ((only_set W1 r0 (by omega)).trans (only_set _ r1 (by omega)))
theorem keepsFrom_mono {B B' : Nat} {W W' : World} (h : KeepsFrom B W W') (hb : B ≤ B') : KeepsFrom B' W W' := ⟨h.size, fun k o hk => h.same k o (by omega)⟩
theorem Kr.whole {n₀ b B k : Nat} {W W' : World} {t : TypeId} {cs : Array Value} (h : Kr n₀ b B W W') (hk : b ≤ k) (hw : Whole W k t cs) : Whole W' k t cs := h.cells k _ hw hk rfl

set_option maxRecDepth 100000 in
set_option maxHeartbeats 4000000 in
theorem rooms1_in (b l n₀ cap : Nat) (A : Option Addr) (zs : List Ar) (lo hi size : Int) (hl : zs.length ≤ 10000) (J Jx : List GG → World → Prop) (W : World)
    (hJ : Deaf W.heap.size J) (hJx : Deaf W.heap.size Jx)
    (hY : ∀ pre x W1, J pre W1 → pre.length < zs.length + 1 → 1 ≤ size → YieldAt Fence.wide 3 Try.prog l #[x.1.v] W1 fun e W' =>
      (e = .returned (.bool true) ∧ J (pre ++ [x]) W' ∧ Kr n₀ b W.heap.size W1 W') ∨ (e = .returned (.bool false) ∧ Jx (pre ++ [x]) W' ∧ KeepsFrom W.heap.size W1 W'))
    (hn₀ : n₀ ≤ b) (hC : Caught W b size (.slice A zs.length cap) lo hi) (hc : Areas n₀ W A zs) (h0 : J [] W) :
    CallsIn Fence.wide 4 Try.prog 42 #[.func (.yield l) #[] #[], .pointer (some ⟨b + 3, 0, none⟩), .pointer (some ⟨b, 0, none⟩), .pointer (some ⟨b + 1, 0, none⟩), .pointer (some ⟨b + 2, 0, none⟩)] W (Ends (· = roomsL lo hi size zs) (Part (roomsL lo hi size zs)) J Jx) := by
  have hro : Fence.wide.round = none := rfl
  have fE : Fence.wide.fn 28 := trivial
  have fW : Fence.wide.fn 43 := trivial
  have XE := Lib.hid (fun w1 => calls_wide (m' := 3) (each_in A zs.length cap w1))
  refine callsIn_of_wp_marks Try.func42 rfl trivial ?_ hro
  simp only [Try.ntmps42, List.size_toArray, List.length_cons, List.length_nil, Nat.reduceAdd, Nat.reduceSub, Array.replicate_succ, Array.replicate_zero, List.push_toArray, List.append_toArray, List.nil_append, List.cons_append]
  have cS := hC.size.cell 0
  have cV := hC.v.cell 0
  simp at cS cV
  have hlb := hC.size.lt
  have hlv := hC.v.lt
  have HC := Lib.hid hC
  have HY := Lib.hid hY
  have HA := Lib.hid hc
  have HJ := Lib.hid hJ
  have HJx := Lib.hid hJx
  have H0 := Lib.hid h0
  clear hC hY hc hJ hJx h0
  by_cases h1 : 1 ≤ size
  · have hd : decide (size < 1) = false := by simp; omega
    by_cases h2 : size % 4096 = 0
    · have hm : size.tmod 4096 = 0 := by rw [tmod_up (by omega)]; exact h2
      have HL : Hid (roomsL lo hi size zs = roomsG lo hi size (goodL zs)) := Lib.hid (by unfold roomsL; rw [if_pos ⟨h1, h2⟩])
      rw [HL.out]
      clear h2
      gi_wp2_with (gi_at_call 28; refine (XE.out _).mono ?_; rintro e w1 ⟨rfl, rfl⟩)
      have hB0 := below_new2 W (.cells #[.func (.yield l) #[] #[]] 67) (.cells #[.slice A zs.length cap] 22)
      have bT : Whole ((W.alloc (.cells #[.func (.yield l) #[] #[]] 67)).alloc (.cells #[.slice A zs.length cap] 22)) W.heap.size 67 #[.func (.yield l) #[] #[]] := (Whole.new W _ _).alloc _
      have bN : Whole ((W.alloc (.cells #[.func (.yield l) #[] #[]] 67)).alloc (.cells #[.slice A zs.length cap] 22)) (W.heap.size + 1) 22 #[.slice A zs.length cap] := by
        have := Whole.new (W.alloc (.cells #[.func (.yield l) #[] #[]] 67)) 22 #[.slice A zs.length cap]; rwa [World.size_alloc] at this
      have hsz : ((W.alloc (.cells #[.func (.yield l) #[] #[]] 67)).alloc (.cells #[.slice A zs.length cap] 22)).heap.size = W.heap.size + 2 := by simp
      generalize (W.alloc (.cells #[.func (.yield l) #[] #[]] 67)).alloc (.cells #[.slice A zs.length cap] 22) = W0 at *
      have R0 : RoomAt J b W.heap.size l size (.slice A zs.length cap) lo hi [] W0 := ⟨HJ.out _ _ _ H0.out (only_still hB0), HC.out.keep (fun k t cs _ h => h.below hB0 h.lt), bT, by omega⟩
      refine wpIn_rangeFunc_ownH hro (by omega) (gf := 41) (lb := #[.pointer (some ⟨W.heap.size + 1, 0, none⟩)]) rfl trivial (enters_of Try.func41 (by kernel_rfl) rfl)
        (each_stops (W.heap.size + 1) n₀ cap A zs (by omega) W0 (by omega) (by omega) (bN.cell 0) (HA.out.below (hB0.mono (by omega)))) KpA.trans (KpA.put (by omega)) (Below.refl _ _) (fun _ => rfl)
        (fun pre Wr => RoomAt J b W.heap.size l size (.slice A zs.length cap) lo hi pre Wr)
        (fun c pre Wr => c = .ret ∧ Jx (roomsG lo hi size pre) Wr)
        (room_own (HJ.out.mono (by omega)))
        (fun c s X Y row hs hg hr => ⟨hs.1, (HJx.out.mono (B' := W0.heap.size) (by omega)).own _ X Y row hs.2 hg hr⟩)
        R0
        (fun x a' Wr => ∃ Bx, W0.heap.size ≤ Bx ∧ Whole Wr Bx 29 x.1.cells ∧ a' = { tmps := #[.func (.yield l) #[] #[], .pointer (some ⟨b + 3, 0, none⟩), .pointer (some ⟨b, 0, none⟩), .pointer (some ⟨b + 1, 0, none⟩), .pointer (some ⟨b + 2, 0, none⟩), .pointer (some ⟨W.heap.size, 0, none⟩), .pointer (some ⟨Bx, 0, none⟩), .int .i64 size, .bool false, .bool false, .int .i64 size, .int .i64 0, .bool false, .bool false, .slice A zs.length cap, .func (.func 41) #[] #[.pointer (some ⟨W.heap.size + 1, 0, none⟩)], x.1.v, undef, undef, undef, undef, undef, undef, undef, undef, undef, undef, undef, undef, undef, undef, undef, undef, undef], defers := [] })
        (fun x a' _ X Y row hs hg hr => by obtain ⟨Bx, h0, h2, h3⟩ := hs; exact ⟨Bx, h0, whole_own Bx _ (fun _ : Unit => _) () X Y row h2 hg (fun r e => (hr r e).2), h3⟩)
        ?assign ?body ?done ?stop
      case assign =>
        rintro l2 pre ⟨⟨x0, x1⟩, hx⟩ Wr K hI hK
        simp only [Gp.v]
        have hs0 : W0.heap.size ≤ Wr.heap.size := by have := hI.sz; omega
        gi_wp2
        exact hK _ _ ((KeepsOthers.alloc _ _).from _) (KpA.still (by have := hI.t.lt; omega) (below_new Wr _)) ((room_own HJ.out).alloc (s := pre) _ hI) ⟨Wr.heap.size, hs0, Whole.new Wr _ _, rfl⟩
      case body =>
        rintro l2 pre x a' Wr hlw hrec hI ⟨Bx, hBx, bX, rfl⟩ hlt
        have X := Lib.hid (within_any x.1 x.2 lo hi)
        have hwb := within_bound x.2 lo hi
        obtain ⟨r, hr⟩ : ∃ r, withinG lo hi x.1 = r := ⟨_, rfl⟩
        have HR := Lib.hid hr
        rw [hr] at X hwb
        have c0 := bX.cell 0
        have c1 := bX.cell 1
        have cL := hI.c.lo.cell 0
        have cH := hI.c.hi.cell 0
        have HI := Lib.hid hI
        have HX := Lib.hid bX
        have HW := Lib.hid hlt
        clear hr hI bX hlt hrec R0 bN bT hB0 cS cV XE
        have hne3 : b + 3 ≠ Bx := by omega
        have hneq : W.heap.size ≠ Bx := by omega
        obtain ⟨r0, r1⟩ := r
        simp only [Gp.v, Gp.cells] at X c0 c1 cL cH hwb HX ⊢
        generalize hx0 : x.1.s = x0 at *
        generalize hx1 : x.1.e = x1 at *
        simp at c0 c1 cL cH
        have HLN : Hid ((roomsG lo hi size pre).length < zs.length + 1) := Lib.hid (by have := rooms_len lo hi size pre; have := HW.out; omega)
        by_cases hroom : size ≤ r1 - r0
        · obtain ⟨y, hy0, hy1⟩ : ∃ y : GG, y.1 = ⟨r0, r1⟩ ∧ roomsG lo hi size (pre ++ [x]) = roomsG lo hi size pre ++ [y] := by
            have hq : size ≤ (withinG lo hi x.1).e - (withinG lo hi x.1).s := by rw [HR.out]; exact hroom
            exact ⟨_, HR.out, rooms_snoc_yes pre x h1 hq⟩
          have HY1 := Lib.hid hy1
          clear hy1
          gi_wp2_with (gi_at_call 43; refine (CallsIn.inRound l2 (callsIn_wide.2 (X.out _))).mono ?_; rintro e W1 ⟨rfl, hb1⟩; clear X c0 c1 cL cH; have bX1 := HX.out.below hb1 HX.out.lt; have f0 := bX1.frozen 0; have f1 := bX1.frozen 1; have c0 := bX1.cell 0; have c1 := bX1.cell 1; simp at c0 c1; have cS := (HI.out.c.size.below hb1 HI.out.c.size.lt).cell 0; have cT := (HI.out.t.below hb1 HI.out.t.lt).cell 0; simp at cS cT; have B1 := Lib.hid hb1; obtain ⟨fn, tmps, assign, body, hy, hR⟩ := HY.out _ y _ (HJ.out _ _ _ (HJ.out _ _ _ (HJ.out _ _ _ HI.out.j (only_still hb1)) (only_set (b := Bx) (i := 0) W1 (.int .i64 r0) (by omega))) (only_set (b := Bx) (i := 1) _ (.int .i64 r1) (by omega))) HLN.out h1; rw [hy0] at hy; simp only [Gp.v] at hy; clear hb1 bX1)
          have WA := Lib.hid (within_at (n₀ := n₀) HI.out B1.out HX.out (by omega) (by omega) hn₀ (.int .i64 r0) (.int .i64 r1))
          refine RoundIn.mono (F := Fence.wide.inRound l2) (round_wide hR) ?_
          clear hy hR f0 f1 c0 c1 cS cT
          rintro e W3 (⟨rfl, hJ3, hk3⟩ | ⟨rfl, hJx3, hk3⟩)
          · gi_wp2
            refine ⟨(WA.out.ko.from _).trans (keepsFrom_mono hk3.from' (by omega)), WA.out.kp.trans hk3.kp, ?_⟩
            exact (show RoomAt _ _ _ _ _ _ _ _ _ _ from ⟨by rw [HY1.out]; exact hJ3, WA.out.c.keep (fun k t cs hk h => hk3.whole hk h), hk3.whole (by omega) WA.out.t, Nat.le_trans WA.out.sz hk3.from'.size⟩)
          · gi_wp2
            refine ⟨(WA.out.ko.from _).trans (keepsFrom_mono hk3 (by omega)), (show _ ∧ _ from ⟨rfl, ?_⟩)⟩
            rw [HY1.out]; exact hJx3
        · have HY1 : Hid (roomsG lo hi size (pre ++ [x]) = roomsG lo hi size pre) := Lib.hid (rooms_snoc_no pre x (by rw [HR.out]; exact hroom))
          gi_wp2_with (gi_at_call 43; refine (CallsIn.inRound l2 (callsIn_wide.2 (X.out _))).mono ?_; rintro e W1 ⟨rfl, hb1⟩; clear X c0 c1 cL cH; have bX1 := HX.out.below hb1 HX.out.lt; have f0 := bX1.frozen 0; have f1 := bX1.frozen 1; have c0 := bX1.cell 0; have c1 := bX1.cell 1; simp at c0 c1; have cS := (HI.out.c.size.below hb1 HI.out.c.size.lt).cell 0; simp at cS; have B1 := Lib.hid hb1; clear hb1 bX1)
          refine ⟨fun _ h => (by cases h), ?_⟩
          have WA := Lib.hid (within_at (n₀ := n₀) HI.out B1.out HX.out (by omega) (by omega) hn₀ (.int .i64 r0) (.int .i64 r1))
          gi_wp2
          refine ⟨WA.out.ko.from _, WA.out.kp, ?_⟩
          exact (show RoomAt _ _ _ _ _ _ _ _ _ _ from ⟨by rw [HY1.out]; exact HJ.out _ _ _ HI.out.j WA.out.only, WA.out.c, WA.out.t, WA.out.sz⟩)
      case done =>
        rintro D ys Wr hD hys hI hK
        have hj := hI.j
        rw [good_eq hys] at hj
        have HJ1 := Lib.hid (HJ.out _ _ _ hj (only_put Wr (.deferred none) (show W.heap.size ≤ D by omega)))
        clear hj
        gi_wp2
        refine ⟨by simp, .inl ⟨_, _, rfl, run_takeDeferred hK, ?_⟩⟩
        exact ⟨_, results_none rfl _ _ _, ⟨_, rfl⟩, .inl ⟨_, rfl, HJ1.out⟩⟩
      case stop =>
        rintro D c pre Wr hD hSp ⟨rfl, hJ⟩ hK
        obtain ⟨t, ht⟩ := told_eq hSp
        have hp : Part (roomsG lo hi size (goodL zs)) (roomsG lo hi size pre) := ⟨roomsG lo hi size t, by rw [← ht]; simp [roomsG]⟩
        have HJ1 := Lib.hid (HJx.out _ _ _ hJ (only_put Wr (.deferred none) (show W.heap.size ≤ D by omega)))
        clear hJ ht
        gi_wp2
        refine ⟨by simp, .inl ⟨_, _, rfl, run_takeDeferred hK, ?_⟩⟩
        exact ⟨_, results_none rfl _ _ _, ⟨_, rfl⟩, .inr ⟨_, hp, HJ1.out⟩⟩
    · have hm : size.tmod 4096 ≠ 0 := by rw [tmod_up (by omega)]; exact h2
      have hne : (size % 4096 != 0) = true := by simp [h2]
      have HL : Hid (roomsL lo hi size zs = []) := Lib.hid (by unfold roomsL; rw [if_neg (fun h => h2 h.2)])
      rw [HL.out]
      clear h2
      gi_wp2
      exact ⟨_, results_none rfl _ _ _, ⟨_, rfl⟩, .inl ⟨_, rfl, HJ.out _ _ _ H0.out (only_still (below_new W _))⟩⟩
  · have hd : decide (size < 1) = true := by simp; omega
    have HL : Hid (roomsL lo hi size zs = []) := Lib.hid (by unfold roomsL; rw [if_neg (fun h => h1 h.1)])
    rw [HL.out]
    gi_wp2
    exact ⟨_, results_none rfl _ _ _, ⟨_, rfl⟩, .inl ⟨_, rfl, HJ.out _ _ _ H0.out (only_still (below_new W _))⟩⟩

theorem rooms_stops (b n₀ cap : Nat) (A : Option Addr) (zs : List Ar) (lo hi size : Int) (hl : zs.length ≤ 10000) (w : World) (hn₀ : n₀ ≤ b) (hC : Caught w b size (.slice A zs.length cap) lo hi) (hc : Areas n₀ w A zs) :
    SeqOwn 42 #[.pointer (some ⟨b + 3, 0, none⟩), .pointer (some ⟨b, 0, none⟩), .pointer (some ⟨b + 1, 0, none⟩), .pointer (some ⟨b + 2, 0, none⟩)] n₀ b (· = roomsL lo hi size zs) (Part (roomsL lo hi size zs)) (if 1 ≤ size then zs.length + 1 else 0) w := fun l J Jx W hW hJ hJx hY h0 =>
  rooms1_in b l n₀ cap A zs lo hi size hl J Jx W hJ hJx (fun pre x W1 h1 h2 h3 => hY pre x W1 h1 (by rw [if_pos h3]; exact h2)) hn₀ (hC.keep (fun k t cs _ h => h.below hW h.lt)) (hc.below (hW.mono (by have := hC.v.lt; omega))) h0

set_option maxHeartbeats 1000000 in
theorem rooms_in (A : Option Addr) (len cap : Nat) (lo hi size : Int) (w : World) :
    CallsIn Fence.wide 4 Try.prog 29 #[.slice A len cap, .int .i64 lo, .int .i64 hi, .int .i64 size] w fun e w' => e = .returned (.func (.func 42) #[] #[.pointer (some ⟨w.heap.size + 3, 0, none⟩), .pointer (some ⟨w.heap.size, 0, none⟩), .pointer (some ⟨w.heap.size + 1, 0, none⟩), .pointer (some ⟨w.heap.size + 2, 0, none⟩)]) ∧ Below w.heap.size w w' ∧ w'.heap.size = w.heap.size + 4 ∧ Caught w' w.heap.size size (.slice A len cap) lo hi := by
  refine callsIn_of_wp Try.func29 rfl trivial ?_ rfl
  simp only [Try.ntmps29, List.size_toArray, List.length_cons, List.length_nil, Nat.reduceAdd, Nat.reduceSub, Array.replicate_succ, Array.replicate_zero, List.push_toArray, List.append_toArray, List.nil_append, List.cons_append]
  have bag := ((((Bag.new w).add 22 #[.slice A len cap]).add 2 #[.int .i64 lo]).add 2 #[.int .i64 hi]).add 2 #[.int .i64 size]
  simp only [World.size_alloc] at bag
  gi_wp2
  go_ret
  exact ⟨rfl, bag.bel, by simp, bag.v3, bag.v2, bag.v1, bag.v0⟩
end Go.Proofs.Ytmppodobgkhojaa
