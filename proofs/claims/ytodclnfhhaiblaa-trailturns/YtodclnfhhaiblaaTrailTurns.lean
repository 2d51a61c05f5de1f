/-
  For every number of cells (of 8 bits), every list of programs and every list of turns: each step does the access that is next, each program is told what its own accesses were told, and the marks have their steps' times (6 programs of 25 ops, 300 steps; of more nothing is asked). No condition.
-/
import Derived.Test.YtodclnfhhaiblaaRows
import Derived.Test.YtodclnfhhaiblaaTrailTurnsWalk
import Derived.Test.YtodclnfhhaiblaaTrailTurnsCame
import Derived.WalkKit
import Derived.ProofKit
import Derived.OpenShut
import Derived.ShutString
import Derived.ChangeOld
import Derived.Below
namespace Go.Proofs.Ytodclnfhhaiblaa.trailTurns
open Go.Proofs.Ytodclnfhhaiblaa
open Go.ChangeShapes Go.WideShapes Go.ChangeAt Go.RowKit
open Go.ChangeMaps (open_string shut_string)
set_option linter.unusedVariables false

theorem own : ownKnob Try.prog.godebug = none := by kernel_rfl
theorem laidOut : laidOutB Try.prog = true := by kernel_rfl

theorem walk0 {H : Type} {enc : TypeId × Value → H} (W : World) (base : Nat) (v0 : Value) (d0 : DataW H) (p0 : List MemPlace) (ok0 : Value.okWide Try.prog W .any base 5 v0) (h0 : DataW.Trod enc Try.prog W 0 (fun _ => true) true 5 v0 d0 p0) (v1 : Value) (d1 : DataW H) (p1 : List MemPlace) (ok1 : Value.okWide Try.prog W .any base 22 v1) (h1 : DataW.Trod enc Try.prog W 0 (fun _ => true) true 22 v1 d1 p1) (v2 : Value) (d2 : DataW H) (p2 : List MemPlace) (ok2 : Value.okWide Try.prog W .any base 23 v2) (h2 : DataW.Trod enc Try.prog W 0 (fun _ => true) true 23 v2 d2 p2) :
    Calls Try.prog 3 #[v0, v1, v2] W fun e W' => e = .returned (.bool true) ∧ Below W.heap.size W W' := by
  obtain ⟨a0, rfl, rfl, rfl, w0⟩ := open_int Try.underlying5 ok0 h0
  have hb0 := bounds_u8 w0
  obtain ⟨LA, n, lc, rfl⟩ := okWide_slice Try.underlying22 ok1
  obtain ⟨TA, tn, tc, rfl⟩ := okWide_slice Try.underlying23 ok2
  obtain ⟨LB, LO, f, rfl, hLA, hf⟩ := programs_came h1
  obtain ⟨TB, TO, hTA, hT⟩ := turns_came h2
  have hat : ∀ i, i < f.length → f[i]? = some (f.getD i ⟨none, 0, 0, 0, []⟩) := fun i hi => by simp [List.getD_eq_getElem?_getD, List.getElem?_eq_getElem hi]
  have hA : Arg3 W LA LB LO f.length (fun i => (f.getD i ⟨none, 0, 0, 0, []⟩).B) (fun i => (f.getD i ⟨none, 0, 0, 0, []⟩).c) (fun i => (f.getD i ⟨none, 0, 0, 0, []⟩).lb) (fun i => (f.getD i ⟨none, 0, 0, 0, []⟩).lo) (fun i => (f.getD i ⟨none, 0, 0, 0, []⟩).l) TA TB TO tn :=
    ⟨fun h => (hLA h).1, fun i hi => (hf i _ (hat i hi)).1, fun i hi => (hf i _ (hat i hi)).2, hTA, hT⟩
  have hns : (f.map (fun x => x.l.length)).length = f.length := by simp
  by_cases hbad : few3 (f.map (fun x => x.l.length)) 6 = false ∨ (f.map (fun x => x.l.length)).length = 0 ∨ 300 < tn
  · have := turns_none a0 LA LB LO lc (f.map (fun x => x.l.length)) TA tn tc W ⟨fun h => (hLA (by rw [hns] at h; exact h)).1, fun k m hk => by
      rw [List.getElem?_map] at hk
      obtain ⟨x, hx, rfl⟩ := Option.map_eq_some_iff.1 hk
      exact ⟨x.B, x.c, (hf k x hx).1⟩⟩ hbad (fun h => (hLA (by rw [hns] at h; exact h)).2)
    rw [hns] at this
    exact this
  · have hg : few3 (f.map (fun x => x.l.length)) 6 = true := by
      cases h : few3 (f.map (fun x => x.l.length)) 6 with
      | true => rfl
      | false => exact absurd (.inl h) hbad
    have h0 : ¬ (f.map (fun x => x.l.length)).length = 0 := fun h => hbad (.inr (.inl h))
    have h3 : ¬ 300 < tn := fun h => hbad (.inr (.inr h))
    rw [few3, Bool.and_eq_true] at hg
    have h6 : f.length ≤ 6 := by simpa using hg.2
    rw [hns] at h0
    refine turns_some a0 hb0.1 hb0.2 LA LB LO lc f.length _ _ _ _ _ TA TB TO tn tc W hA (by omega) h6 (by omega) (fun i hi => ?_)
    have hmem : (f.getD i ⟨none, 0, 0, 0, []⟩).l.length ∈ (f.map (fun x => x.l.length)).take 10 := by
      rw [List.take_of_length_le (by rw [hns]; omega), List.mem_iff_getElem?]
      exact ⟨i, by rw [List.getElem?_map, hat i hi]; rfl⟩
    simpa using List.all_eq_true.1 hg.1 _ hmem

set_option maxRecDepth 100000 in
theorem lifted (os : Os) (started : os.Started) (H : Type) (enc : TypeId × Value → H) :
    ReturnsInHanded {} Try.checked os 3 .any (Rows.trailTurnsSpec.pre6 enc Try.prog Try.f3 Rows.trailTurnsRow.domain false) (Rows.trailTurnsSpec.post enc Try.prog Try.f3 false true false false) := by
  refine returnsInHanded_of_change (C := Try.checked) own started (by kernel_rfl) Try.func3
    (ChangeSpec.witness6 (enc := enc) (C := Try.checked) false ⟨#[], #[.int .u8 0, .slice none 0 0, .slice none 0 0], []⟩ 8 (by kernel_rfl) (by kernel_rfl) (by kernel_rfl) (by kernel_rfl)) ?_
  intro W base args ds gs before hval0 hW hcnd _
  have hval : ∀ (j : Nat) t v, Try.f3.params[j]? = some t → args[j]? = some v → Value.okWide Try.prog W .any base t v := hval0
  have hW' := hW
  obtain ⟨p, q, hA0, hV, rfl, hfz, hnd⟩ := hW
  have hA : DataW.TrodAll enc Try.prog W 0 (fun _ => true) true Try.f3.params.toList args.toList ds p := hA0
  rw [Try.params3] at hA hval
  obtain ⟨v0, vs0, d0, ds0, p0, q0, hargs, rfl, rfl, h0, r0⟩ := trodAll_cons hA
  obtain ⟨v1, vs1, d1, ds1, p1, q1, rfl, rfl, rfl, h1, r1⟩ := trodAll_cons r0
  obtain ⟨v2, vs2, d2, ds2, p2, q2, rfl, rfl, rfl, h2, r2⟩ := trodAll_cons r1
  obtain ⟨rfl, rfl, rfl⟩ := trodAll_nil r2
  obtain rfl : args = #[v0, v1, v2] := by cases args; simp_all
  obtain ⟨rfl, rfl⟩ := trodVars_none hV
  have lt0 : ∀ x ∈ p0, x.block < W.heap.size := by obtain ⟨m, hm⟩ := h0; exact DataW.trod_lt m _ _ _ hm
  have lt1 : ∀ x ∈ p1, x.block < W.heap.size := by obtain ⟨m, hm⟩ := h1; exact DataW.trod_lt m _ _ _ hm
  have lt2 : ∀ x ∈ p2, x.block < W.heap.size := by obtain ⟨m, hm⟩ := h2; exact DataW.trod_lt m _ _ _ hm
  refine (walk0 (enc := enc) W base v0 d0 p0 (hval 0 5 v0 rfl rfl) h0 v1 d1 p1 (hval 1 22 v1 rfl rfl) h1 v2 d2 p2 (hval 2 23 v2 rfl rfl) h2).mono fun e W' ⟨he, bel⟩ => ?_
  subst he
  exact ⟨_, rfl, _, _, _, [], _, [], hW', trodAll_mk1 (shut_bool Try.underlying4 _), (trodAll_cons_mk (Below.trod laidOut (by kernel_rfl) (of_decide_eq_true (by kernel_rfl)) h0 bel lt0) (trodAll_cons_mk (Below.trod laidOut (by kernel_rfl) (of_decide_eq_true (by kernel_rfl)) h1 bel lt1) (trodAll_cons_mk (Below.trod laidOut (by kernel_rfl) (of_decide_eq_true (by kernel_rfl)) h2 bel lt2) trodAll_mk0))), rfl, bel.frame _, fun h => by cases h⟩

theorem over : Rows.trailTurnsRow.holds Try.pinned (OpenSpec.ofChange Rows.trailTurnsSpec) :=
  OpenClaim.holds_of_wide 3 Try.f3 rfl rfl rfl rfl rfl rfl rfl ⟨rfl, rfl, rfl, rfl, rfl⟩ rfl rfl rfl rfl rfl (by kernel_rfl) Try.func3 (by kernel_rfl)
    (of_decide_eq_true (by kernel_rfl)) (by unfold Func.isWrapper; first | (rw [if_pos (by decide +kernel)]; kernel_rfl) | (rw [if_neg (by decide +kernel)]; exact ⟨rfl, rfl⟩))
    (fun os started H enc _ => lifted os started H enc)
end Go.Proofs.Ytodclnfhhaiblaa.trailTurns

namespace Go.Proofs.Ytodclnfhhaiblaa
theorem trailTurns_holds : Rows.TrailTurnsSaid := trailTurns.over
#print axioms trailTurns_holds
end Go.Proofs.Ytodclnfhhaiblaa
