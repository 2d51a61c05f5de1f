/-
  Layer 7: Set: a contract for the call.
-/
import Derived.Test.YtmppodobgkhojaaListOps
namespace Go.Proofs.Ytmppodobgkhojaa
open Go.ChangeShapes Go.WideShapes Go.ChangeAt Go.RowKit Go.Shelf
set_option linter.unusedVariables false

/-- One area's Prot is otherwise. -/
theorem Mine.protAt {B : Nat} {w : World} {g n c : Nat} {u r : List Ar} {z : Ar} (h : Mine B w (.slice (some ⟨g, 0, none⟩) n c) (u ++ z :: r)) (pr : Int) :
    Mine B (w.setCell ⟨g, u.length * 6 + 2, none⟩ (.int .i64 pr)) (.slice (some ⟨g, 0, none⟩) n c) (u ++ z.prot pr :: r) := by
  obtain ⟨hl, h2⟩ := h
  have hlen : (cls (u ++ z.prot pr :: r)).length = (cls (u ++ z :: r)).length := by rw [cls_len, cls_len]; simp
  refine ⟨by rw [hlen, hl]; simp, ?_⟩
  rcases h2 with ⟨h0, _⟩ | ⟨g', cap, cur, hv, hb, hh, h3, h4, h5, h6⟩
  · cases h0
  · have hv' := hv
    injection hv with h1
    injection h1 with h1
    injection h1 with h1
    subst h1
    refine .inr ⟨g, cap, cur.setIfInBounds (u.length * 6 + 2) (.int .i64 pr), ?_, hb, Whole.put (t := 35) hh _ _, by simpa using h3, h4, by simpa using h5, ?_⟩
    · simpa using hv'
    · have e1 : (cls (u ++ z :: r)).set (u.length * 6 + 2) (.int .i64 pr) = cls (u ++ z.prot pr :: r) := by
        rw [cls_app, cls_app, List.set_append_right _ _ (by rw [cls_len]; omega), cls_len, show u.length * 6 + 2 - u.length * 6 = 2 by omega]
        rfl
      rw [← e1, ← h6]
      simp only [Array.toList_setIfInBounds, List.length_append, List.length_cons]
      rw [List.take_set]
/-- The first k areas have it. -/
def setTo (pr : Int) (l : List Ar) (k : Nat) : List Ar := (l.take k).map (Ar.prot pr) ++ l.drop k
theorem setTo_len (pr : Int) (l : List Ar) (k : Nat) : (setTo pr l k).length = l.length := by simp [setTo]; omega
theorem setTo_zero (pr : Int) (l : List Ar) : setTo pr l 0 = l := by simp [setTo]
theorem setTo_all (pr : Int) (l : List Ar) : setTo pr l l.length = l.map (Ar.prot pr) := by simp [setTo]
/-- Our list, and all that was there. -/
structure SetAt (w wr : World) (v : Value) (l : List Ar) : Prop where
  m : Mine w.heap.size wr v l
  bel : Below w.heap.size w wr
theorem SetAt.step {w wr : World} {g n c : Nat} {l : List Ar} {pr : Int} {k : Nat} (hk : k < l.length) (h : SetAt w wr (.slice (some ⟨g, 0, none⟩) n c) (setTo pr l k)) :
    (wr.frozen? ⟨g, k * 6 + 2, none⟩ = false ∧ ∃ u, wr.cell? ⟨g, k * 6 + 2, none⟩ = some u) ∧ SetAt w (wr.setCell ⟨g, k * 6 + 2, none⟩ (.int .i64 pr)) (.slice (some ⟨g, 0, none⟩) n c) (setTo pr l (k + 1)) := by
  have e : setTo pr l k = (l.take k).map (Ar.prot pr) ++ l[k] :: l.drop (k + 1) := by unfold setTo; rw [List.drop_eq_getElem_cons hk]
  have e2 : setTo pr l (k + 1) = (l.take k).map (Ar.prot pr) ++ (l[k]).prot pr :: l.drop (k + 1) := by
    unfold setTo; rw [List.take_succ_eq_append_getElem hk, List.map_append, List.append_assoc]; rfl
  have hlen : ((l.take k).map (Ar.prot pr)).length = k := by simp; omega
  have hm := h.m
  have hAr := hm.areas
  rw [e] at hm
  have h1 := hm.protAt pr
  rw [hlen, ← e2] at h1
  refine ⟨⟨?_, ?_⟩, h1, ?_⟩
  · rcases hm.2 with ⟨h0, _⟩ | ⟨g', cap, cur, hv, hb, hh, _⟩
    · cases h0
    · injection hv with h1
      injection h1 with h1
      injection h1 with h1
      subst h1
      exact Whole.frozen (t := 35) hh _
  · rcases hAr with h0 | ⟨b, off, hb', _, hc⟩
    · have : (setTo pr l k).length = 0 := by rw [h0]; rfl
      rw [setTo_len] at this; omega
    · injection hb' with hb'
      injection hb' with hb1 hb2
      subst hb1 hb2
      have := (hc k (by rw [setTo_len]; exact hk)).c2
      exact ⟨_, by simpa using this⟩
  · exact h.bel.trans ((Below.refl _ _).setCell (p := ⟨g, k * 6 + 2, none⟩) ((hm.lt g (by simp [Value.ownBlock])).1) _)

/-- What is set lies in a list. -/
def SetIn (lo hi pr : Int) (l y : List Ar) : Prop := RightL y ∧ ∀ p, tab y p = if Touch lo hi p then (tab l p).map (fun x => { x with p := pr }) else tab l p

end Go.Proofs.Ytmppodobgkhojaa
