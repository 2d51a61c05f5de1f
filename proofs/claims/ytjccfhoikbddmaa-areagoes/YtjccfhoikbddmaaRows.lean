/-
  No cell of these rows narrows 'for every input' (looked for: loops, veiled, ifaces, maps, wideKeys, modest, calm, conditions, laid).
  DERIVED. THE GIVEN ROWS OF THIS SEAT. 5 by the template 'for every input the law returns true; each argument reads behind the call as it read before'; 0 by the template 'total and deterministic' (their statements: YtjccfhoikbddmaaTotals.lean).
  GIVEN WITH THE SEED: the statements are not yours to turn. If you find one false, say at which input.
  Laid BY PROGRAM, IN A SANDBOX (cutbox-rows.mjs): the forced cells as the released guide's own fill.sh prints them over the translation ccd3e2078531c14c… (all of the seat's roots in one cut). By AI agents, Wed Nov 11 2026. No macro, syntax, notation, axiom, sorry.
-/
import Derived.Test.YtjccfhoikbddmaaChecked
import GoSem.Claim
import GoSem.ClaimJoined
import GoSem.ClaimMapViews
import Derived.JoinedTies
import Derived.KernelRfl
namespace Go.Proofs.Ytjccfhoikbddmaa
/- THE CELL 'sum', in the pinned program and in every row, IS THE sha256 OF THE DUMP (.gsa) THAT YtjccfhoikbddmaaProg.lean LOADS. Nothing in Lean hashes anything: it is a label: what it is worth is what the hold of that sum in a sandbox is worth. -/
noncomputable def Try.pinned : Pinned := { name := "ytjccfhoikbddmaa", sum := "ccd3e2078531c14c30b1a3bddcc4e74c3427f978a187b88cd2edf2380c63b4ed", checked := Try.checked }
namespace Rows
def none {H : Type} : Left H := { results := [], args := [] }

/-- 'samaralaw06.AreaNested': WHATEVER THE INPUT: true; the input reads as it did. -/
def areaNestedSpec : ChangeSpec := { name := "areaNested", fn := fun _ => fun
  | [d1, d2] => { results := [.lit (.bool true)], args := [d1, d2] }
  | _ => none }
def areaNestedRow : OpenClaim := { program := "ytjccfhoikbddmaa", sum := "ccd3e2078531c14c30b1a3bddcc4e74c3427f978a187b88cd2edf2380c63b4ed", func := "samara/samaralaw06.AreaNested", spec := "areaNested", apart := false }
def AreaNestedSaid : Prop := areaNestedRow.holds Try.pinned (OpenSpec.ofChange areaNestedSpec)

/-- ITS FALSE NEIGHBOUR: 'it returns false'. Refute it at one input. -/
def areaNestedWrong : ChangeSpec := { name := "areaNested", fn := fun _ => fun
  | [d1, d2] => { results := [.lit (.bool false)], args := [d1, d2] }
  | _ => none }
def AreaNestedWrongFalsely : Prop := areaNestedRow.holds Try.pinned (OpenSpec.ofChange areaNestedWrong)

/-- 'samaralaw06.AreaForms': WHATEVER THE INPUT: true; the input reads as it did. -/
def areaFormsSpec : ChangeSpec := { name := "areaForms", fn := fun _ => fun
  | [d1, d2] => { results := [.lit (.bool true)], args := [d1, d2] }
  | _ => none }
def areaFormsRow : OpenClaim := { program := "ytjccfhoikbddmaa", sum := "ccd3e2078531c14c30b1a3bddcc4e74c3427f978a187b88cd2edf2380c63b4ed", func := "samara/samaralaw06.AreaForms", spec := "areaForms", apart := false }
def AreaFormsSaid : Prop := areaFormsRow.holds Try.pinned (OpenSpec.ofChange areaFormsSpec)

/-- ITS FALSE NEIGHBOUR: 'it returns false'. Refute it at one input. -/
def areaFormsWrong : ChangeSpec := { name := "areaForms", fn := fun _ => fun
  | [d1, d2] => { results := [.lit (.bool false)], args := [d1, d2] }
  | _ => none }
def AreaFormsWrongFalsely : Prop := areaFormsRow.holds Try.pinned (OpenSpec.ofChange areaFormsWrong)

/-- 'samaralaw06.AreaGoes': WHATEVER THE INPUT: true; the input reads as it did. -/
def areaGoesSpec : ChangeSpec := { name := "areaGoes", fn := fun _ => fun
  | [d1, d2] => { results := [.lit (.bool true)], args := [d1, d2] }
  | _ => none }
def areaGoesRow : OpenClaim := { program := "ytjccfhoikbddmaa", sum := "ccd3e2078531c14c30b1a3bddcc4e74c3427f978a187b88cd2edf2380c63b4ed", func := "samara/samaralaw06.AreaGoes", spec := "areaGoes", apart := false }
def AreaGoesSaid : Prop := areaGoesRow.holds Try.pinned (OpenSpec.ofChange areaGoesSpec)

/-- ITS FALSE NEIGHBOUR: 'it returns false'. Refute it at one input. -/
def areaGoesWrong : ChangeSpec := { name := "areaGoes", fn := fun _ => fun
  | [d1, d2] => { results := [.lit (.bool false)], args := [d1, d2] }
  | _ => none }
def AreaGoesWrongFalsely : Prop := areaGoesRow.holds Try.pinned (OpenSpec.ofChange areaGoesWrong)

/-- 'samaralaw06.AreaMay': WHATEVER THE INPUT: true; the input reads as it did. -/
def areaMaySpec : ChangeSpec := { name := "areaMay", fn := fun _ => fun
  | [d1, d2] => { results := [.lit (.bool true)], args := [d1, d2] }
  | _ => none }
def areaMayRow : OpenClaim := { program := "ytjccfhoikbddmaa", sum := "ccd3e2078531c14c30b1a3bddcc4e74c3427f978a187b88cd2edf2380c63b4ed", func := "samara/samaralaw06.AreaMay", spec := "areaMay", apart := false }
def AreaMaySaid : Prop := areaMayRow.holds Try.pinned (OpenSpec.ofChange areaMaySpec)

/-- ITS FALSE NEIGHBOUR: 'it returns false'. Refute it at one input. -/
def areaMayWrong : ChangeSpec := { name := "areaMay", fn := fun _ => fun
  | [d1, d2] => { results := [.lit (.bool false)], args := [d1, d2] }
  | _ => none }
def AreaMayWrongFalsely : Prop := areaMayRow.holds Try.pinned (OpenSpec.ofChange areaMayWrong)

/-- 'samaralaw06.AreaBack': WHATEVER THE INPUT: true; the input reads as it did. -/
def areaBackSpec : ChangeSpec := { name := "areaBack", fn := fun _ => fun
  | [d1, d2] => { results := [.lit (.bool true)], args := [d1, d2] }
  | _ => none }
def areaBackRow : OpenClaim := { program := "ytjccfhoikbddmaa", sum := "ccd3e2078531c14c30b1a3bddcc4e74c3427f978a187b88cd2edf2380c63b4ed", func := "samara/samaralaw06.AreaBack", spec := "areaBack", apart := false }
def AreaBackSaid : Prop := areaBackRow.holds Try.pinned (OpenSpec.ofChange areaBackSpec)

/-- ITS FALSE NEIGHBOUR: 'it returns false'. Refute it at one input. -/
def areaBackWrong : ChangeSpec := { name := "areaBack", fn := fun _ => fun
  | [d1, d2] => { results := [.lit (.bool false)], args := [d1, d2] }
  | _ => none }
def AreaBackWrongFalsely : Prop := areaBackRow.holds Try.pinned (OpenSpec.ofChange areaBackWrong)

/- THE SECOND FORM. 'bulk': how many values and letters a reading holds, each counted each time it is reached (what is shared counts as often as it is met; a slice's spare places count too). A statement '..UptoSaid' is the law's where the arguments, and the package variables that the reading takes, are together of bulk at most 1048576: NARROWER than '..Said'. Prove '..Said' where nothing that the law and all that it calls make is longer than what came in: it says more and counts as full. Else prove '..UptoSaid'. A law counts once. -/
mutual
def uptoBulk {H : Type} : DataW H → Nat
  | .lit (.string bytes) => bytes.length + 1
  | .lit _ => 1
  | .nil => 1
  | .ptr d => uptoBulk d + 1
  | .slice elems spare => uptoBulkAll elems + uptoBulkAll spare + 1
  | .agg parts => uptoBulkAll parts + 1
  | .iface _ d => uptoBulk d + 1
  | .map entries => uptoBulkEntries entries + 1
  | .held _ => 1
def uptoBulkAll {H : Type} : List (DataW H) → Nat
  | [] => 0
  | d :: r => uptoBulk d + uptoBulkAll r
def uptoBulkEntries {H : Type} : List (Lit × DataW H) → Nat
  | [] => 0
  | x :: r => uptoBulkEntry x + uptoBulkEntries r
def uptoBulkEntry {H : Type} : Lit × DataW H → Nat
  | (.string bytes, d) => bytes.length + uptoBulk d + 1
  | (_, d) => uptoBulk d + 1
 end
def uptoSmall : (H : Type) → List (DataW H) → Bool := fun _ ds => decide (uptoBulkAll ds ≤ 1048576)
def OpenSpec.upto (s : _root_.Go.ChangeSpec) : _root_.Go.OpenSpec := { _root_.Go.OpenSpec.ofChange s with cond := some uptoSmall }

/-- 'samaralaw06.AreaNested', WHERE WHAT IT READS IS OF BULK AT MOST 1048576: true; the input reads as it did. -/
def areaNestedUptoRow : OpenClaim := { program := "ytjccfhoikbddmaa", sum := "ccd3e2078531c14c30b1a3bddcc4e74c3427f978a187b88cd2edf2380c63b4ed", func := "samara/samaralaw06.AreaNested", spec := "areaNested", apart := false, narrowed := true }
def AreaNestedUptoSaid : Prop := areaNestedUptoRow.holds Try.pinned (OpenSpec.upto areaNestedSpec)

/-- 'samaralaw06.AreaForms', WHERE WHAT IT READS IS OF BULK AT MOST 1048576: true; the input reads as it did. -/
def areaFormsUptoRow : OpenClaim := { program := "ytjccfhoikbddmaa", sum := "ccd3e2078531c14c30b1a3bddcc4e74c3427f978a187b88cd2edf2380c63b4ed", func := "samara/samaralaw06.AreaForms", spec := "areaForms", apart := false, narrowed := true }
def AreaFormsUptoSaid : Prop := areaFormsUptoRow.holds Try.pinned (OpenSpec.upto areaFormsSpec)

/-- 'samaralaw06.AreaGoes', WHERE WHAT IT READS IS OF BULK AT MOST 1048576: true; the input reads as it did. -/
def areaGoesUptoRow : OpenClaim := { program := "ytjccfhoikbddmaa", sum := "ccd3e2078531c14c30b1a3bddcc4e74c3427f978a187b88cd2edf2380c63b4ed", func := "samara/samaralaw06.AreaGoes", spec := "areaGoes", apart := false, narrowed := true }
def AreaGoesUptoSaid : Prop := areaGoesUptoRow.holds Try.pinned (OpenSpec.upto areaGoesSpec)

/-- 'samaralaw06.AreaMay', WHERE WHAT IT READS IS OF BULK AT MOST 1048576: true; the input reads as it did. -/
def areaMayUptoRow : OpenClaim := { program := "ytjccfhoikbddmaa", sum := "ccd3e2078531c14c30b1a3bddcc4e74c3427f978a187b88cd2edf2380c63b4ed", func := "samara/samaralaw06.AreaMay", spec := "areaMay", apart := false, narrowed := true }
def AreaMayUptoSaid : Prop := areaMayUptoRow.holds Try.pinned (OpenSpec.upto areaMaySpec)

/-- 'samaralaw06.AreaBack', WHERE WHAT IT READS IS OF BULK AT MOST 1048576: true; the input reads as it did. -/
def areaBackUptoRow : OpenClaim := { program := "ytjccfhoikbddmaa", sum := "ccd3e2078531c14c30b1a3bddcc4e74c3427f978a187b88cd2edf2380c63b4ed", func := "samara/samaralaw06.AreaBack", spec := "areaBack", apart := false, narrowed := true }
def AreaBackUptoSaid : Prop := areaBackUptoRow.holds Try.pinned (OpenSpec.upto areaBackSpec)

end Rows
end Go.Proofs.Ytjccfhoikbddmaa
