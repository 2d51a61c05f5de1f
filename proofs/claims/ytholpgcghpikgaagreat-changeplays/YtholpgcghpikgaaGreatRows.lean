/-
  No cell of these rows narrows 'for every input' (looked for: loops, veiled, ifaces, maps, wideKeys, modest, calm, conditions, laid).
  DERIVED. THE GIVEN ROWS OF THIS SEAT. 5 by the template 'for every input the law returns true; each argument reads behind the call as it read before'; 0 by the template 'total and deterministic' (their statements: YtholpgcghpikgaaGreatTotals.lean).
  GIVEN WITH THE SEED: the statements are not yours to turn. If you find one false, say at which input.
  Laid BY PROGRAM, IN A SANDBOX (cutbox-rows.mjs): the forced cells as the released guide's own fill.sh prints them over the translation 37812a094ec6f9a8… (all of the seat's roots in one cut). By AI agents, Wed Nov 11 2026. No macro, syntax, notation, axiom, sorry.
-/
import Derived.Test.YtholpgcghpikgaaGreatChecked
import GoSem.Claim
import GoSem.ClaimJoined
import GoSem.ClaimMapViews
import Derived.JoinedTies
import Derived.KernelRfl
namespace Go.Proofs.YtholpgcghpikgaaGreat
/- THE CELL 'sum', in the pinned program and in every row, IS THE sha256 OF THE DUMP (.gsa) THAT YtholpgcghpikgaaGreatProg.lean LOADS. Nothing in Lean hashes anything: it is a label: what it is worth is what the hold of that sum in a sandbox is worth. -/
noncomputable def Tryz.pinned : Pinned := { name := "ytholpgcghpikgaagreat", sum := "37812a094ec6f9a87f188fcc986697c06a296b5a699757b989cf4a598f085017", checked := Tryz.checked }
namespace Rows
def none {H : Type} : Left H := { results := [], args := [] }

/-- 'samaralaw14.ChangeParts': WHATEVER THE INPUT: true; the input reads as it did. -/
def changePartsSpec : ChangeSpec := { name := "changeParts", fn := fun _ => fun
  | [d1, d2] => { results := [.lit (.bool true)], args := [d1, d2] }
  | _ => none }
def changePartsRow : OpenClaim := { program := "ytholpgcghpikgaagreat", sum := "37812a094ec6f9a87f188fcc986697c06a296b5a699757b989cf4a598f085017", func := "samara/samaralaw14.ChangeParts", spec := "changeParts", unfollowed := true, recurses := true, apart := false }
def ChangePartsSaid : Prop := changePartsRow.holds Tryz.pinned (OpenSpec.ofChange changePartsSpec)

/-- ITS FALSE NEIGHBOUR: 'it returns false'. Refute it at one input. -/
def changePartsWrong : ChangeSpec := { name := "changeParts", fn := fun _ => fun
  | [d1, d2] => { results := [.lit (.bool false)], args := [d1, d2] }
  | _ => none }
def ChangePartsWrongFalsely : Prop := changePartsRow.holds Tryz.pinned (OpenSpec.ofChange changePartsWrong)

/-- 'samaralaw14.ChangePlays': WHATEVER THE INPUT: true; the input reads as it did. -/
def changePlaysSpec : ChangeSpec := { name := "changePlays", fn := fun _ => fun
  | [d] => { results := [.lit (.bool true)], args := [d] }
  | _ => none }
def changePlaysRow : OpenClaim := { program := "ytholpgcghpikgaagreat", sum := "37812a094ec6f9a87f188fcc986697c06a296b5a699757b989cf4a598f085017", func := "samara/samaralaw14.ChangePlays", spec := "changePlays", unfollowed := true, recurses := true, apart := false }
def ChangePlaysSaid : Prop := changePlaysRow.holds Tryz.pinned (OpenSpec.ofChange changePlaysSpec)

/-- ITS FALSE NEIGHBOUR: 'it returns false'. Refute it at one input. -/
def changePlaysWrong : ChangeSpec := { name := "changePlays", fn := fun _ => fun
  | [d] => { results := [.lit (.bool false)], args := [d] }
  | _ => none }
def ChangePlaysWrongFalsely : Prop := changePlaysRow.holds Tryz.pinned (OpenSpec.ofChange changePlaysWrong)

/-- 'samaralaw14.ChangeDoes': WHATEVER THE INPUT: true; the input reads as it did. -/
def changeDoesSpec : ChangeSpec := { name := "changeDoes", fn := fun _ => fun
  | [d1, d2] => { results := [.lit (.bool true)], args := [d1, d2] }
  | _ => none }
def changeDoesRow : OpenClaim := { program := "ytholpgcghpikgaagreat", sum := "37812a094ec6f9a87f188fcc986697c06a296b5a699757b989cf4a598f085017", func := "samara/samaralaw14.ChangeDoes", spec := "changeDoes", unfollowed := true, recurses := true, apart := false }
def ChangeDoesSaid : Prop := changeDoesRow.holds Tryz.pinned (OpenSpec.ofChange changeDoesSpec)

/-- ITS FALSE NEIGHBOUR: 'it returns false'. Refute it at one input. -/
def changeDoesWrong : ChangeSpec := { name := "changeDoes", fn := fun _ => fun
  | [d1, d2] => { results := [.lit (.bool false)], args := [d1, d2] }
  | _ => none }
def ChangeDoesWrongFalsely : Prop := changeDoesRow.holds Tryz.pinned (OpenSpec.ofChange changeDoesWrong)

/-- 'samaralaw14.ChangeFaults': WHATEVER THE INPUT: true; the input reads as it did. -/
def changeFaultsSpec : ChangeSpec := { name := "changeFaults", fn := fun _ => fun
  | [d1, d2] => { results := [.lit (.bool true)], args := [d1, d2] }
  | _ => none }
def changeFaultsRow : OpenClaim := { program := "ytholpgcghpikgaagreat", sum := "37812a094ec6f9a87f188fcc986697c06a296b5a699757b989cf4a598f085017", func := "samara/samaralaw14.ChangeFaults", spec := "changeFaults", unfollowed := true, recurses := true, apart := false }
def ChangeFaultsSaid : Prop := changeFaultsRow.holds Tryz.pinned (OpenSpec.ofChange changeFaultsSpec)

/-- ITS FALSE NEIGHBOUR: 'it returns false'. Refute it at one input. -/
def changeFaultsWrong : ChangeSpec := { name := "changeFaults", fn := fun _ => fun
  | [d1, d2] => { results := [.lit (.bool false)], args := [d1, d2] }
  | _ => none }
def ChangeFaultsWrongFalsely : Prop := changeFaultsRow.holds Tryz.pinned (OpenSpec.ofChange changeFaultsWrong)

/-- 'samaralaw14.ChangeOwn': WHATEVER THE INPUT: true; the input reads as it did. -/
def changeOwnSpec : ChangeSpec := { name := "changeOwn", fn := fun _ => fun
  | [d1, d2] => { results := [.lit (.bool true)], args := [d1, d2] }
  | _ => none }
def changeOwnRow : OpenClaim := { program := "ytholpgcghpikgaagreat", sum := "37812a094ec6f9a87f188fcc986697c06a296b5a699757b989cf4a598f085017", func := "samara/samaralaw14.ChangeOwn", spec := "changeOwn", unfollowed := true, recurses := true, apart := false }
def ChangeOwnSaid : Prop := changeOwnRow.holds Tryz.pinned (OpenSpec.ofChange changeOwnSpec)

/-- ITS FALSE NEIGHBOUR: 'it returns false'. Refute it at one input. -/
def changeOwnWrong : ChangeSpec := { name := "changeOwn", fn := fun _ => fun
  | [d1, d2] => { results := [.lit (.bool false)], args := [d1, d2] }
  | _ => none }
def ChangeOwnWrongFalsely : Prop := changeOwnRow.holds Tryz.pinned (OpenSpec.ofChange changeOwnWrong)

/- THE SECOND FORM. 'bulk': how many values and letters a reading holds, each counted each time it is reached (what is shared counts as often as it is met; a slice's spare places count too). A statement '..UptoSaid' is the law's where the arguments, and the package variables that the reading takes, are together of bulk at most 1048576: NARROWER than '..Said'. Prove '..Said' where nothing that the law and all that it calls make is longer than what came in: it says more and counts as full. Else prove '..UptoSaid'. A law counts once. -/
mutual
def uptoBulk {H : Type} : DataW H → Nat
  | .lit (.string bytes) => bytes.length + 1
  | .lit _ => 1
  | .nil => 1
  | .ptr d => uptoBulk d + 1
  | .slice elems spare => uptoBulkAll elems + uptoBulkAll spare + 1
  | .agg parts => uptoBulkAll parts + 1
  | .iface _ d => uptoBulk d + 1
  | .map entries => uptoBulkEntries entries + 1
  | .held _ => 1
def uptoBulkAll {H : Type} : List (DataW H) → Nat
  | [] => 0
  | d :: r => uptoBulk d + uptoBulkAll r
def uptoBulkEntries {H : Type} : List (Lit × DataW H) → Nat
  | [] => 0
  | x :: r => uptoBulkEntry x + uptoBulkEntries r
def uptoBulkEntry {H : Type} : Lit × DataW H → Nat
  | (.string bytes, d) => bytes.length + uptoBulk d + 1
  | (_, d) => uptoBulk d + 1
 end
def uptoSmall : (H : Type) → List (DataW H) → Bool := fun _ ds => decide (uptoBulkAll ds ≤ 1048576)
def OpenSpec.upto (s : _root_.Go.ChangeSpec) : _root_.Go.OpenSpec := { _root_.Go.OpenSpec.ofChange s with cond := some uptoSmall }

/-- 'samaralaw14.ChangeParts', WHERE WHAT IT READS IS OF BULK AT MOST 1048576: true; the input reads as it did. -/
def changePartsUptoRow : OpenClaim := { program := "ytholpgcghpikgaagreat", sum := "37812a094ec6f9a87f188fcc986697c06a296b5a699757b989cf4a598f085017", func := "samara/samaralaw14.ChangeParts", spec := "changeParts", unfollowed := true, recurses := true, apart := false, narrowed := true }
def ChangePartsUptoSaid : Prop := changePartsUptoRow.holds Tryz.pinned (OpenSpec.upto changePartsSpec)

/-- 'samaralaw14.ChangePlays', WHERE WHAT IT READS IS OF BULK AT MOST 1048576: true; the input reads as it did. -/
def changePlaysUptoRow : OpenClaim := { program := "ytholpgcghpikgaagreat", sum := "37812a094ec6f9a87f188fcc986697c06a296b5a699757b989cf4a598f085017", func := "samara/samaralaw14.ChangePlays", spec := "changePlays", unfollowed := true, recurses := true, apart := false, narrowed := true }
def ChangePlaysUptoSaid : Prop := changePlaysUptoRow.holds Tryz.pinned (OpenSpec.upto changePlaysSpec)

/-- 'samaralaw14.ChangeDoes', WHERE WHAT IT READS IS OF BULK AT MOST 1048576: true; the input reads as it did. -/
def changeDoesUptoRow : OpenClaim := { program := "ytholpgcghpikgaagreat", sum := "37812a094ec6f9a87f188fcc986697c06a296b5a699757b989cf4a598f085017", func := "samara/samaralaw14.ChangeDoes", spec := "changeDoes", unfollowed := true, recurses := true, apart := false, narrowed := true }
def ChangeDoesUptoSaid : Prop := changeDoesUptoRow.holds Tryz.pinned (OpenSpec.upto changeDoesSpec)

/-- 'samaralaw14.ChangeFaults', WHERE WHAT IT READS IS OF BULK AT MOST 1048576: true; the input reads as it did. -/
def changeFaultsUptoRow : OpenClaim := { program := "ytholpgcghpikgaagreat", sum := "37812a094ec6f9a87f188fcc986697c06a296b5a699757b989cf4a598f085017", func := "samara/samaralaw14.ChangeFaults", spec := "changeFaults", unfollowed := true, recurses := true, apart := false, narrowed := true }
def ChangeFaultsUptoSaid : Prop := changeFaultsUptoRow.holds Tryz.pinned (OpenSpec.upto changeFaultsSpec)

/-- 'samaralaw14.ChangeOwn', WHERE WHAT IT READS IS OF BULK AT MOST 1048576: true; the input reads as it did. -/
def changeOwnUptoRow : OpenClaim := { program := "ytholpgcghpikgaagreat", sum := "37812a094ec6f9a87f188fcc986697c06a296b5a699757b989cf4a598f085017", func := "samara/samaralaw14.ChangeOwn", spec := "changeOwn", unfollowed := true, recurses := true, apart := false, narrowed := true }
def ChangeOwnUptoSaid : Prop := changeOwnUptoRow.holds Tryz.pinned (OpenSpec.upto changeOwnSpec)

end Rows
end Go.Proofs.YtholpgcghpikgaaGreat
