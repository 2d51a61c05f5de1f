/-
  No cell of these rows narrows 'for every input' (looked for: loops, veiled, ifaces, maps, wideKeys, modest, calm, conditions, laid).
  DERIVED. THE GIVEN ROWS OF THIS SEAT. 6 by the template 'for every input the law returns true; each argument reads behind the call as it read before'; 0 by the template 'total and deterministic' (their statements: YtpekdbncgdlblaaTotals.lean).
  GIVEN WITH THE SEED: the statements are not yours to turn. If you find one false, say at which input.
  Laid BY PROGRAM, IN A SANDBOX (cutbox-rows.mjs): the forced cells as the released guide's own fill.sh prints them over the translation 1a6fcf4287622e43… (all of the seat's roots in one cut). By AI agents, Wed Nov 11 2026. No macro, syntax, notation, axiom, sorry.
-/
import Derived.Test.YtpekdbncgdlblaaChecked
import GoSem.Claim
import GoSem.ClaimJoined
import GoSem.ClaimMapViews
import Derived.JoinedTies
import Derived.KernelRfl
namespace Go.Proofs.Ytpekdbncgdlblaa
/- THE CELL 'sum', in the pinned program and in every row, IS THE sha256 OF THE DUMP (.gsa) THAT YtpekdbncgdlblaaProg.lean LOADS. Nothing in Lean hashes anything: it is a label: what it is worth is what the hold of that sum in a sandbox is worth. -/
noncomputable def Try.pinned : Pinned := { name := "ytpekdbncgdlblaa", sum := "1a6fcf4287622e438e16d31b85adcd438a7f4e5f1260a273058db84d2a3b53df", checked := Try.checked }
namespace Rows
def none {H : Type} : Left H := { results := [], args := [] }

/-- 'samaralaw11.ProtectHalves': WHATEVER THE INPUT: true; the input reads as it did. -/
def protectHalvesSpec : ChangeSpec := { name := "protectHalves", fn := fun _ => fun
  | [d1, d2] => { results := [.lit (.bool true)], args := [d1, d2] }
  | _ => none }
def protectHalvesRow : OpenClaim := { program := "ytpekdbncgdlblaa", sum := "1a6fcf4287622e438e16d31b85adcd438a7f4e5f1260a273058db84d2a3b53df", func := "samara/samaralaw11.ProtectHalves", spec := "protectHalves", unfollowed := true, recurses := true, apart := false }
def ProtectHalvesSaid : Prop := protectHalvesRow.holds Try.pinned (OpenSpec.ofChange protectHalvesSpec)

/-- ITS FALSE NEIGHBOUR: 'it returns false'. Refute it at one input. -/
def protectHalvesWrong : ChangeSpec := { name := "protectHalves", fn := fun _ => fun
  | [d1, d2] => { results := [.lit (.bool false)], args := [d1, d2] }
  | _ => none }
def ProtectHalvesWrongFalsely : Prop := protectHalvesRow.holds Try.pinned (OpenSpec.ofChange protectHalvesWrong)

/-- 'samaralaw11.ProtectSets': WHATEVER THE INPUT: true; the input reads as it did. -/
def protectSetsSpec : ChangeSpec := { name := "protectSets", fn := fun _ => fun
  | [d1, d2] => { results := [.lit (.bool true)], args := [d1, d2] }
  | _ => none }
def protectSetsRow : OpenClaim := { program := "ytpekdbncgdlblaa", sum := "1a6fcf4287622e438e16d31b85adcd438a7f4e5f1260a273058db84d2a3b53df", func := "samara/samaralaw11.ProtectSets", spec := "protectSets", unfollowed := true, recurses := true, apart := false }
def ProtectSetsSaid : Prop := protectSetsRow.holds Try.pinned (OpenSpec.ofChange protectSetsSpec)

/-- ITS FALSE NEIGHBOUR: 'it returns false'. Refute it at one input. -/
def protectSetsWrong : ChangeSpec := { name := "protectSets", fn := fun _ => fun
  | [d1, d2] => { results := [.lit (.bool false)], args := [d1, d2] }
  | _ => none }
def ProtectSetsWrongFalsely : Prop := protectSetsRow.holds Try.pinned (OpenSpec.ofChange protectSetsWrong)

/-- 'samaralaw11.ProtectFaults': WHATEVER THE INPUT: true; the input reads as it did. -/
def protectFaultsSpec : ChangeSpec := { name := "protectFaults", fn := fun _ => fun
  | [d1, d2] => { results := [.lit (.bool true)], args := [d1, d2] }
  | _ => none }
def protectFaultsRow : OpenClaim := { program := "ytpekdbncgdlblaa", sum := "1a6fcf4287622e438e16d31b85adcd438a7f4e5f1260a273058db84d2a3b53df", func := "samara/samaralaw11.ProtectFaults", spec := "protectFaults", unfollowed := true, recurses := true, apart := false }
def ProtectFaultsSaid : Prop := protectFaultsRow.holds Try.pinned (OpenSpec.ofChange protectFaultsSpec)

/-- ITS FALSE NEIGHBOUR: 'it returns false'. Refute it at one input. -/
def protectFaultsWrong : ChangeSpec := { name := "protectFaults", fn := fun _ => fun
  | [d1, d2] => { results := [.lit (.bool false)], args := [d1, d2] }
  | _ => none }
def ProtectFaultsWrongFalsely : Prop := protectFaultsRow.holds Try.pinned (OpenSpec.ofChange protectFaultsWrong)

/-- 'samaralaw11.ProtectWrong': WHATEVER THE INPUT: true; the input reads as it did. -/
def protectWrongSpec : ChangeSpec := { name := "protectWrong", fn := fun _ => fun
  | [d1, d2] => { results := [.lit (.bool true)], args := [d1, d2] }
  | _ => none }
def protectWrongRow : OpenClaim := { program := "ytpekdbncgdlblaa", sum := "1a6fcf4287622e438e16d31b85adcd438a7f4e5f1260a273058db84d2a3b53df", func := "samara/samaralaw11.ProtectWrong", spec := "protectWrong", unfollowed := true, recurses := true, apart := false }
def ProtectWrongSaid : Prop := protectWrongRow.holds Try.pinned (OpenSpec.ofChange protectWrongSpec)

/-- ITS FALSE NEIGHBOUR: 'it returns false'. Refute it at one input. -/
def protectWrongWrong : ChangeSpec := { name := "protectWrong", fn := fun _ => fun
  | [d1, d2] => { results := [.lit (.bool false)], args := [d1, d2] }
  | _ => none }
def ProtectWrongWrongFalsely : Prop := protectWrongRow.holds Try.pinned (OpenSpec.ofChange protectWrongWrong)

/-- 'samaralaw11.ProtectAllows': WHATEVER THE INPUT: true; the input reads as it did. -/
def protectAllowsSpec : ChangeSpec := { name := "protectAllows", fn := fun _ => fun
  | [d1, d2, d3] => { results := [.lit (.bool true)], args := [d1, d2, d3] }
  | _ => none }
def protectAllowsRow : OpenClaim := { program := "ytpekdbncgdlblaa", sum := "1a6fcf4287622e438e16d31b85adcd438a7f4e5f1260a273058db84d2a3b53df", func := "samara/samaralaw11.ProtectAllows", spec := "protectAllows", unfollowed := true, recurses := true, apart := false }
def ProtectAllowsSaid : Prop := protectAllowsRow.holds Try.pinned (OpenSpec.ofChange protectAllowsSpec)

/-- ITS FALSE NEIGHBOUR: 'it returns false'. Refute it at one input. -/
def protectAllowsWrong : ChangeSpec := { name := "protectAllows", fn := fun _ => fun
  | [d1, d2, d3] => { results := [.lit (.bool false)], args := [d1, d2, d3] }
  | _ => none }
def ProtectAllowsWrongFalsely : Prop := protectAllowsRow.holds Try.pinned (OpenSpec.ofChange protectAllowsWrong)

/-- 'samaralaw11.ProtectBack': WHATEVER THE INPUT: true; the input reads as it did. -/
def protectBackSpec : ChangeSpec := { name := "protectBack", fn := fun _ => fun
  | [d1, d2, d3] => { results := [.lit (.bool true)], args := [d1, d2, d3] }
  | _ => none }
def protectBackRow : OpenClaim := { program := "ytpekdbncgdlblaa", sum := "1a6fcf4287622e438e16d31b85adcd438a7f4e5f1260a273058db84d2a3b53df", func := "samara/samaralaw11.ProtectBack", spec := "protectBack", unfollowed := true, recurses := true, apart := false }
def ProtectBackSaid : Prop := protectBackRow.holds Try.pinned (OpenSpec.ofChange protectBackSpec)

/-- ITS FALSE NEIGHBOUR: 'it returns false'. Refute it at one input. -/
def protectBackWrong : ChangeSpec := { name := "protectBack", fn := fun _ => fun
  | [d1, d2, d3] => { results := [.lit (.bool false)], args := [d1, d2, d3] }
  | _ => none }
def ProtectBackWrongFalsely : Prop := protectBackRow.holds Try.pinned (OpenSpec.ofChange protectBackWrong)

/- THE SECOND FORM. 'bulk': how many values and letters a reading holds, each counted each time it is reached (what is shared counts as often as it is met; a slice's spare places count too). A statement '..UptoSaid' is the law's where the arguments, and the package variables that the reading takes, are together of bulk at most 1048576: NARROWER than '..Said'. Prove '..Said' where nothing that the law and all that it calls make is longer than what came in: it says more and counts as full. Else prove '..UptoSaid'. A law counts once. -/
mutual
def uptoBulk {H : Type} : DataW H → Nat
  | .lit (.string bytes) => bytes.length + 1
  | .lit _ => 1
  | .nil => 1
  | .ptr d => uptoBulk d + 1
  | .slice elems spare => uptoBulkAll elems + uptoBulkAll spare + 1
  | .agg parts => uptoBulkAll parts + 1
  | .iface _ d => uptoBulk d + 1
  | .map entries => uptoBulkEntries entries + 1
  | .held _ => 1
def uptoBulkAll {H : Type} : List (DataW H) → Nat
  | [] => 0
  | d :: r => uptoBulk d + uptoBulkAll r
def uptoBulkEntries {H : Type} : List (Lit × DataW H) → Nat
  | [] => 0
  | x :: r => uptoBulkEntry x + uptoBulkEntries r
def uptoBulkEntry {H : Type} : Lit × DataW H → Nat
  | (.string bytes, d) => bytes.length + uptoBulk d + 1
  | (_, d) => uptoBulk d + 1
 end
def uptoSmall : (H : Type) → List (DataW H) → Bool := fun _ ds => decide (uptoBulkAll ds ≤ 1048576)
def OpenSpec.upto (s : _root_.Go.ChangeSpec) : _root_.Go.OpenSpec := { _root_.Go.OpenSpec.ofChange s with cond := some uptoSmall }

/-- 'samaralaw11.ProtectHalves', WHERE WHAT IT READS IS OF BULK AT MOST 1048576: true; the input reads as it did. -/
def protectHalvesUptoRow : OpenClaim := { program := "ytpekdbncgdlblaa", sum := "1a6fcf4287622e438e16d31b85adcd438a7f4e5f1260a273058db84d2a3b53df", func := "samara/samaralaw11.ProtectHalves", spec := "protectHalves", unfollowed := true, recurses := true, apart := false, narrowed := true }
def ProtectHalvesUptoSaid : Prop := protectHalvesUptoRow.holds Try.pinned (OpenSpec.upto protectHalvesSpec)

/-- 'samaralaw11.ProtectSets', WHERE WHAT IT READS IS OF BULK AT MOST 1048576: true; the input reads as it did. -/
def protectSetsUptoRow : OpenClaim := { program := "ytpekdbncgdlblaa", sum := "1a6fcf4287622e438e16d31b85adcd438a7f4e5f1260a273058db84d2a3b53df", func := "samara/samaralaw11.ProtectSets", spec := "protectSets", unfollowed := true, recurses := true, apart := false, narrowed := true }
def ProtectSetsUptoSaid : Prop := protectSetsUptoRow.holds Try.pinned (OpenSpec.upto protectSetsSpec)

/-- 'samaralaw11.ProtectFaults', WHERE WHAT IT READS IS OF BULK AT MOST 1048576: true; the input reads as it did. -/
def protectFaultsUptoRow : OpenClaim := { program := "ytpekdbncgdlblaa", sum := "1a6fcf4287622e438e16d31b85adcd438a7f4e5f1260a273058db84d2a3b53df", func := "samara/samaralaw11.ProtectFaults", spec := "protectFaults", unfollowed := true, recurses := true, apart := false, narrowed := true }
def ProtectFaultsUptoSaid : Prop := protectFaultsUptoRow.holds Try.pinned (OpenSpec.upto protectFaultsSpec)

/-- 'samaralaw11.ProtectWrong', WHERE WHAT IT READS IS OF BULK AT MOST 1048576: true; the input reads as it did. -/
def protectWrongUptoRow : OpenClaim := { program := "ytpekdbncgdlblaa", sum := "1a6fcf4287622e438e16d31b85adcd438a7f4e5f1260a273058db84d2a3b53df", func := "samara/samaralaw11.ProtectWrong", spec := "protectWrong", unfollowed := true, recurses := true, apart := false, narrowed := true }
def ProtectWrongUptoSaid : Prop := protectWrongUptoRow.holds Try.pinned (OpenSpec.upto protectWrongSpec)

/-- 'samaralaw11.ProtectAllows', WHERE WHAT IT READS IS OF BULK AT MOST 1048576: true; the input reads as it did. -/
def protectAllowsUptoRow : OpenClaim := { program := "ytpekdbncgdlblaa", sum := "1a6fcf4287622e438e16d31b85adcd438a7f4e5f1260a273058db84d2a3b53df", func := "samara/samaralaw11.ProtectAllows", spec := "protectAllows", unfollowed := true, recurses := true, apart := false, narrowed := true }
def ProtectAllowsUptoSaid : Prop := protectAllowsUptoRow.holds Try.pinned (OpenSpec.upto protectAllowsSpec)

/-- 'samaralaw11.ProtectBack', WHERE WHAT IT READS IS OF BULK AT MOST 1048576: true; the input reads as it did. -/
def protectBackUptoRow : OpenClaim := { program := "ytpekdbncgdlblaa", sum := "1a6fcf4287622e438e16d31b85adcd438a7f4e5f1260a273058db84d2a3b53df", func := "samara/samaralaw11.ProtectBack", spec := "protectBack", unfollowed := true, recurses := true, apart := false, narrowed := true }
def ProtectBackUptoSaid : Prop := protectBackUptoRow.holds Try.pinned (OpenSpec.upto protectBackSpec)

end Rows
end Go.Proofs.Ytpekdbncgdlblaa
