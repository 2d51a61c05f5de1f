/-
  No cell of these rows narrows 'for every input' (looked for: loops, veiled, ifaces, maps, wideKeys, modest, calm, conditions, laid).
  DERIVED. THE GIVEN ROWS OF THIS SEAT. 5 by the template 'for every input the law returns true; each argument reads behind the call as it read before'; 0 by the template 'total and deterministic' (their statements: YtbfphoajllmcpaaTotals.lean).
  GIVEN WITH THE SEED: the statements are not yours to turn. If you find one false, say at which input.
  Laid BY PROGRAM, IN A SANDBOX (cutbox-rows.mjs): the forced cells as the released guide's own fill.sh prints them over the translation 94c70235e3c814fe… (all of the seat's roots in one cut). By AI agents, Wed Nov 11 2026. No macro, syntax, notation, axiom, sorry.
-/
import Derived.Test.YtbfphoajllmcpaaChecked
import GoSem.Claim
import GoSem.ClaimJoined
import GoSem.ClaimMapViews
import Derived.JoinedTies
import Derived.KernelRfl
namespace Go.Proofs.Ytbfphoajllmcpaa
/- THE CELL 'sum', in the pinned program and in every row, IS THE sha256 OF THE DUMP (.gsa) THAT YtbfphoajllmcpaaProg.lean LOADS. Nothing in Lean hashes anything: it is a label: what it is worth is what the hold of that sum in a sandbox is worth. -/
noncomputable def Try.pinned : Pinned := { name := "ytbfphoajllmcpaa", sum := "94c70235e3c814feb2caa24474022ece1d6a0ca89237ecb2ac9f853d7083f4b4", checked := Try.checked }
namespace Rows
def none {H : Type} : Left H := { results := [], args := [] }

/-- 'samaralaw12.RemapStays': WHATEVER THE INPUT: true; the input reads as it did. -/
def remapStaysSpec : ChangeSpec := { name := "remapStays", fn := fun _ => fun
  | [d1, d2] => { results := [.lit (.bool true)], args := [d1, d2] }
  | _ => none }
def remapStaysRow : OpenClaim := { program := "ytbfphoajllmcpaa", sum := "94c70235e3c814feb2caa24474022ece1d6a0ca89237ecb2ac9f853d7083f4b4", func := "samara/samaralaw12.RemapStays", spec := "remapStays", unfollowed := true, recurses := true, apart := false }
def RemapStaysSaid : Prop := remapStaysRow.holds Try.pinned (OpenSpec.ofChange remapStaysSpec)

/-- ITS FALSE NEIGHBOUR: 'it returns false'. Refute it at one input. -/
def remapStaysWrong : ChangeSpec := { name := "remapStays", fn := fun _ => fun
  | [d1, d2] => { results := [.lit (.bool false)], args := [d1, d2] }
  | _ => none }
def RemapStaysWrongFalsely : Prop := remapStaysRow.holds Try.pinned (OpenSpec.ofChange remapStaysWrong)

/-- 'samaralaw12.RemapThere': WHATEVER THE INPUT: true; the input reads as it did. -/
def remapThereSpec : ChangeSpec := { name := "remapThere", fn := fun _ => fun
  | [d1, d2, d3] => { results := [.lit (.bool true)], args := [d1, d2, d3] }
  | _ => none }
def remapThereRow : OpenClaim := { program := "ytbfphoajllmcpaa", sum := "94c70235e3c814feb2caa24474022ece1d6a0ca89237ecb2ac9f853d7083f4b4", func := "samara/samaralaw12.RemapThere", spec := "remapThere", unfollowed := true, recurses := true, apart := false }
def RemapThereSaid : Prop := remapThereRow.holds Try.pinned (OpenSpec.ofChange remapThereSpec)

/-- ITS FALSE NEIGHBOUR: 'it returns false'. Refute it at one input. -/
def remapThereWrong : ChangeSpec := { name := "remapThere", fn := fun _ => fun
  | [d1, d2, d3] => { results := [.lit (.bool false)], args := [d1, d2, d3] }
  | _ => none }
def RemapThereWrongFalsely : Prop := remapThereRow.holds Try.pinned (OpenSpec.ofChange remapThereWrong)

/-- 'samaralaw12.RemapWrong': WHATEVER THE INPUT: true; the input reads as it did. -/
def remapWrongSpec : ChangeSpec := { name := "remapWrong", fn := fun _ => fun
  | [d1, d2] => { results := [.lit (.bool true)], args := [d1, d2] }
  | _ => none }
def remapWrongRow : OpenClaim := { program := "ytbfphoajllmcpaa", sum := "94c70235e3c814feb2caa24474022ece1d6a0ca89237ecb2ac9f853d7083f4b4", func := "samara/samaralaw12.RemapWrong", spec := "remapWrong", unfollowed := true, recurses := true, apart := false }
def RemapWrongSaid : Prop := remapWrongRow.holds Try.pinned (OpenSpec.ofChange remapWrongSpec)

/-- ITS FALSE NEIGHBOUR: 'it returns false'. Refute it at one input. -/
def remapWrongWrong : ChangeSpec := { name := "remapWrong", fn := fun _ => fun
  | [d1, d2] => { results := [.lit (.bool false)], args := [d1, d2] }
  | _ => none }
def RemapWrongWrongFalsely : Prop := remapWrongRow.holds Try.pinned (OpenSpec.ofChange remapWrongWrong)

/-- 'samaralaw12.RemapKeeps': WHATEVER THE INPUT: true; the input reads as it did. -/
def remapKeepsSpec : ChangeSpec := { name := "remapKeeps", fn := fun _ => fun
  | [d1, d2] => { results := [.lit (.bool true)], args := [d1, d2] }
  | _ => none }
def remapKeepsRow : OpenClaim := { program := "ytbfphoajllmcpaa", sum := "94c70235e3c814feb2caa24474022ece1d6a0ca89237ecb2ac9f853d7083f4b4", func := "samara/samaralaw12.RemapKeeps", spec := "remapKeeps", unfollowed := true, recurses := true, apart := false }
def RemapKeepsSaid : Prop := remapKeepsRow.holds Try.pinned (OpenSpec.ofChange remapKeepsSpec)

/-- ITS FALSE NEIGHBOUR: 'it returns false'. Refute it at one input. -/
def remapKeepsWrong : ChangeSpec := { name := "remapKeeps", fn := fun _ => fun
  | [d1, d2] => { results := [.lit (.bool false)], args := [d1, d2] }
  | _ => none }
def RemapKeepsWrongFalsely : Prop := remapKeepsRow.holds Try.pinned (OpenSpec.ofChange remapKeepsWrong)

/-- 'samaralaw12.RemapOthers': WHATEVER THE INPUT: true; the input reads as it did. -/
def remapOthersSpec : ChangeSpec := { name := "remapOthers", fn := fun _ => fun
  | [d1, d2] => { results := [.lit (.bool true)], args := [d1, d2] }
  | _ => none }
def remapOthersRow : OpenClaim := { program := "ytbfphoajllmcpaa", sum := "94c70235e3c814feb2caa24474022ece1d6a0ca89237ecb2ac9f853d7083f4b4", func := "samara/samaralaw12.RemapOthers", spec := "remapOthers", unfollowed := true, recurses := true, apart := false }
def RemapOthersSaid : Prop := remapOthersRow.holds Try.pinned (OpenSpec.ofChange remapOthersSpec)

/-- ITS FALSE NEIGHBOUR: 'it returns false'. Refute it at one input. -/
def remapOthersWrong : ChangeSpec := { name := "remapOthers", fn := fun _ => fun
  | [d1, d2] => { results := [.lit (.bool false)], args := [d1, d2] }
  | _ => none }
def RemapOthersWrongFalsely : Prop := remapOthersRow.holds Try.pinned (OpenSpec.ofChange remapOthersWrong)

/- THE SECOND FORM. 'bulk': how many values and letters a reading holds, each counted each time it is reached (what is shared counts as often as it is met; a slice's spare places count too). A statement '..UptoSaid' is the law's where the arguments, and the package variables that the reading takes, are together of bulk at most 1048576: NARROWER than '..Said'. Prove '..Said' where nothing that the law and all that it calls make is longer than what came in: it says more and counts as full. Else prove '..UptoSaid'. A law counts once. -/
mutual
def uptoBulk {H : Type} : DataW H → Nat
  | .lit (.string bytes) => bytes.length + 1
  | .lit _ => 1
  | .nil => 1
  | .ptr d => uptoBulk d + 1
  | .slice elems spare => uptoBulkAll elems + uptoBulkAll spare + 1
  | .agg parts => uptoBulkAll parts + 1
  | .iface _ d => uptoBulk d + 1
  | .map entries => uptoBulkEntries entries + 1
  | .held _ => 1
def uptoBulkAll {H : Type} : List (DataW H) → Nat
  | [] => 0
  | d :: r => uptoBulk d + uptoBulkAll r
def uptoBulkEntries {H : Type} : List (Lit × DataW H) → Nat
  | [] => 0
  | x :: r => uptoBulkEntry x + uptoBulkEntries r
def uptoBulkEntry {H : Type} : Lit × DataW H → Nat
  | (.string bytes, d) => bytes.length + uptoBulk d + 1
  | (_, d) => uptoBulk d + 1
 end
def uptoSmall : (H : Type) → List (DataW H) → Bool := fun _ ds => decide (uptoBulkAll ds ≤ 1048576)
def OpenSpec.upto (s : _root_.Go.ChangeSpec) : _root_.Go.OpenSpec := { _root_.Go.OpenSpec.ofChange s with cond := some uptoSmall }

/-- 'samaralaw12.RemapStays', WHERE WHAT IT READS IS OF BULK AT MOST 1048576: true; the input reads as it did. -/
def remapStaysUptoRow : OpenClaim := { program := "ytbfphoajllmcpaa", sum := "94c70235e3c814feb2caa24474022ece1d6a0ca89237ecb2ac9f853d7083f4b4", func := "samara/samaralaw12.RemapStays", spec := "remapStays", unfollowed := true, recurses := true, apart := false, narrowed := true }
def RemapStaysUptoSaid : Prop := remapStaysUptoRow.holds Try.pinned (OpenSpec.upto remapStaysSpec)

/-- 'samaralaw12.RemapThere', WHERE WHAT IT READS IS OF BULK AT MOST 1048576: true; the input reads as it did. -/
def remapThereUptoRow : OpenClaim := { program := "ytbfphoajllmcpaa", sum := "94c70235e3c814feb2caa24474022ece1d6a0ca89237ecb2ac9f853d7083f4b4", func := "samara/samaralaw12.RemapThere", spec := "remapThere", unfollowed := true, recurses := true, apart := false, narrowed := true }
def RemapThereUptoSaid : Prop := remapThereUptoRow.holds Try.pinned (OpenSpec.upto remapThereSpec)

/-- 'samaralaw12.RemapWrong', WHERE WHAT IT READS IS OF BULK AT MOST 1048576: true; the input reads as it did. -/
def remapWrongUptoRow : OpenClaim := { program := "ytbfphoajllmcpaa", sum := "94c70235e3c814feb2caa24474022ece1d6a0ca89237ecb2ac9f853d7083f4b4", func := "samara/samaralaw12.RemapWrong", spec := "remapWrong", unfollowed := true, recurses := true, apart := false, narrowed := true }
def RemapWrongUptoSaid : Prop := remapWrongUptoRow.holds Try.pinned (OpenSpec.upto remapWrongSpec)

/-- 'samaralaw12.RemapKeeps', WHERE WHAT IT READS IS OF BULK AT MOST 1048576: true; the input reads as it did. -/
def remapKeepsUptoRow : OpenClaim := { program := "ytbfphoajllmcpaa", sum := "94c70235e3c814feb2caa24474022ece1d6a0ca89237ecb2ac9f853d7083f4b4", func := "samara/samaralaw12.RemapKeeps", spec := "remapKeeps", unfollowed := true, recurses := true, apart := false, narrowed := true }
def RemapKeepsUptoSaid : Prop := remapKeepsUptoRow.holds Try.pinned (OpenSpec.upto remapKeepsSpec)

/-- 'samaralaw12.RemapOthers', WHERE WHAT IT READS IS OF BULK AT MOST 1048576: true; the input reads as it did. -/
def remapOthersUptoRow : OpenClaim := { program := "ytbfphoajllmcpaa", sum := "94c70235e3c814feb2caa24474022ece1d6a0ca89237ecb2ac9f853d7083f4b4", func := "samara/samaralaw12.RemapOthers", spec := "remapOthers", unfollowed := true, recurses := true, apart := false, narrowed := true }
def RemapOthersUptoSaid : Prop := remapOthersUptoRow.holds Try.pinned (OpenSpec.upto remapOthersSpec)

end Rows
end Go.Proofs.Ytbfphoajllmcpaa
