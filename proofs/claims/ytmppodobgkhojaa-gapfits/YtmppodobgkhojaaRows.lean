/-
  No cell of these rows narrows 'for every input' (looked for: loops, veiled, ifaces, maps, wideKeys, modest, calm, conditions, laid).
  DERIVED. THE GIVEN ROWS OF THIS SEAT. 7 by the template 'for every input the law returns true; each argument reads behind the call as it read before'; 0 by the template 'total and deterministic' (their statements: YtmppodobgkhojaaTotals.lean).
  GIVEN WITH THE SEED: the statements are not yours to turn. If you find one false, say at which input.
  Laid BY PROGRAM, IN A SANDBOX (cutbox-rows.mjs): the forced cells as the released guide's own fill.sh prints them over the translation 0e16563caf821afd… (all of the seat's roots in one cut). By AI agents, Wed Nov 11 2026. No macro, syntax, notation, axiom, sorry.
-/
import Derived.Test.YtmppodobgkhojaaChecked
import GoSem.Claim
import GoSem.ClaimJoined
import GoSem.ClaimMapViews
import Derived.JoinedTies
import Derived.KernelRfl
namespace Go.Proofs.Ytmppodobgkhojaa
/- THE CELL 'sum', in the pinned program and in every row, IS THE sha256 OF THE DUMP (.gsa) THAT YtmppodobgkhojaaProg.lean LOADS. Nothing in Lean hashes anything: it is a label: what it is worth is what the hold of that sum in a sandbox is worth. -/
noncomputable def Try.pinned : Pinned := { name := "ytmppodobgkhojaa", sum := "0e16563caf821afde85459998068b45887dc1a5dbd3ec9f385fd831d4b8458b1", checked := Try.checked }
namespace Rows
def none {H : Type} : Left H := { results := [], args := [] }

/-- 'samaralaw08.GapSums': WHATEVER THE INPUT: true; the input reads as it did. -/
def gapSumsSpec : ChangeSpec := { name := "gapSums", fn := fun _ => fun
  | [d] => { results := [.lit (.bool true)], args := [d] }
  | _ => none }
def gapSumsRow : OpenClaim := { program := "ytmppodobgkhojaa", sum := "0e16563caf821afde85459998068b45887dc1a5dbd3ec9f385fd831d4b8458b1", func := "samara/samaralaw08.GapSums", spec := "gapSums", unfollowed := true, recurses := true, apart := false }
def GapSumsSaid : Prop := gapSumsRow.holds Try.pinned (OpenSpec.ofChange gapSumsSpec)

/-- ITS FALSE NEIGHBOUR: 'it returns false'. Refute it at one input. -/
def gapSumsWrong : ChangeSpec := { name := "gapSums", fn := fun _ => fun
  | [d] => { results := [.lit (.bool false)], args := [d] }
  | _ => none }
def GapSumsWrongFalsely : Prop := gapSumsRow.holds Try.pinned (OpenSpec.ofChange gapSumsWrong)

/-- 'samaralaw08.GapTaken': WHATEVER THE INPUT: true; the input reads as it did. -/
def gapTakenSpec : ChangeSpec := { name := "gapTaken", fn := fun _ => fun
  | [d1, d2, d3] => { results := [.lit (.bool true)], args := [d1, d2, d3] }
  | _ => none }
def gapTakenRow : OpenClaim := { program := "ytmppodobgkhojaa", sum := "0e16563caf821afde85459998068b45887dc1a5dbd3ec9f385fd831d4b8458b1", func := "samara/samaralaw08.GapTaken", spec := "gapTaken", unfollowed := true, recurses := true, apart := false }
def GapTakenSaid : Prop := gapTakenRow.holds Try.pinned (OpenSpec.ofChange gapTakenSpec)

/-- ITS FALSE NEIGHBOUR: 'it returns false'. Refute it at one input. -/
def gapTakenWrong : ChangeSpec := { name := "gapTaken", fn := fun _ => fun
  | [d1, d2, d3] => { results := [.lit (.bool false)], args := [d1, d2, d3] }
  | _ => none }
def GapTakenWrongFalsely : Prop := gapTakenRow.holds Try.pinned (OpenSpec.ofChange gapTakenWrong)

/-- 'samaralaw08.GapAll': WHATEVER THE INPUT: true; the input reads as it did. -/
def gapAllSpec : ChangeSpec := { name := "gapAll", fn := fun _ => fun
  | [d] => { results := [.lit (.bool true)], args := [d] }
  | _ => none }
def gapAllRow : OpenClaim := { program := "ytmppodobgkhojaa", sum := "0e16563caf821afde85459998068b45887dc1a5dbd3ec9f385fd831d4b8458b1", func := "samara/samaralaw08.GapAll", spec := "gapAll", unfollowed := true, recurses := true, apart := false }
def GapAllSaid : Prop := gapAllRow.holds Try.pinned (OpenSpec.ofChange gapAllSpec)

/-- ITS FALSE NEIGHBOUR: 'it returns false'. Refute it at one input. -/
def gapAllWrong : ChangeSpec := { name := "gapAll", fn := fun _ => fun
  | [d] => { results := [.lit (.bool false)], args := [d] }
  | _ => none }
def GapAllWrongFalsely : Prop := gapAllRow.holds Try.pinned (OpenSpec.ofChange gapAllWrong)

/-- 'samaralaw08.GapFits': WHATEVER THE INPUT: true; the input reads as it did. -/
def gapFitsSpec : ChangeSpec := { name := "gapFits", fn := fun _ => fun
  | [d1, d2, d3] => { results := [.lit (.bool true)], args := [d1, d2, d3] }
  | _ => none }
def gapFitsRow : OpenClaim := { program := "ytmppodobgkhojaa", sum := "0e16563caf821afde85459998068b45887dc1a5dbd3ec9f385fd831d4b8458b1", func := "samara/samaralaw08.GapFits", spec := "gapFits", unfollowed := true, recurses := true, apart := false }
def GapFitsSaid : Prop := gapFitsRow.holds Try.pinned (OpenSpec.ofChange gapFitsSpec)

/-- ITS FALSE NEIGHBOUR: 'it returns false'. Refute it at one input. -/
def gapFitsWrong : ChangeSpec := { name := "gapFits", fn := fun _ => fun
  | [d1, d2, d3] => { results := [.lit (.bool false)], args := [d1, d2, d3] }
  | _ => none }
def GapFitsWrongFalsely : Prop := gapFitsRow.holds Try.pinned (OpenSpec.ofChange gapFitsWrong)

/-- 'samaralaw08.GapChooses': WHATEVER THE INPUT: true; the input reads as it did. -/
def gapChoosesSpec : ChangeSpec := { name := "gapChooses", fn := fun _ => fun
  | [d1, d2, d3] => { results := [.lit (.bool true)], args := [d1, d2, d3] }
  | _ => none }
def gapChoosesRow : OpenClaim := { program := "ytmppodobgkhojaa", sum := "0e16563caf821afde85459998068b45887dc1a5dbd3ec9f385fd831d4b8458b1", func := "samara/samaralaw08.GapChooses", spec := "gapChooses", unfollowed := true, recurses := true, apart := false }
def GapChoosesSaid : Prop := gapChoosesRow.holds Try.pinned (OpenSpec.ofChange gapChoosesSpec)

/-- ITS FALSE NEIGHBOUR: 'it returns false'. Refute it at one input. -/
def gapChoosesWrong : ChangeSpec := { name := "gapChooses", fn := fun _ => fun
  | [d1, d2, d3] => { results := [.lit (.bool false)], args := [d1, d2, d3] }
  | _ => none }
def GapChoosesWrongFalsely : Prop := gapChoosesRow.holds Try.pinned (OpenSpec.ofChange gapChoosesWrong)

/-- 'samaralaw08.GapWrong': WHATEVER THE INPUT: true; the input reads as it did. -/
def gapWrongSpec : ChangeSpec := { name := "gapWrong", fn := fun _ => fun
  | [d1, d2] => { results := [.lit (.bool true)], args := [d1, d2] }
  | _ => none }
def gapWrongRow : OpenClaim := { program := "ytmppodobgkhojaa", sum := "0e16563caf821afde85459998068b45887dc1a5dbd3ec9f385fd831d4b8458b1", func := "samara/samaralaw08.GapWrong", spec := "gapWrong", unfollowed := true, recurses := true, apart := false }
def GapWrongSaid : Prop := gapWrongRow.holds Try.pinned (OpenSpec.ofChange gapWrongSpec)

/-- ITS FALSE NEIGHBOUR: 'it returns false'. Refute it at one input. -/
def gapWrongWrong : ChangeSpec := { name := "gapWrong", fn := fun _ => fun
  | [d1, d2] => { results := [.lit (.bool false)], args := [d1, d2] }
  | _ => none }
def GapWrongWrongFalsely : Prop := gapWrongRow.holds Try.pinned (OpenSpec.ofChange gapWrongWrong)

/-- 'samaralaw08.GapExact': WHATEVER THE INPUT: true; the input reads as it did. -/
def gapExactSpec : ChangeSpec := { name := "gapExact", fn := fun _ => fun
  | [d] => { results := [.lit (.bool true)], args := [d] }
  | _ => none }
def gapExactRow : OpenClaim := { program := "ytmppodobgkhojaa", sum := "0e16563caf821afde85459998068b45887dc1a5dbd3ec9f385fd831d4b8458b1", func := "samara/samaralaw08.GapExact", spec := "gapExact", unfollowed := true, recurses := true, apart := false }
def GapExactSaid : Prop := gapExactRow.holds Try.pinned (OpenSpec.ofChange gapExactSpec)

/-- ITS FALSE NEIGHBOUR: 'it returns false'. Refute it at one input. -/
def gapExactWrong : ChangeSpec := { name := "gapExact", fn := fun _ => fun
  | [d] => { results := [.lit (.bool false)], args := [d] }
  | _ => none }
def GapExactWrongFalsely : Prop := gapExactRow.holds Try.pinned (OpenSpec.ofChange gapExactWrong)

/- THE SECOND FORM. 'bulk': how many values and letters a reading holds, each counted each time it is reached (what is shared counts as often as it is met; a slice's spare places count too). A statement '..UptoSaid' is the law's where the arguments, and the package variables that the reading takes, are together of bulk at most 1048576: NARROWER than '..Said'. Prove '..Said' where nothing that the law and all that it calls make is longer than what came in: it says more and counts as full. Else prove '..UptoSaid'. A law counts once. -/
mutual
def uptoBulk {H : Type} : DataW H → Nat
  | .lit (.string bytes) => bytes.length + 1
  | .lit _ => 1
  | .nil => 1
  | .ptr d => uptoBulk d + 1
  | .slice elems spare => uptoBulkAll elems + uptoBulkAll spare + 1
  | .agg parts => uptoBulkAll parts + 1
  | .iface _ d => uptoBulk d + 1
  | .map entries => uptoBulkEntries entries + 1
  | .held _ => 1
def uptoBulkAll {H : Type} : List (DataW H) → Nat
  | [] => 0
  | d :: r => uptoBulk d + uptoBulkAll r
def uptoBulkEntries {H : Type} : List (Lit × DataW H) → Nat
  | [] => 0
  | x :: r => uptoBulkEntry x + uptoBulkEntries r
def uptoBulkEntry {H : Type} : Lit × DataW H → Nat
  | (.string bytes, d) => bytes.length + uptoBulk d + 1
  | (_, d) => uptoBulk d + 1
 end
def uptoSmall : (H : Type) → List (DataW H) → Bool := fun _ ds => decide (uptoBulkAll ds ≤ 1048576)
def OpenSpec.upto (s : _root_.Go.ChangeSpec) : _root_.Go.OpenSpec := { _root_.Go.OpenSpec.ofChange s with cond := some uptoSmall }

/-- 'samaralaw08.GapSums', WHERE WHAT IT READS IS OF BULK AT MOST 1048576: true; the input reads as it did. -/
def gapSumsUptoRow : OpenClaim := { program := "ytmppodobgkhojaa", sum := "0e16563caf821afde85459998068b45887dc1a5dbd3ec9f385fd831d4b8458b1", func := "samara/samaralaw08.GapSums", spec := "gapSums", unfollowed := true, recurses := true, apart := false, narrowed := true }
def GapSumsUptoSaid : Prop := gapSumsUptoRow.holds Try.pinned (OpenSpec.upto gapSumsSpec)

/-- 'samaralaw08.GapTaken', WHERE WHAT IT READS IS OF BULK AT MOST 1048576: true; the input reads as it did. -/
def gapTakenUptoRow : OpenClaim := { program := "ytmppodobgkhojaa", sum := "0e16563caf821afde85459998068b45887dc1a5dbd3ec9f385fd831d4b8458b1", func := "samara/samaralaw08.GapTaken", spec := "gapTaken", unfollowed := true, recurses := true, apart := false, narrowed := true }
def GapTakenUptoSaid : Prop := gapTakenUptoRow.holds Try.pinned (OpenSpec.upto gapTakenSpec)

/-- 'samaralaw08.GapAll', WHERE WHAT IT READS IS OF BULK AT MOST 1048576: true; the input reads as it did. -/
def gapAllUptoRow : OpenClaim := { program := "ytmppodobgkhojaa", sum := "0e16563caf821afde85459998068b45887dc1a5dbd3ec9f385fd831d4b8458b1", func := "samara/samaralaw08.GapAll", spec := "gapAll", unfollowed := true, recurses := true, apart := false, narrowed := true }
def GapAllUptoSaid : Prop := gapAllUptoRow.holds Try.pinned (OpenSpec.upto gapAllSpec)

/-- 'samaralaw08.GapFits', WHERE WHAT IT READS IS OF BULK AT MOST 1048576: true; the input reads as it did. -/
def gapFitsUptoRow : OpenClaim := { program := "ytmppodobgkhojaa", sum := "0e16563caf821afde85459998068b45887dc1a5dbd3ec9f385fd831d4b8458b1", func := "samara/samaralaw08.GapFits", spec := "gapFits", unfollowed := true, recurses := true, apart := false, narrowed := true }
def GapFitsUptoSaid : Prop := gapFitsUptoRow.holds Try.pinned (OpenSpec.upto gapFitsSpec)

/-- 'samaralaw08.GapChooses', WHERE WHAT IT READS IS OF BULK AT MOST 1048576: true; the input reads as it did. -/
def gapChoosesUptoRow : OpenClaim := { program := "ytmppodobgkhojaa", sum := "0e16563caf821afde85459998068b45887dc1a5dbd3ec9f385fd831d4b8458b1", func := "samara/samaralaw08.GapChooses", spec := "gapChooses", unfollowed := true, recurses := true, apart := false, narrowed := true }
def GapChoosesUptoSaid : Prop := gapChoosesUptoRow.holds Try.pinned (OpenSpec.upto gapChoosesSpec)

/-- 'samaralaw08.GapWrong', WHERE WHAT IT READS IS OF BULK AT MOST 1048576: true; the input reads as it did. -/
def gapWrongUptoRow : OpenClaim := { program := "ytmppodobgkhojaa", sum := "0e16563caf821afde85459998068b45887dc1a5dbd3ec9f385fd831d4b8458b1", func := "samara/samaralaw08.GapWrong", spec := "gapWrong", unfollowed := true, recurses := true, apart := false, narrowed := true }
def GapWrongUptoSaid : Prop := gapWrongUptoRow.holds Try.pinned (OpenSpec.upto gapWrongSpec)

/-- 'samaralaw08.GapExact', WHERE WHAT IT READS IS OF BULK AT MOST 1048576: true; the input reads as it did. -/
def gapExactUptoRow : OpenClaim := { program := "ytmppodobgkhojaa", sum := "0e16563caf821afde85459998068b45887dc1a5dbd3ec9f385fd831d4b8458b1", func := "samara/samaralaw08.GapExact", spec := "gapExact", unfollowed := true, recurses := true, apart := false, narrowed := true }
def GapExactUptoSaid : Prop := gapExactUptoRow.holds Try.pinned (OpenSpec.upto gapExactSpec)

end Rows
end Go.Proofs.Ytmppodobgkhojaa
