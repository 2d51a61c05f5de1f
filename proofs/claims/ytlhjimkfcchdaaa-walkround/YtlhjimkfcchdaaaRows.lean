/-
  No cell of these rows narrows 'for every input' (looked for: loops, veiled, ifaces, maps, wideKeys, modest, calm, conditions, laid).
  DERIVED. THE GIVEN ROWS OF THIS SEAT. 4 by the template 'for every input the law returns true; each argument reads behind the call as it read before'; 0 by the template 'total and deterministic' (their statements: YtlhjimkfcchdaaaTotals.lean).
  GIVEN WITH THE SEED: the statements are not yours to turn. If you find one false, say at which input.
  Laid BY PROGRAM, IN A SANDBOX (cutbox-rows.mjs): the forced cells as the released guide's own fill.sh prints them over the translation a9a407ff65584d1b… (all of the seat's roots in one cut). By AI agents, Wed Nov 11 2026. No macro, syntax, notation, axiom, sorry.
-/
import Derived.Test.YtlhjimkfcchdaaaChecked
import GoSem.Claim
import GoSem.ClaimJoined
import GoSem.ClaimMapViews
import Derived.JoinedTies
import Derived.KernelRfl
namespace Go.Proofs.Ytlhjimkfcchdaaa
/- THE CELL 'sum', in the pinned program and in every row, IS THE sha256 OF THE DUMP (.gsa) THAT YtlhjimkfcchdaaaProg.lean LOADS. Nothing in Lean hashes anything: it is a label: what it is worth is what the hold of that sum in a sandbox is worth. -/
noncomputable def Try.pinned : Pinned := { name := "ytlhjimkfcchdaaa", sum := "a9a407ff65584d1b63be8179b8dfaebe6a6ff5bbb974b0b9656ed772ace9b11d", checked := Try.checked }
namespace Rows
def none {H : Type} : Left H := { results := [], args := [] }

/-- 'samaralaw17.WalkFinds': WHATEVER THE INPUT: true; the input reads as it did. -/
def walkFindsSpec : ChangeSpec := { name := "walkFinds", fn := fun _ => fun
  | [d1, d2, d3] => { results := [.lit (.bool true)], args := [d1, d2, d3] }
  | _ => none }
def walkFindsRow : OpenClaim := { program := "ytlhjimkfcchdaaa", sum := "a9a407ff65584d1b63be8179b8dfaebe6a6ff5bbb974b0b9656ed772ace9b11d", func := "samara/samaralaw17.WalkFinds", spec := "walkFinds", unfollowed := true, recurses := true, apart := false }
def WalkFindsSaid : Prop := walkFindsRow.holds Try.pinned (OpenSpec.ofChange walkFindsSpec)

/-- ITS FALSE NEIGHBOUR: 'it returns false'. Refute it at one input. -/
def walkFindsWrong : ChangeSpec := { name := "walkFinds", fn := fun _ => fun
  | [d1, d2, d3] => { results := [.lit (.bool false)], args := [d1, d2, d3] }
  | _ => none }
def WalkFindsWrongFalsely : Prop := walkFindsRow.holds Try.pinned (OpenSpec.ofChange walkFindsWrong)

/-- 'samaralaw17.WalkGoes': WHATEVER THE INPUT: true; the input reads as it did. -/
def walkGoesSpec : ChangeSpec := { name := "walkGoes", fn := fun _ => fun
  | [d1, d2] => { results := [.lit (.bool true)], args := [d1, d2] }
  | _ => none }
def walkGoesRow : OpenClaim := { program := "ytlhjimkfcchdaaa", sum := "a9a407ff65584d1b63be8179b8dfaebe6a6ff5bbb974b0b9656ed772ace9b11d", func := "samara/samaralaw17.WalkGoes", spec := "walkGoes", unfollowed := true, recurses := true, apart := false }
def WalkGoesSaid : Prop := walkGoesRow.holds Try.pinned (OpenSpec.ofChange walkGoesSpec)

/-- ITS FALSE NEIGHBOUR: 'it returns false'. Refute it at one input. -/
def walkGoesWrong : ChangeSpec := { name := "walkGoes", fn := fun _ => fun
  | [d1, d2] => { results := [.lit (.bool false)], args := [d1, d2] }
  | _ => none }
def WalkGoesWrongFalsely : Prop := walkGoesRow.holds Try.pinned (OpenSpec.ofChange walkGoesWrong)

/-- 'samaralaw17.WalkAgrees': WHATEVER THE INPUT: true; the input reads as it did. -/
def walkAgreesSpec : ChangeSpec := { name := "walkAgrees", fn := fun _ => fun
  | [d1, d2] => { results := [.lit (.bool true)], args := [d1, d2] }
  | _ => none }
def walkAgreesRow : OpenClaim := { program := "ytlhjimkfcchdaaa", sum := "a9a407ff65584d1b63be8179b8dfaebe6a6ff5bbb974b0b9656ed772ace9b11d", func := "samara/samaralaw17.WalkAgrees", spec := "walkAgrees", unfollowed := true, recurses := true, apart := false }
def WalkAgreesSaid : Prop := walkAgreesRow.holds Try.pinned (OpenSpec.ofChange walkAgreesSpec)

/-- ITS FALSE NEIGHBOUR: 'it returns false'. Refute it at one input. -/
def walkAgreesWrong : ChangeSpec := { name := "walkAgrees", fn := fun _ => fun
  | [d1, d2] => { results := [.lit (.bool false)], args := [d1, d2] }
  | _ => none }
def WalkAgreesWrongFalsely : Prop := walkAgreesRow.holds Try.pinned (OpenSpec.ofChange walkAgreesWrong)

/-- 'samaralaw17.WalkRound': WHATEVER THE INPUT: true; the input reads as it did. -/
def walkRoundSpec : ChangeSpec := { name := "walkRound", fn := fun _ => fun
  | [d1, d2] => { results := [.lit (.bool true)], args := [d1, d2] }
  | _ => none }
def walkRoundRow : OpenClaim := { program := "ytlhjimkfcchdaaa", sum := "a9a407ff65584d1b63be8179b8dfaebe6a6ff5bbb974b0b9656ed772ace9b11d", func := "samara/samaralaw17.WalkRound", spec := "walkRound", unfollowed := true, recurses := true, apart := false }
def WalkRoundSaid : Prop := walkRoundRow.holds Try.pinned (OpenSpec.ofChange walkRoundSpec)

/-- ITS FALSE NEIGHBOUR: 'it returns false'. Refute it at one input. -/
def walkRoundWrong : ChangeSpec := { name := "walkRound", fn := fun _ => fun
  | [d1, d2] => { results := [.lit (.bool false)], args := [d1, d2] }
  | _ => none }
def WalkRoundWrongFalsely : Prop := walkRoundRow.holds Try.pinned (OpenSpec.ofChange walkRoundWrong)

/- THE SECOND FORM. 'bulk': how many values and letters a reading holds, each counted each time it is reached (what is shared counts as often as it is met; a slice's spare places count too). A statement '..UptoSaid' is the law's where the arguments, and the package variables that the reading takes, are together of bulk at most 1048576: NARROWER than '..Said'. Prove '..Said' where nothing that the law and all that it calls make is longer than what came in: it says more and counts as full. Else prove '..UptoSaid'. A law counts once. -/
mutual
def uptoBulk {H : Type} : DataW H → Nat
  | .lit (.string bytes) => bytes.length + 1
  | .lit _ => 1
  | .nil => 1
  | .ptr d => uptoBulk d + 1
  | .slice elems spare => uptoBulkAll elems + uptoBulkAll spare + 1
  | .agg parts => uptoBulkAll parts + 1
  | .iface _ d => uptoBulk d + 1
  | .map entries => uptoBulkEntries entries + 1
  | .held _ => 1
def uptoBulkAll {H : Type} : List (DataW H) → Nat
  | [] => 0
  | d :: r => uptoBulk d + uptoBulkAll r
def uptoBulkEntries {H : Type} : List (Lit × DataW H) → Nat
  | [] => 0
  | x :: r => uptoBulkEntry x + uptoBulkEntries r
def uptoBulkEntry {H : Type} : Lit × DataW H → Nat
  | (.string bytes, d) => bytes.length + uptoBulk d + 1
  | (_, d) => uptoBulk d + 1
 end
def uptoSmall : (H : Type) → List (DataW H) → Bool := fun _ ds => decide (uptoBulkAll ds ≤ 1048576)
def OpenSpec.upto (s : _root_.Go.ChangeSpec) : _root_.Go.OpenSpec := { _root_.Go.OpenSpec.ofChange s with cond := some uptoSmall }

/-- 'samaralaw17.WalkFinds', WHERE WHAT IT READS IS OF BULK AT MOST 1048576: true; the input reads as it did. -/
def walkFindsUptoRow : OpenClaim := { program := "ytlhjimkfcchdaaa", sum := "a9a407ff65584d1b63be8179b8dfaebe6a6ff5bbb974b0b9656ed772ace9b11d", func := "samara/samaralaw17.WalkFinds", spec := "walkFinds", unfollowed := true, recurses := true, apart := false, narrowed := true }
def WalkFindsUptoSaid : Prop := walkFindsUptoRow.holds Try.pinned (OpenSpec.upto walkFindsSpec)

/-- 'samaralaw17.WalkGoes', WHERE WHAT IT READS IS OF BULK AT MOST 1048576: true; the input reads as it did. -/
def walkGoesUptoRow : OpenClaim := { program := "ytlhjimkfcchdaaa", sum := "a9a407ff65584d1b63be8179b8dfaebe6a6ff5bbb974b0b9656ed772ace9b11d", func := "samara/samaralaw17.WalkGoes", spec := "walkGoes", unfollowed := true, recurses := true, apart := false, narrowed := true }
def WalkGoesUptoSaid : Prop := walkGoesUptoRow.holds Try.pinned (OpenSpec.upto walkGoesSpec)

/-- 'samaralaw17.WalkAgrees', WHERE WHAT IT READS IS OF BULK AT MOST 1048576: true; the input reads as it did. -/
def walkAgreesUptoRow : OpenClaim := { program := "ytlhjimkfcchdaaa", sum := "a9a407ff65584d1b63be8179b8dfaebe6a6ff5bbb974b0b9656ed772ace9b11d", func := "samara/samaralaw17.WalkAgrees", spec := "walkAgrees", unfollowed := true, recurses := true, apart := false, narrowed := true }
def WalkAgreesUptoSaid : Prop := walkAgreesUptoRow.holds Try.pinned (OpenSpec.upto walkAgreesSpec)

/-- 'samaralaw17.WalkRound', WHERE WHAT IT READS IS OF BULK AT MOST 1048576: true; the input reads as it did. -/
def walkRoundUptoRow : OpenClaim := { program := "ytlhjimkfcchdaaa", sum := "a9a407ff65584d1b63be8179b8dfaebe6a6ff5bbb974b0b9656ed772ace9b11d", func := "samara/samaralaw17.WalkRound", spec := "walkRound", unfollowed := true, recurses := true, apart := false, narrowed := true }
def WalkRoundUptoSaid : Prop := walkRoundUptoRow.holds Try.pinned (OpenSpec.upto walkRoundSpec)

end Rows
end Go.Proofs.Ytlhjimkfcchdaaa
