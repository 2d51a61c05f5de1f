/-
  No cell of these rows narrows 'for every input' (looked for: loops, veiled, ifaces, maps, wideKeys, modest, calm, conditions, laid).
  DERIVED. THE GIVEN ROWS OF THIS SEAT. 4 by the template 'for every input the law returns true; each argument reads behind the call as it read before'; 0 by the template 'total and deterministic' (their statements: YtiiclmaphiajmaaTotals.lean).
  GIVEN WITH THE SEED: the statements are not yours to turn. If you find one false, say at which input.
  Laid BY PROGRAM, IN A SANDBOX (cutbox-rows.mjs): the forced cells as the released guide's own fill.sh prints them over the translation 1bf7875bfc9265b0… (all of the seat's roots in one cut). By AI agents, Wed Nov 11 2026. No macro, syntax, notation, axiom, sorry.
-/
import Derived.Test.YtiiclmaphiajmaaChecked
import GoSem.Claim
import GoSem.ClaimJoined
import GoSem.ClaimMapViews
import Derived.JoinedTies
import Derived.KernelRfl
namespace Go.Proofs.Ytiiclmaphiajmaa
/- THE CELL 'sum', in the pinned program and in every row, IS THE sha256 OF THE DUMP (.gsa) THAT YtiiclmaphiajmaaProg.lean LOADS. Nothing in Lean hashes anything: it is a label: what it is worth is what the hold of that sum in a sandbox is worth. -/
noncomputable def Try.pinned : Pinned := { name := "ytiiclmaphiajmaa", sum := "1bf7875bfc9265b015906a2aeca39b1ebecaf60f89fc19ac42e2e2eb8a7edb51", checked := Try.checked }
namespace Rows
def none {H : Type} : Left H := { results := [], args := [] }

/-- 'samaralaw16.SeekLooks': WHATEVER THE INPUT: true; the input reads as it did. -/
def seekLooksSpec : ChangeSpec := { name := "seekLooks", fn := fun _ => fun
  | [d1, d2] => { results := [.lit (.bool true)], args := [d1, d2] }
  | _ => none }
def seekLooksRow : OpenClaim := { program := "ytiiclmaphiajmaa", sum := "1bf7875bfc9265b015906a2aeca39b1ebecaf60f89fc19ac42e2e2eb8a7edb51", func := "samara/samaralaw16.SeekLooks", spec := "seekLooks", unfollowed := true, recurses := true, apart := false }
def SeekLooksSaid : Prop := seekLooksRow.holds Try.pinned (OpenSpec.ofChange seekLooksSpec)

/-- ITS FALSE NEIGHBOUR: 'it returns false'. Refute it at one input. -/
def seekLooksWrong : ChangeSpec := { name := "seekLooks", fn := fun _ => fun
  | [d1, d2] => { results := [.lit (.bool false)], args := [d1, d2] }
  | _ => none }
def SeekLooksWrongFalsely : Prop := seekLooksRow.holds Try.pinned (OpenSpec.ofChange seekLooksWrong)

/-- 'samaralaw16.SeekThings': WHATEVER THE INPUT: true; the input reads as it did. -/
def seekThingsSpec : ChangeSpec := { name := "seekThings", fn := fun _ => fun
  | [d] => { results := [.lit (.bool true)], args := [d] }
  | _ => none }
def seekThingsRow : OpenClaim := { program := "ytiiclmaphiajmaa", sum := "1bf7875bfc9265b015906a2aeca39b1ebecaf60f89fc19ac42e2e2eb8a7edb51", func := "samara/samaralaw16.SeekThings", spec := "seekThings", unfollowed := true, recurses := true, apart := false }
def SeekThingsSaid : Prop := seekThingsRow.holds Try.pinned (OpenSpec.ofChange seekThingsSpec)

/-- ITS FALSE NEIGHBOUR: 'it returns false'. Refute it at one input. -/
def seekThingsWrong : ChangeSpec := { name := "seekThings", fn := fun _ => fun
  | [d] => { results := [.lit (.bool false)], args := [d] }
  | _ => none }
def SeekThingsWrongFalsely : Prop := seekThingsRow.holds Try.pinned (OpenSpec.ofChange seekThingsWrong)

/-- 'samaralaw16.SeekStale': WHATEVER THE INPUT: true; the input reads as it did. -/
def seekStaleSpec : ChangeSpec := { name := "seekStale", fn := fun _ => fun
  | [d1, d2] => { results := [.lit (.bool true)], args := [d1, d2] }
  | _ => none }
def seekStaleRow : OpenClaim := { program := "ytiiclmaphiajmaa", sum := "1bf7875bfc9265b015906a2aeca39b1ebecaf60f89fc19ac42e2e2eb8a7edb51", func := "samara/samaralaw16.SeekStale", spec := "seekStale", unfollowed := true, recurses := true, apart := false }
def SeekStaleSaid : Prop := seekStaleRow.holds Try.pinned (OpenSpec.ofChange seekStaleSpec)

/-- ITS FALSE NEIGHBOUR: 'it returns false'. Refute it at one input. -/
def seekStaleWrong : ChangeSpec := { name := "seekStale", fn := fun _ => fun
  | [d1, d2] => { results := [.lit (.bool false)], args := [d1, d2] }
  | _ => none }
def SeekStaleWrongFalsely : Prop := seekStaleRow.holds Try.pinned (OpenSpec.ofChange seekStaleWrong)

/-- 'samaralaw16.SeekNode': WHATEVER THE INPUT: true; the input reads as it did. -/
def seekNodeSpec : ChangeSpec := { name := "seekNode", fn := fun _ => fun
  | [d1, d2] => { results := [.lit (.bool true)], args := [d1, d2] }
  | _ => none }
def seekNodeRow : OpenClaim := { program := "ytiiclmaphiajmaa", sum := "1bf7875bfc9265b015906a2aeca39b1ebecaf60f89fc19ac42e2e2eb8a7edb51", func := "samara/samaralaw16.SeekNode", spec := "seekNode", unfollowed := true, recurses := true, apart := false }
def SeekNodeSaid : Prop := seekNodeRow.holds Try.pinned (OpenSpec.ofChange seekNodeSpec)

/-- ITS FALSE NEIGHBOUR: 'it returns false'. Refute it at one input. -/
def seekNodeWrong : ChangeSpec := { name := "seekNode", fn := fun _ => fun
  | [d1, d2] => { results := [.lit (.bool false)], args := [d1, d2] }
  | _ => none }
def SeekNodeWrongFalsely : Prop := seekNodeRow.holds Try.pinned (OpenSpec.ofChange seekNodeWrong)

/- THE SECOND FORM. 'bulk': how many values and letters a reading holds, each counted each time it is reached (what is shared counts as often as it is met; a slice's spare places count too). A statement '..UptoSaid' is the law's where the arguments, and the package variables that the reading takes, are together of bulk at most 1048576: NARROWER than '..Said'. Prove '..Said' where nothing that the law and all that it calls make is longer than what came in: it says more and counts as full. Else prove '..UptoSaid'. A law counts once. -/
mutual
def uptoBulk {H : Type} : DataW H → Nat
  | .lit (.string bytes) => bytes.length + 1
  | .lit _ => 1
  | .nil => 1
  | .ptr d => uptoBulk d + 1
  | .slice elems spare => uptoBulkAll elems + uptoBulkAll spare + 1
  | .agg parts => uptoBulkAll parts + 1
  | .iface _ d => uptoBulk d + 1
  | .map entries => uptoBulkEntries entries + 1
  | .held _ => 1
def uptoBulkAll {H : Type} : List (DataW H) → Nat
  | [] => 0
  | d :: r => uptoBulk d + uptoBulkAll r
def uptoBulkEntries {H : Type} : List (Lit × DataW H) → Nat
  | [] => 0
  | x :: r => uptoBulkEntry x + uptoBulkEntries r
def uptoBulkEntry {H : Type} : Lit × DataW H → Nat
  | (.string bytes, d) => bytes.length + uptoBulk d + 1
  | (_, d) => uptoBulk d + 1
 end
def uptoSmall : (H : Type) → List (DataW H) → Bool := fun _ ds => decide (uptoBulkAll ds ≤ 1048576)
def OpenSpec.upto (s : _root_.Go.ChangeSpec) : _root_.Go.OpenSpec := { _root_.Go.OpenSpec.ofChange s with cond := some uptoSmall }

/-- 'samaralaw16.SeekLooks', WHERE WHAT IT READS IS OF BULK AT MOST 1048576: true; the input reads as it did. -/
def seekLooksUptoRow : OpenClaim := { program := "ytiiclmaphiajmaa", sum := "1bf7875bfc9265b015906a2aeca39b1ebecaf60f89fc19ac42e2e2eb8a7edb51", func := "samara/samaralaw16.SeekLooks", spec := "seekLooks", unfollowed := true, recurses := true, apart := false, narrowed := true }
def SeekLooksUptoSaid : Prop := seekLooksUptoRow.holds Try.pinned (OpenSpec.upto seekLooksSpec)

/-- 'samaralaw16.SeekThings', WHERE WHAT IT READS IS OF BULK AT MOST 1048576: true; the input reads as it did. -/
def seekThingsUptoRow : OpenClaim := { program := "ytiiclmaphiajmaa", sum := "1bf7875bfc9265b015906a2aeca39b1ebecaf60f89fc19ac42e2e2eb8a7edb51", func := "samara/samaralaw16.SeekThings", spec := "seekThings", unfollowed := true, recurses := true, apart := false, narrowed := true }
def SeekThingsUptoSaid : Prop := seekThingsUptoRow.holds Try.pinned (OpenSpec.upto seekThingsSpec)

/-- 'samaralaw16.SeekStale', WHERE WHAT IT READS IS OF BULK AT MOST 1048576: true; the input reads as it did. -/
def seekStaleUptoRow : OpenClaim := { program := "ytiiclmaphiajmaa", sum := "1bf7875bfc9265b015906a2aeca39b1ebecaf60f89fc19ac42e2e2eb8a7edb51", func := "samara/samaralaw16.SeekStale", spec := "seekStale", unfollowed := true, recurses := true, apart := false, narrowed := true }
def SeekStaleUptoSaid : Prop := seekStaleUptoRow.holds Try.pinned (OpenSpec.upto seekStaleSpec)

/-- 'samaralaw16.SeekNode', WHERE WHAT IT READS IS OF BULK AT MOST 1048576: true; the input reads as it did. -/
def seekNodeUptoRow : OpenClaim := { program := "ytiiclmaphiajmaa", sum := "1bf7875bfc9265b015906a2aeca39b1ebecaf60f89fc19ac42e2e2eb8a7edb51", func := "samara/samaralaw16.SeekNode", spec := "seekNode", unfollowed := true, recurses := true, apart := false, narrowed := true }
def SeekNodeUptoSaid : Prop := seekNodeUptoRow.holds Try.pinned (OpenSpec.upto seekNodeSpec)

end Rows
end Go.Proofs.Ytiiclmaphiajmaa
