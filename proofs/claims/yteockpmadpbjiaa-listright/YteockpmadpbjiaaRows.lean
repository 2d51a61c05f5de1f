/-
  No cell of these rows narrows 'for every input' (looked for: loops, veiled, ifaces, maps, wideKeys, modest, calm, conditions, laid).
  DERIVED. THE GIVEN ROWS OF THIS SEAT. 6 by the template 'for every input the law returns true; each argument reads behind the call as it read before'; 0 by the template 'total and deterministic' (their statements: YteockpmadpbjiaaTotals.lean).
  GIVEN WITH THE SEED: the statements are not yours to turn. If you find one false, say at which input.
  Laid BY PROGRAM, IN A SANDBOX (cutbox-rows.mjs): the forced cells as the released guide's own fill.sh prints them over the translation 5a89aebc3f32c348… (all of the seat's roots in one cut). By AI agents, Wed Nov 11 2026. No macro, syntax, notation, axiom, sorry.
-/
import Derived.Test.YteockpmadpbjiaaChecked
import GoSem.Claim
import GoSem.ClaimJoined
import GoSem.ClaimMapViews
import Derived.JoinedTies
import Derived.KernelRfl
namespace Go.Proofs.Yteockpmadpbjiaa
/- THE CELL 'sum', in the pinned program and in every row, IS THE sha256 OF THE DUMP (.gsa) THAT YteockpmadpbjiaaProg.lean LOADS. Nothing in Lean hashes anything: it is a label: what it is worth is what the hold of that sum in a sandbox is worth. -/
noncomputable def Try.pinned : Pinned := { name := "yteockpmadpbjiaa", sum := "5a89aebc3f32c34802a043f6e3be171d2205cc9760fae3e07e6a5a9618c79fd5", checked := Try.checked }
namespace Rows
def none {H : Type} : Left H := { results := [], args := [] }

/-- 'samaralaw07.ListTwice': WHATEVER THE INPUT: true; the input reads as it did. -/
def listTwiceSpec : ChangeSpec := { name := "listTwice", fn := fun _ => fun
  | [d1, d2, d3] => { results := [.lit (.bool true)], args := [d1, d2, d3] }
  | _ => none }
def listTwiceRow : OpenClaim := { program := "yteockpmadpbjiaa", sum := "5a89aebc3f32c34802a043f6e3be171d2205cc9760fae3e07e6a5a9618c79fd5", func := "samara/samaralaw07.ListTwice", spec := "listTwice", unfollowed := true, recurses := true, apart := false }
def ListTwiceSaid : Prop := listTwiceRow.holds Try.pinned (OpenSpec.ofChange listTwiceSpec)

/-- ITS FALSE NEIGHBOUR: 'it returns false'. Refute it at one input. -/
def listTwiceWrong : ChangeSpec := { name := "listTwice", fn := fun _ => fun
  | [d1, d2, d3] => { results := [.lit (.bool false)], args := [d1, d2, d3] }
  | _ => none }
def ListTwiceWrongFalsely : Prop := listTwiceRow.holds Try.pinned (OpenSpec.ofChange listTwiceWrong)

/-- 'samaralaw07.ListUndone': WHATEVER THE INPUT: true; the input reads as it did. -/
def listUndoneSpec : ChangeSpec := { name := "listUndone", fn := fun _ => fun
  | [d1, d2] => { results := [.lit (.bool true)], args := [d1, d2] }
  | _ => none }
def listUndoneRow : OpenClaim := { program := "yteockpmadpbjiaa", sum := "5a89aebc3f32c34802a043f6e3be171d2205cc9760fae3e07e6a5a9618c79fd5", func := "samara/samaralaw07.ListUndone", spec := "listUndone", unfollowed := true, recurses := true, apart := false }
def ListUndoneSaid : Prop := listUndoneRow.holds Try.pinned (OpenSpec.ofChange listUndoneSpec)

/-- ITS FALSE NEIGHBOUR: 'it returns false'. Refute it at one input. -/
def listUndoneWrong : ChangeSpec := { name := "listUndone", fn := fun _ => fun
  | [d1, d2] => { results := [.lit (.bool false)], args := [d1, d2] }
  | _ => none }
def ListUndoneWrongFalsely : Prop := listUndoneRow.holds Try.pinned (OpenSpec.ofChange listUndoneWrong)

/-- 'samaralaw07.ListApart': WHATEVER THE INPUT: true; the input reads as it did. -/
def listApartSpec : ChangeSpec := { name := "listApart", fn := fun _ => fun
  | [d1, d2, d3] => { results := [.lit (.bool true)], args := [d1, d2, d3] }
  | _ => none }
def listApartRow : OpenClaim := { program := "yteockpmadpbjiaa", sum := "5a89aebc3f32c34802a043f6e3be171d2205cc9760fae3e07e6a5a9618c79fd5", func := "samara/samaralaw07.ListApart", spec := "listApart", unfollowed := true, recurses := true, apart := false }
def ListApartSaid : Prop := listApartRow.holds Try.pinned (OpenSpec.ofChange listApartSpec)

/-- ITS FALSE NEIGHBOUR: 'it returns false'. Refute it at one input. -/
def listApartWrong : ChangeSpec := { name := "listApart", fn := fun _ => fun
  | [d1, d2, d3] => { results := [.lit (.bool false)], args := [d1, d2, d3] }
  | _ => none }
def ListApartWrongFalsely : Prop := listApartRow.holds Try.pinned (OpenSpec.ofChange listApartWrong)

/-- 'samaralaw07.ListRight': WHATEVER THE INPUT: true; the input reads as it did. -/
def listRightSpec : ChangeSpec := { name := "listRight", fn := fun _ => fun
  | [d1, d2, d3] => { results := [.lit (.bool true)], args := [d1, d2, d3] }
  | _ => none }
def listRightRow : OpenClaim := { program := "yteockpmadpbjiaa", sum := "5a89aebc3f32c34802a043f6e3be171d2205cc9760fae3e07e6a5a9618c79fd5", func := "samara/samaralaw07.ListRight", spec := "listRight", unfollowed := true, recurses := true, apart := false }
def ListRightSaid : Prop := listRightRow.holds Try.pinned (OpenSpec.ofChange listRightSpec)

/-- ITS FALSE NEIGHBOUR: 'it returns false'. Refute it at one input. -/
def listRightWrong : ChangeSpec := { name := "listRight", fn := fun _ => fun
  | [d1, d2, d3] => { results := [.lit (.bool false)], args := [d1, d2, d3] }
  | _ => none }
def ListRightWrongFalsely : Prop := listRightRow.holds Try.pinned (OpenSpec.ofChange listRightWrong)

/-- 'samaralaw07.ListPuts': WHATEVER THE INPUT: true; the input reads as it did. -/
def listPutsSpec : ChangeSpec := { name := "listPuts", fn := fun _ => fun
  | [d1, d2] => { results := [.lit (.bool true)], args := [d1, d2] }
  | _ => none }
def listPutsRow : OpenClaim := { program := "yteockpmadpbjiaa", sum := "5a89aebc3f32c34802a043f6e3be171d2205cc9760fae3e07e6a5a9618c79fd5", func := "samara/samaralaw07.ListPuts", spec := "listPuts", unfollowed := true, recurses := true, apart := false }
def ListPutsSaid : Prop := listPutsRow.holds Try.pinned (OpenSpec.ofChange listPutsSpec)

/-- ITS FALSE NEIGHBOUR: 'it returns false'. Refute it at one input. -/
def listPutsWrong : ChangeSpec := { name := "listPuts", fn := fun _ => fun
  | [d1, d2] => { results := [.lit (.bool false)], args := [d1, d2] }
  | _ => none }
def ListPutsWrongFalsely : Prop := listPutsRow.holds Try.pinned (OpenSpec.ofChange listPutsWrong)

/-- 'samaralaw07.ListOwn': WHATEVER THE INPUT: true; the input reads as it did. -/
def listOwnSpec : ChangeSpec := { name := "listOwn", fn := fun _ => fun
  | [d1, d2] => { results := [.lit (.bool true)], args := [d1, d2] }
  | _ => none }
def listOwnRow : OpenClaim := { program := "yteockpmadpbjiaa", sum := "5a89aebc3f32c34802a043f6e3be171d2205cc9760fae3e07e6a5a9618c79fd5", func := "samara/samaralaw07.ListOwn", spec := "listOwn", unfollowed := true, recurses := true, apart := false }
def ListOwnSaid : Prop := listOwnRow.holds Try.pinned (OpenSpec.ofChange listOwnSpec)

/-- ITS FALSE NEIGHBOUR: 'it returns false'. Refute it at one input. -/
def listOwnWrong : ChangeSpec := { name := "listOwn", fn := fun _ => fun
  | [d1, d2] => { results := [.lit (.bool false)], args := [d1, d2] }
  | _ => none }
def ListOwnWrongFalsely : Prop := listOwnRow.holds Try.pinned (OpenSpec.ofChange listOwnWrong)

/- THE SECOND FORM. 'bulk': how many values and letters a reading holds, each counted each time it is reached (what is shared counts as often as it is met; a slice's spare places count too). A statement '..UptoSaid' is the law's where the arguments, and the package variables that the reading takes, are together of bulk at most 1048576: NARROWER than '..Said'. Prove '..Said' where nothing that the law and all that it calls make is longer than what came in: it says more and counts as full. Else prove '..UptoSaid'. A law counts once. -/
mutual
def uptoBulk {H : Type} : DataW H → Nat
  | .lit (.string bytes) => bytes.length + 1
  | .lit _ => 1
  | .nil => 1
  | .ptr d => uptoBulk d + 1
  | .slice elems spare => uptoBulkAll elems + uptoBulkAll spare + 1
  | .agg parts => uptoBulkAll parts + 1
  | .iface _ d => uptoBulk d + 1
  | .map entries => uptoBulkEntries entries + 1
  | .held _ => 1
def uptoBulkAll {H : Type} : List (DataW H) → Nat
  | [] => 0
  | d :: r => uptoBulk d + uptoBulkAll r
def uptoBulkEntries {H : Type} : List (Lit × DataW H) → Nat
  | [] => 0
  | x :: r => uptoBulkEntry x + uptoBulkEntries r
def uptoBulkEntry {H : Type} : Lit × DataW H → Nat
  | (.string bytes, d) => bytes.length + uptoBulk d + 1
  | (_, d) => uptoBulk d + 1
 end
def uptoSmall : (H : Type) → List (DataW H) → Bool := fun _ ds => decide (uptoBulkAll ds ≤ 1048576)
def OpenSpec.upto (s : _root_.Go.ChangeSpec) : _root_.Go.OpenSpec := { _root_.Go.OpenSpec.ofChange s with cond := some uptoSmall }

/-- 'samaralaw07.ListTwice', WHERE WHAT IT READS IS OF BULK AT MOST 1048576: true; the input reads as it did. -/
def listTwiceUptoRow : OpenClaim := { program := "yteockpmadpbjiaa", sum := "5a89aebc3f32c34802a043f6e3be171d2205cc9760fae3e07e6a5a9618c79fd5", func := "samara/samaralaw07.ListTwice", spec := "listTwice", unfollowed := true, recurses := true, apart := false, narrowed := true }
def ListTwiceUptoSaid : Prop := listTwiceUptoRow.holds Try.pinned (OpenSpec.upto listTwiceSpec)

/-- 'samaralaw07.ListUndone', WHERE WHAT IT READS IS OF BULK AT MOST 1048576: true; the input reads as it did. -/
def listUndoneUptoRow : OpenClaim := { program := "yteockpmadpbjiaa", sum := "5a89aebc3f32c34802a043f6e3be171d2205cc9760fae3e07e6a5a9618c79fd5", func := "samara/samaralaw07.ListUndone", spec := "listUndone", unfollowed := true, recurses := true, apart := false, narrowed := true }
def ListUndoneUptoSaid : Prop := listUndoneUptoRow.holds Try.pinned (OpenSpec.upto listUndoneSpec)

/-- 'samaralaw07.ListApart', WHERE WHAT IT READS IS OF BULK AT MOST 1048576: true; the input reads as it did. -/
def listApartUptoRow : OpenClaim := { program := "yteockpmadpbjiaa", sum := "5a89aebc3f32c34802a043f6e3be171d2205cc9760fae3e07e6a5a9618c79fd5", func := "samara/samaralaw07.ListApart", spec := "listApart", unfollowed := true, recurses := true, apart := false, narrowed := true }
def ListApartUptoSaid : Prop := listApartUptoRow.holds Try.pinned (OpenSpec.upto listApartSpec)

/-- 'samaralaw07.ListRight', WHERE WHAT IT READS IS OF BULK AT MOST 1048576: true; the input reads as it did. -/
def listRightUptoRow : OpenClaim := { program := "yteockpmadpbjiaa", sum := "5a89aebc3f32c34802a043f6e3be171d2205cc9760fae3e07e6a5a9618c79fd5", func := "samara/samaralaw07.ListRight", spec := "listRight", unfollowed := true, recurses := true, apart := false, narrowed := true }
def ListRightUptoSaid : Prop := listRightUptoRow.holds Try.pinned (OpenSpec.upto listRightSpec)

/-- 'samaralaw07.ListPuts', WHERE WHAT IT READS IS OF BULK AT MOST 1048576: true; the input reads as it did. -/
def listPutsUptoRow : OpenClaim := { program := "yteockpmadpbjiaa", sum := "5a89aebc3f32c34802a043f6e3be171d2205cc9760fae3e07e6a5a9618c79fd5", func := "samara/samaralaw07.ListPuts", spec := "listPuts", unfollowed := true, recurses := true, apart := false, narrowed := true }
def ListPutsUptoSaid : Prop := listPutsUptoRow.holds Try.pinned (OpenSpec.upto listPutsSpec)

/-- 'samaralaw07.ListOwn', WHERE WHAT IT READS IS OF BULK AT MOST 1048576: true; the input reads as it did. -/
def listOwnUptoRow : OpenClaim := { program := "yteockpmadpbjiaa", sum := "5a89aebc3f32c34802a043f6e3be171d2205cc9760fae3e07e6a5a9618c79fd5", func := "samara/samaralaw07.ListOwn", spec := "listOwn", unfollowed := true, recurses := true, apart := false, narrowed := true }
def ListOwnUptoSaid : Prop := listOwnUptoRow.holds Try.pinned (OpenSpec.upto listOwnSpec)

end Rows
end Go.Proofs.Yteockpmadpbjiaa
