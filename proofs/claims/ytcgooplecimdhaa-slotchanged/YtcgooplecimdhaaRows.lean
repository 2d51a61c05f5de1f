/-
  No cell of these rows narrows 'for every input' (looked for: loops, veiled, ifaces, maps, wideKeys, modest, calm, conditions, laid).
  DERIVED. THE GIVEN ROWS OF THIS SEAT. 5 by the template 'for every input the law returns true; each argument reads behind the call as it read before'; 0 by the template 'total and deterministic' (their statements: YtcgooplecimdhaaTotals.lean).
  GIVEN WITH THE SEED: the statements are not yours to turn. If you find one false, say at which input.
  Laid BY PROGRAM, IN A SANDBOX (cutbox-rows.mjs): the forced cells as the released guide's own fill.sh prints them over the translation 306fe5ed9b729bd9… (all of the seat's roots in one cut). By AI agents, Wed Nov 11 2026. No macro, syntax, notation, axiom, sorry.
-/
import Derived.Test.YtcgooplecimdhaaChecked
import GoSem.Claim
import GoSem.ClaimJoined
import GoSem.ClaimMapViews
import Derived.JoinedTies
import Derived.KernelRfl
namespace Go.Proofs.Ytcgooplecimdhaa
/- THE CELL 'sum', in the pinned program and in every row, IS THE sha256 OF THE DUMP (.gsa) THAT YtcgooplecimdhaaProg.lean LOADS. Nothing in Lean hashes anything: it is a label: what it is worth is what the hold of that sum in a sandbox is worth. -/
noncomputable def Try.pinned : Pinned := { name := "ytcgooplecimdhaa", sum := "306fe5ed9b729bd90ff9b862fa8a8a4ba24bed13efd152f35e3c55ecbded87ea", checked := Try.checked }
namespace Rows
def none {H : Type} : Left H := { results := [], args := [] }

/-- 'samaralaw15.SlotNodes': WHATEVER THE INPUT: true; the input reads as it did. -/
def slotNodesSpec : ChangeSpec := { name := "slotNodes", fn := fun _ => fun
  | [d] => { results := [.lit (.bool true)], args := [d] }
  | _ => none }
def slotNodesRow : OpenClaim := { program := "ytcgooplecimdhaa", sum := "306fe5ed9b729bd90ff9b862fa8a8a4ba24bed13efd152f35e3c55ecbded87ea", func := "samara/samaralaw15.SlotNodes", spec := "slotNodes", apart := false }
def SlotNodesSaid : Prop := slotNodesRow.holds Try.pinned (OpenSpec.ofChange slotNodesSpec)

/-- ITS FALSE NEIGHBOUR: 'it returns false'. Refute it at one input. -/
def slotNodesWrong : ChangeSpec := { name := "slotNodes", fn := fun _ => fun
  | [d] => { results := [.lit (.bool false)], args := [d] }
  | _ => none }
def SlotNodesWrongFalsely : Prop := slotNodesRow.holds Try.pinned (OpenSpec.ofChange slotNodesWrong)

/-- 'samaralaw15.SlotWords': WHATEVER THE INPUT: true; the input reads as it did. -/
def slotWordsSpec : ChangeSpec := { name := "slotWords", fn := fun _ => fun
  | [d] => { results := [.lit (.bool true)], args := [d] }
  | _ => none }
def slotWordsRow : OpenClaim := { program := "ytcgooplecimdhaa", sum := "306fe5ed9b729bd90ff9b862fa8a8a4ba24bed13efd152f35e3c55ecbded87ea", func := "samara/samaralaw15.SlotWords", spec := "slotWords", apart := false }
def SlotWordsSaid : Prop := slotWordsRow.holds Try.pinned (OpenSpec.ofChange slotWordsSpec)

/-- ITS FALSE NEIGHBOUR: 'it returns false'. Refute it at one input. -/
def slotWordsWrong : ChangeSpec := { name := "slotWords", fn := fun _ => fun
  | [d] => { results := [.lit (.bool false)], args := [d] }
  | _ => none }
def SlotWordsWrongFalsely : Prop := slotWordsRow.holds Try.pinned (OpenSpec.ofChange slotWordsWrong)

/-- 'samaralaw15.SlotAreas': WHATEVER THE INPUT: true; the input reads as it did. -/
def slotAreasSpec : ChangeSpec := { name := "slotAreas", fn := fun _ => fun
  | [d1, d2] => { results := [.lit (.bool true)], args := [d1, d2] }
  | _ => none }
def slotAreasRow : OpenClaim := { program := "ytcgooplecimdhaa", sum := "306fe5ed9b729bd90ff9b862fa8a8a4ba24bed13efd152f35e3c55ecbded87ea", func := "samara/samaralaw15.SlotAreas", spec := "slotAreas", apart := false }
def SlotAreasSaid : Prop := slotAreasRow.holds Try.pinned (OpenSpec.ofChange slotAreasSpec)

/-- ITS FALSE NEIGHBOUR: 'it returns false'. Refute it at one input. -/
def slotAreasWrong : ChangeSpec := { name := "slotAreas", fn := fun _ => fun
  | [d1, d2] => { results := [.lit (.bool false)], args := [d1, d2] }
  | _ => none }
def SlotAreasWrongFalsely : Prop := slotAreasRow.holds Try.pinned (OpenSpec.ofChange slotAreasWrong)

/-- 'samaralaw15.SlotChanged': WHATEVER THE INPUT: true; the input reads as it did. -/
def slotChangedSpec : ChangeSpec := { name := "slotChanged", fn := fun _ => fun
  | [d1, d2, d3] => { results := [.lit (.bool true)], args := [d1, d2, d3] }
  | _ => none }
def slotChangedRow : OpenClaim := { program := "ytcgooplecimdhaa", sum := "306fe5ed9b729bd90ff9b862fa8a8a4ba24bed13efd152f35e3c55ecbded87ea", func := "samara/samaralaw15.SlotChanged", spec := "slotChanged", apart := false }
def SlotChangedSaid : Prop := slotChangedRow.holds Try.pinned (OpenSpec.ofChange slotChangedSpec)

/-- ITS FALSE NEIGHBOUR: 'it returns false'. Refute it at one input. -/
def slotChangedWrong : ChangeSpec := { name := "slotChanged", fn := fun _ => fun
  | [d1, d2, d3] => { results := [.lit (.bool false)], args := [d1, d2, d3] }
  | _ => none }
def SlotChangedWrongFalsely : Prop := slotChangedRow.holds Try.pinned (OpenSpec.ofChange slotChangedWrong)

/-- 'samaralaw15.SlotOwn': WHATEVER THE INPUT: true; the input reads as it did. -/
def slotOwnSpec : ChangeSpec := { name := "slotOwn", fn := fun _ => fun
  | [d] => { results := [.lit (.bool true)], args := [d] }
  | _ => none }
def slotOwnRow : OpenClaim := { program := "ytcgooplecimdhaa", sum := "306fe5ed9b729bd90ff9b862fa8a8a4ba24bed13efd152f35e3c55ecbded87ea", func := "samara/samaralaw15.SlotOwn", spec := "slotOwn", apart := false }
def SlotOwnSaid : Prop := slotOwnRow.holds Try.pinned (OpenSpec.ofChange slotOwnSpec)

/-- ITS FALSE NEIGHBOUR: 'it returns false'. Refute it at one input. -/
def slotOwnWrong : ChangeSpec := { name := "slotOwn", fn := fun _ => fun
  | [d] => { results := [.lit (.bool false)], args := [d] }
  | _ => none }
def SlotOwnWrongFalsely : Prop := slotOwnRow.holds Try.pinned (OpenSpec.ofChange slotOwnWrong)

/- THE SECOND FORM. 'bulk': how many values and letters a reading holds, each counted each time it is reached (what is shared counts as often as it is met; a slice's spare places count too). A statement '..UptoSaid' is the law's where the arguments, and the package variables that the reading takes, are together of bulk at most 1048576: NARROWER than '..Said'. Prove '..Said' where nothing that the law and all that it calls make is longer than what came in: it says more and counts as full. Else prove '..UptoSaid'. A law counts once. -/
mutual
def uptoBulk {H : Type} : DataW H → Nat
  | .lit (.string bytes) => bytes.length + 1
  | .lit _ => 1
  | .nil => 1
  | .ptr d => uptoBulk d + 1
  | .slice elems spare => uptoBulkAll elems + uptoBulkAll spare + 1
  | .agg parts => uptoBulkAll parts + 1
  | .iface _ d => uptoBulk d + 1
  | .map entries => uptoBulkEntries entries + 1
  | .held _ => 1
def uptoBulkAll {H : Type} : List (DataW H) → Nat
  | [] => 0
  | d :: r => uptoBulk d + uptoBulkAll r
def uptoBulkEntries {H : Type} : List (Lit × DataW H) → Nat
  | [] => 0
  | x :: r => uptoBulkEntry x + uptoBulkEntries r
def uptoBulkEntry {H : Type} : Lit × DataW H → Nat
  | (.string bytes, d) => bytes.length + uptoBulk d + 1
  | (_, d) => uptoBulk d + 1
 end
def uptoSmall : (H : Type) → List (DataW H) → Bool := fun _ ds => decide (uptoBulkAll ds ≤ 1048576)
def OpenSpec.upto (s : _root_.Go.ChangeSpec) : _root_.Go.OpenSpec := { _root_.Go.OpenSpec.ofChange s with cond := some uptoSmall }

/-- 'samaralaw15.SlotNodes', WHERE WHAT IT READS IS OF BULK AT MOST 1048576: true; the input reads as it did. -/
def slotNodesUptoRow : OpenClaim := { program := "ytcgooplecimdhaa", sum := "306fe5ed9b729bd90ff9b862fa8a8a4ba24bed13efd152f35e3c55ecbded87ea", func := "samara/samaralaw15.SlotNodes", spec := "slotNodes", apart := false, narrowed := true }
def SlotNodesUptoSaid : Prop := slotNodesUptoRow.holds Try.pinned (OpenSpec.upto slotNodesSpec)

/-- 'samaralaw15.SlotWords', WHERE WHAT IT READS IS OF BULK AT MOST 1048576: true; the input reads as it did. -/
def slotWordsUptoRow : OpenClaim := { program := "ytcgooplecimdhaa", sum := "306fe5ed9b729bd90ff9b862fa8a8a4ba24bed13efd152f35e3c55ecbded87ea", func := "samara/samaralaw15.SlotWords", spec := "slotWords", apart := false, narrowed := true }
def SlotWordsUptoSaid : Prop := slotWordsUptoRow.holds Try.pinned (OpenSpec.upto slotWordsSpec)

/-- 'samaralaw15.SlotAreas', WHERE WHAT IT READS IS OF BULK AT MOST 1048576: true; the input reads as it did. -/
def slotAreasUptoRow : OpenClaim := { program := "ytcgooplecimdhaa", sum := "306fe5ed9b729bd90ff9b862fa8a8a4ba24bed13efd152f35e3c55ecbded87ea", func := "samara/samaralaw15.SlotAreas", spec := "slotAreas", apart := false, narrowed := true }
def SlotAreasUptoSaid : Prop := slotAreasUptoRow.holds Try.pinned (OpenSpec.upto slotAreasSpec)

/-- 'samaralaw15.SlotChanged', WHERE WHAT IT READS IS OF BULK AT MOST 1048576: true; the input reads as it did. -/
def slotChangedUptoRow : OpenClaim := { program := "ytcgooplecimdhaa", sum := "306fe5ed9b729bd90ff9b862fa8a8a4ba24bed13efd152f35e3c55ecbded87ea", func := "samara/samaralaw15.SlotChanged", spec := "slotChanged", apart := false, narrowed := true }
def SlotChangedUptoSaid : Prop := slotChangedUptoRow.holds Try.pinned (OpenSpec.upto slotChangedSpec)

/-- 'samaralaw15.SlotOwn', WHERE WHAT IT READS IS OF BULK AT MOST 1048576: true; the input reads as it did. -/
def slotOwnUptoRow : OpenClaim := { program := "ytcgooplecimdhaa", sum := "306fe5ed9b729bd90ff9b862fa8a8a4ba24bed13efd152f35e3c55ecbded87ea", func := "samara/samaralaw15.SlotOwn", spec := "slotOwn", apart := false, narrowed := true }
def SlotOwnUptoSaid : Prop := slotOwnUptoRow.holds Try.pinned (OpenSpec.upto slotOwnSpec)

end Rows
end Go.Proofs.Ytcgooplecimdhaa
