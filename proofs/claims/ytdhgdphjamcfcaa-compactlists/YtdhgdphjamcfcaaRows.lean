/-
  No cell of these rows narrows 'for every input' (looked for: loops, veiled, ifaces, maps, wideKeys, modest, calm, conditions, laid).
  DERIVED. THE GIVEN ROWS OF THIS SEAT. 6 by the template 'for every input the law returns true; each argument reads behind the call as it read before'; 0 by the template 'total and deterministic' (their statements: YtdhgdphjamcfcaaTotals.lean).
  GIVEN WITH THE SEED: the statements are not yours to turn. If you find one false, say at which input.
  Laid BY PROGRAM, IN A SANDBOX (cutbox-rows.mjs): the forced cells as the released guide's own fill.sh prints them over the translation b7b7063059727481… (all of the seat's roots in one cut). By AI agents, Wed Nov 11 2026. No macro, syntax, notation, axiom, sorry.
-/
import Derived.Test.YtdhgdphjamcfcaaChecked
import GoSem.Claim
import GoSem.ClaimJoined
import GoSem.ClaimMapViews
import Derived.JoinedTies
import Derived.KernelRfl
namespace Go.Proofs.Ytdhgdphjamcfcaa
/- THE CELL 'sum', in the pinned program and in every row, IS THE sha256 OF THE DUMP (.gsa) THAT YtdhgdphjamcfcaaProg.lean LOADS. Nothing in Lean hashes anything: it is a label: what it is worth is what the hold of that sum in a sandbox is worth. -/
noncomputable def Try.pinned : Pinned := { name := "ytdhgdphjamcfcaa", sum := "b7b7063059727481b9ef3def43796738e825cb799457b97c479f97b7a0bd3c8c", checked := Try.checked }
namespace Rows
def none {H : Type} : Left H := { results := [], args := [] }

/-- 'psephoslaw03.CompactAppends': WHATEVER THE INPUT: true; the input reads as it did. -/
def compactAppendsSpec : ChangeSpec := { name := "compactAppends", fn := fun _ => fun
  | [d1, d2, d3] => { results := [.lit (.bool true)], args := [d1, d2, d3] }
  | _ => none }
def compactAppendsRow : OpenClaim := { program := "ytdhgdphjamcfcaa", sum := "b7b7063059727481b9ef3def43796738e825cb799457b97c479f97b7a0bd3c8c", func := "psephos/psephoslaw03.CompactAppends", spec := "compactAppends", apart := false }
def CompactAppendsSaid : Prop := compactAppendsRow.holds Try.pinned (OpenSpec.ofChange compactAppendsSpec)

/-- ITS FALSE NEIGHBOUR: 'it returns false'. Refute it at one input. -/
def compactAppendsWrong : ChangeSpec := { name := "compactAppends", fn := fun _ => fun
  | [d1, d2, d3] => { results := [.lit (.bool false)], args := [d1, d2, d3] }
  | _ => none }
def CompactAppendsWrongFalsely : Prop := compactAppendsRow.holds Try.pinned (OpenSpec.ofChange compactAppendsWrong)

/-- 'psephoslaw03.CompactTakes': WHATEVER THE INPUT: true; the input reads as it did. -/
def compactTakesSpec : ChangeSpec := { name := "compactTakes", fn := fun _ => fun
  | [d] => { results := [.lit (.bool true)], args := [d] }
  | _ => none }
def compactTakesRow : OpenClaim := { program := "ytdhgdphjamcfcaa", sum := "b7b7063059727481b9ef3def43796738e825cb799457b97c479f97b7a0bd3c8c", func := "psephos/psephoslaw03.CompactTakes", spec := "compactTakes", apart := false }
def CompactTakesSaid : Prop := compactTakesRow.holds Try.pinned (OpenSpec.ofChange compactTakesSpec)

/-- ITS FALSE NEIGHBOUR: 'it returns false'. Refute it at one input. -/
def compactTakesWrong : ChangeSpec := { name := "compactTakes", fn := fun _ => fun
  | [d] => { results := [.lit (.bool false)], args := [d] }
  | _ => none }
def CompactTakesWrongFalsely : Prop := compactTakesRow.holds Try.pinned (OpenSpec.ofChange compactTakesWrong)

/-- 'psephoslaw03.CompactLists': WHATEVER THE INPUT: true; the input reads as it did. -/
def compactListsSpec : ChangeSpec := { name := "compactLists", fn := fun _ => fun
  | [d1, d2, d3] => { results := [.lit (.bool true)], args := [d1, d2, d3] }
  | _ => none }
def compactListsRow : OpenClaim := { program := "ytdhgdphjamcfcaa", sum := "b7b7063059727481b9ef3def43796738e825cb799457b97c479f97b7a0bd3c8c", func := "psephos/psephoslaw03.CompactLists", spec := "compactLists", apart := false }
def CompactListsSaid : Prop := compactListsRow.holds Try.pinned (OpenSpec.ofChange compactListsSpec)

/-- ITS FALSE NEIGHBOUR: 'it returns false'. Refute it at one input. -/
def compactListsWrong : ChangeSpec := { name := "compactLists", fn := fun _ => fun
  | [d1, d2, d3] => { results := [.lit (.bool false)], args := [d1, d2, d3] }
  | _ => none }
def CompactListsWrongFalsely : Prop := compactListsRow.holds Try.pinned (OpenSpec.ofChange compactListsWrong)

/-- 'psephoslaw03.CompactTakesLists': WHATEVER THE INPUT: true; the input reads as it did. -/
def compactTakesListsSpec : ChangeSpec := { name := "compactTakesLists", fn := fun _ => fun
  | [d1, d2] => { results := [.lit (.bool true)], args := [d1, d2] }
  | _ => none }
def compactTakesListsRow : OpenClaim := { program := "ytdhgdphjamcfcaa", sum := "b7b7063059727481b9ef3def43796738e825cb799457b97c479f97b7a0bd3c8c", func := "psephos/psephoslaw03.CompactTakesLists", spec := "compactTakesLists", apart := false }
def CompactTakesListsSaid : Prop := compactTakesListsRow.holds Try.pinned (OpenSpec.ofChange compactTakesListsSpec)

/-- ITS FALSE NEIGHBOUR: 'it returns false'. Refute it at one input. -/
def compactTakesListsWrong : ChangeSpec := { name := "compactTakesLists", fn := fun _ => fun
  | [d1, d2] => { results := [.lit (.bool false)], args := [d1, d2] }
  | _ => none }
def CompactTakesListsWrongFalsely : Prop := compactTakesListsRow.holds Try.pinned (OpenSpec.ofChange compactTakesListsWrong)

/-- 'psephoslaw03.CompactCuts': WHATEVER THE INPUT: true; the input reads as it did. -/
def compactCutsSpec : ChangeSpec := { name := "compactCuts", fn := fun _ => fun
  | [d1, d2] => { results := [.lit (.bool true)], args := [d1, d2] }
  | _ => none }
def compactCutsRow : OpenClaim := { program := "ytdhgdphjamcfcaa", sum := "b7b7063059727481b9ef3def43796738e825cb799457b97c479f97b7a0bd3c8c", func := "psephos/psephoslaw03.CompactCuts", spec := "compactCuts", apart := false }
def CompactCutsSaid : Prop := compactCutsRow.holds Try.pinned (OpenSpec.ofChange compactCutsSpec)

/-- ITS FALSE NEIGHBOUR: 'it returns false'. Refute it at one input. -/
def compactCutsWrong : ChangeSpec := { name := "compactCuts", fn := fun _ => fun
  | [d1, d2] => { results := [.lit (.bool false)], args := [d1, d2] }
  | _ => none }
def CompactCutsWrongFalsely : Prop := compactCutsRow.holds Try.pinned (OpenSpec.ofChange compactCutsWrong)

/-- 'psephoslaw03.CompactRises': WHATEVER THE INPUT: true; the input reads as it did. -/
def compactRisesSpec : ChangeSpec := { name := "compactRises", fn := fun _ => fun
  | [d1, d2] => { results := [.lit (.bool true)], args := [d1, d2] }
  | _ => none }
def compactRisesRow : OpenClaim := { program := "ytdhgdphjamcfcaa", sum := "b7b7063059727481b9ef3def43796738e825cb799457b97c479f97b7a0bd3c8c", func := "psephos/psephoslaw03.CompactRises", spec := "compactRises", apart := false }
def CompactRisesSaid : Prop := compactRisesRow.holds Try.pinned (OpenSpec.ofChange compactRisesSpec)

/-- ITS FALSE NEIGHBOUR: 'it returns false'. Refute it at one input. -/
def compactRisesWrong : ChangeSpec := { name := "compactRises", fn := fun _ => fun
  | [d1, d2] => { results := [.lit (.bool false)], args := [d1, d2] }
  | _ => none }
def CompactRisesWrongFalsely : Prop := compactRisesRow.holds Try.pinned (OpenSpec.ofChange compactRisesWrong)

/- THE SECOND FORM. 'bulk': how many values and letters a reading holds, each counted each time it is reached (what is shared counts as often as it is met; a slice's spare places count too). A statement '..UptoSaid' is the law's where the arguments, and the package variables that the reading takes, are together of bulk at most 1048576: NARROWER than '..Said'. Prove '..Said' where nothing that the law and all that it calls make is longer than what came in: it says more and counts as full. Else prove '..UptoSaid'. A law counts once. -/
mutual
def uptoBulk {H : Type} : DataW H → Nat
  | .lit (.string bytes) => bytes.length + 1
  | .lit _ => 1
  | .nil => 1
  | .ptr d => uptoBulk d + 1
  | .slice elems spare => uptoBulkAll elems + uptoBulkAll spare + 1
  | .agg parts => uptoBulkAll parts + 1
  | .iface _ d => uptoBulk d + 1
  | .map entries => uptoBulkEntries entries + 1
  | .held _ => 1
def uptoBulkAll {H : Type} : List (DataW H) → Nat
  | [] => 0
  | d :: r => uptoBulk d + uptoBulkAll r
def uptoBulkEntries {H : Type} : List (Lit × DataW H) → Nat
  | [] => 0
  | x :: r => uptoBulkEntry x + uptoBulkEntries r
def uptoBulkEntry {H : Type} : Lit × DataW H → Nat
  | (.string bytes, d) => bytes.length + uptoBulk d + 1
  | (_, d) => uptoBulk d + 1
 end
def uptoSmall : (H : Type) → List (DataW H) → Bool := fun _ ds => decide (uptoBulkAll ds ≤ 1048576)
def OpenSpec.upto (s : _root_.Go.ChangeSpec) : _root_.Go.OpenSpec := { _root_.Go.OpenSpec.ofChange s with cond := some uptoSmall }

/-- 'psephoslaw03.CompactAppends', WHERE WHAT IT READS IS OF BULK AT MOST 1048576: true; the input reads as it did. -/
def compactAppendsUptoRow : OpenClaim := { program := "ytdhgdphjamcfcaa", sum := "b7b7063059727481b9ef3def43796738e825cb799457b97c479f97b7a0bd3c8c", func := "psephos/psephoslaw03.CompactAppends", spec := "compactAppends", apart := false, narrowed := true }
def CompactAppendsUptoSaid : Prop := compactAppendsUptoRow.holds Try.pinned (OpenSpec.upto compactAppendsSpec)

/-- 'psephoslaw03.CompactTakes', WHERE WHAT IT READS IS OF BULK AT MOST 1048576: true; the input reads as it did. -/
def compactTakesUptoRow : OpenClaim := { program := "ytdhgdphjamcfcaa", sum := "b7b7063059727481b9ef3def43796738e825cb799457b97c479f97b7a0bd3c8c", func := "psephos/psephoslaw03.CompactTakes", spec := "compactTakes", apart := false, narrowed := true }
def CompactTakesUptoSaid : Prop := compactTakesUptoRow.holds Try.pinned (OpenSpec.upto compactTakesSpec)

/-- 'psephoslaw03.CompactLists', WHERE WHAT IT READS IS OF BULK AT MOST 1048576: true; the input reads as it did. -/
def compactListsUptoRow : OpenClaim := { program := "ytdhgdphjamcfcaa", sum := "b7b7063059727481b9ef3def43796738e825cb799457b97c479f97b7a0bd3c8c", func := "psephos/psephoslaw03.CompactLists", spec := "compactLists", apart := false, narrowed := true }
def CompactListsUptoSaid : Prop := compactListsUptoRow.holds Try.pinned (OpenSpec.upto compactListsSpec)

/-- 'psephoslaw03.CompactTakesLists', WHERE WHAT IT READS IS OF BULK AT MOST 1048576: true; the input reads as it did. -/
def compactTakesListsUptoRow : OpenClaim := { program := "ytdhgdphjamcfcaa", sum := "b7b7063059727481b9ef3def43796738e825cb799457b97c479f97b7a0bd3c8c", func := "psephos/psephoslaw03.CompactTakesLists", spec := "compactTakesLists", apart := false, narrowed := true }
def CompactTakesListsUptoSaid : Prop := compactTakesListsUptoRow.holds Try.pinned (OpenSpec.upto compactTakesListsSpec)

/-- 'psephoslaw03.CompactCuts', WHERE WHAT IT READS IS OF BULK AT MOST 1048576: true; the input reads as it did. -/
def compactCutsUptoRow : OpenClaim := { program := "ytdhgdphjamcfcaa", sum := "b7b7063059727481b9ef3def43796738e825cb799457b97c479f97b7a0bd3c8c", func := "psephos/psephoslaw03.CompactCuts", spec := "compactCuts", apart := false, narrowed := true }
def CompactCutsUptoSaid : Prop := compactCutsUptoRow.holds Try.pinned (OpenSpec.upto compactCutsSpec)

/-- 'psephoslaw03.CompactRises', WHERE WHAT IT READS IS OF BULK AT MOST 1048576: true; the input reads as it did. -/
def compactRisesUptoRow : OpenClaim := { program := "ytdhgdphjamcfcaa", sum := "b7b7063059727481b9ef3def43796738e825cb799457b97c479f97b7a0bd3c8c", func := "psephos/psephoslaw03.CompactRises", spec := "compactRises", apart := false, narrowed := true }
def CompactRisesUptoSaid : Prop := compactRisesUptoRow.holds Try.pinned (OpenSpec.upto compactRisesSpec)

end Rows
end Go.Proofs.Ytdhgdphjamcfcaa
