/-
  No cell of these rows narrows 'for every input' (looked for: loops, veiled, ifaces, maps, wideKeys, modest, calm, conditions, laid).
  DERIVED. THE GIVEN ROWS OF THIS SEAT. 7 by the template 'for every input the law returns true; each argument reads behind the call as it read before'; 0 by the template 'total and deterministic' (their statements: YtehekjlakegkpaaGreatTotals.lean).
  GIVEN WITH THE SEED: the statements are not yours to turn. If you find one false, say at which input.
  Laid BY PROGRAM, IN A SANDBOX (cutbox-rows.mjs): the forced cells as the released guide's own fill.sh prints them over the translation da7f40df31cd1343… (all of the seat's roots in one cut). By AI agents, Wed Nov 11 2026. No macro, syntax, notation, axiom, sorry.
-/
import Derived.Test.YtehekjlakegkpaaGreatChecked
import GoSem.Claim
import GoSem.ClaimJoined
import GoSem.ClaimMapViews
import Derived.JoinedTies
import Derived.KernelRfl
namespace Go.Proofs.YtehekjlakegkpaaGreat
/- THE CELL 'sum', in the pinned program and in every row, IS THE sha256 OF THE DUMP (.gsa) THAT YtehekjlakegkpaaGreatProg.lean LOADS. Nothing in Lean hashes anything: it is a label: what it is worth is what the hold of that sum in a sandbox is worth. -/
noncomputable def Tryz.pinned : Pinned := { name := "ytehekjlakegkpaagreat", sum := "da7f40df31cd1343ece2f0f3536c9f2c7576f0aa54de69910307067b83b42437", checked := Tryz.checked }
namespace Rows
def none {H : Type} : Left H := { results := [], args := [] }

/-- 'psephoslaw11.PhragmenRises': WHATEVER THE INPUT: true; the input reads as it did. -/
def phragmenRisesSpec : ChangeSpec := { name := "phragmenRises", fn := fun _ => fun
  | [d1, d2] => { results := [.lit (.bool true)], args := [d1, d2] }
  | _ => none }
def phragmenRisesRow : OpenClaim := { program := "ytehekjlakegkpaagreat", sum := "da7f40df31cd1343ece2f0f3536c9f2c7576f0aa54de69910307067b83b42437", func := "psephos/psephoslaw11.PhragmenRises", spec := "phragmenRises", inPlace := ["math/bits.Add64"], unfollowed := true, recurses := true, apart := false }
def PhragmenRisesSaid : Prop := phragmenRisesRow.holds Tryz.pinned (OpenSpec.ofChange phragmenRisesSpec)

/-- ITS FALSE NEIGHBOUR: 'it returns false'. Refute it at one input. -/
def phragmenRisesWrong : ChangeSpec := { name := "phragmenRises", fn := fun _ => fun
  | [d1, d2] => { results := [.lit (.bool false)], args := [d1, d2] }
  | _ => none }
def PhragmenRisesWrongFalsely : Prop := phragmenRisesRow.holds Tryz.pinned (OpenSpec.ofChange phragmenRisesWrong)

/-- 'psephoslaw11.PhragmenFair': WHATEVER THE INPUT: true; the input reads as it did. -/
def phragmenFairSpec : ChangeSpec := { name := "phragmenFair", fn := fun _ => fun
  | [d1, d2] => { results := [.lit (.bool true)], args := [d1, d2] }
  | _ => none }
def phragmenFairRow : OpenClaim := { program := "ytehekjlakegkpaagreat", sum := "da7f40df31cd1343ece2f0f3536c9f2c7576f0aa54de69910307067b83b42437", func := "psephos/psephoslaw11.PhragmenFair", spec := "phragmenFair", inPlace := ["math/bits.Add64"], unfollowed := true, recurses := true, apart := false }
def PhragmenFairSaid : Prop := phragmenFairRow.holds Tryz.pinned (OpenSpec.ofChange phragmenFairSpec)

/-- ITS FALSE NEIGHBOUR: 'it returns false'. Refute it at one input. -/
def phragmenFairWrong : ChangeSpec := { name := "phragmenFair", fn := fun _ => fun
  | [d1, d2] => { results := [.lit (.bool false)], args := [d1, d2] }
  | _ => none }
def PhragmenFairWrongFalsely : Prop := phragmenFairRow.holds Tryz.pinned (OpenSpec.ofChange phragmenFairWrong)

/-- 'psephoslaw11.PhragmenSupports': WHATEVER THE INPUT: true; the input reads as it did. -/
def phragmenSupportsSpec : ChangeSpec := { name := "phragmenSupports", fn := fun _ => fun
  | [d1, d2] => { results := [.lit (.bool true)], args := [d1, d2] }
  | _ => none }
def phragmenSupportsRow : OpenClaim := { program := "ytehekjlakegkpaagreat", sum := "da7f40df31cd1343ece2f0f3536c9f2c7576f0aa54de69910307067b83b42437", func := "psephos/psephoslaw11.PhragmenSupports", spec := "phragmenSupports", inPlace := ["math/bits.Add64"], unfollowed := true, recurses := true, apart := false }
def PhragmenSupportsSaid : Prop := phragmenSupportsRow.holds Tryz.pinned (OpenSpec.ofChange phragmenSupportsSpec)

/-- ITS FALSE NEIGHBOUR: 'it returns false'. Refute it at one input. -/
def phragmenSupportsWrong : ChangeSpec := { name := "phragmenSupports", fn := fun _ => fun
  | [d1, d2] => { results := [.lit (.bool false)], args := [d1, d2] }
  | _ => none }
def PhragmenSupportsWrongFalsely : Prop := phragmenSupportsRow.holds Tryz.pinned (OpenSpec.ofChange phragmenSupportsWrong)

/-- 'psephoslaw11.PhragmenScaled': WHATEVER THE INPUT: true; the input reads as it did. -/
def phragmenScaledSpec : ChangeSpec := { name := "phragmenScaled", fn := fun _ => fun
  | [d1, d2, d3] => { results := [.lit (.bool true)], args := [d1, d2, d3] }
  | _ => none }
def phragmenScaledRow : OpenClaim := { program := "ytehekjlakegkpaagreat", sum := "da7f40df31cd1343ece2f0f3536c9f2c7576f0aa54de69910307067b83b42437", func := "psephos/psephoslaw11.PhragmenScaled", spec := "phragmenScaled", inPlace := ["math/bits.Add64"], unfollowed := true, recurses := true, apart := false }
def PhragmenScaledSaid : Prop := phragmenScaledRow.holds Tryz.pinned (OpenSpec.ofChange phragmenScaledSpec)

/-- ITS FALSE NEIGHBOUR: 'it returns false'. Refute it at one input. -/
def phragmenScaledWrong : ChangeSpec := { name := "phragmenScaled", fn := fun _ => fun
  | [d1, d2, d3] => { results := [.lit (.bool false)], args := [d1, d2, d3] }
  | _ => none }
def PhragmenScaledWrongFalsely : Prop := phragmenScaledRow.holds Tryz.pinned (OpenSpec.ofChange phragmenScaledWrong)

/-- 'psephoslaw11.PhragmenIdle': WHATEVER THE INPUT: true; the input reads as it did. -/
def phragmenIdleSpec : ChangeSpec := { name := "phragmenIdle", fn := fun _ => fun
  | [d1, d2, d3, d4] => { results := [.lit (.bool true)], args := [d1, d2, d3, d4] }
  | _ => none }
def phragmenIdleRow : OpenClaim := { program := "ytehekjlakegkpaagreat", sum := "da7f40df31cd1343ece2f0f3536c9f2c7576f0aa54de69910307067b83b42437", func := "psephos/psephoslaw11.PhragmenIdle", spec := "phragmenIdle", inPlace := ["math/bits.Add64"], unfollowed := true, recurses := true, apart := false }
def PhragmenIdleSaid : Prop := phragmenIdleRow.holds Tryz.pinned (OpenSpec.ofChange phragmenIdleSpec)

/-- ITS FALSE NEIGHBOUR: 'it returns false'. Refute it at one input. -/
def phragmenIdleWrong : ChangeSpec := { name := "phragmenIdle", fn := fun _ => fun
  | [d1, d2, d3, d4] => { results := [.lit (.bool false)], args := [d1, d2, d3, d4] }
  | _ => none }
def PhragmenIdleWrongFalsely : Prop := phragmenIdleRow.holds Tryz.pinned (OpenSpec.ofChange phragmenIdleWrong)

/-- 'psephoslaw12.BalanceTurns': WHATEVER THE INPUT: true; the input reads as it did. -/
def balanceTurnsSpec : ChangeSpec := { name := "balanceTurns", fn := fun _ => fun
  | [d1, d2] => { results := [.lit (.bool true)], args := [d1, d2] }
  | _ => none }
def balanceTurnsRow : OpenClaim := { program := "ytehekjlakegkpaagreat", sum := "da7f40df31cd1343ece2f0f3536c9f2c7576f0aa54de69910307067b83b42437", func := "psephos/psephoslaw12.BalanceTurns", spec := "balanceTurns", unfollowed := true, recurses := true, apart := false }
def BalanceTurnsSaid : Prop := balanceTurnsRow.holds Tryz.pinned (OpenSpec.ofChange balanceTurnsSpec)

/-- ITS FALSE NEIGHBOUR: 'it returns false'. Refute it at one input. -/
def balanceTurnsWrong : ChangeSpec := { name := "balanceTurns", fn := fun _ => fun
  | [d1, d2] => { results := [.lit (.bool false)], args := [d1, d2] }
  | _ => none }
def BalanceTurnsWrongFalsely : Prop := balanceTurnsRow.holds Tryz.pinned (OpenSpec.ofChange balanceTurnsWrong)

/-- 'psephoslaw12.BalanceKeeps': WHATEVER THE INPUT: true; the input reads as it did. -/
def balanceKeepsSpec : ChangeSpec := { name := "balanceKeeps", fn := fun _ => fun
  | [d1, d2, d3] => { results := [.lit (.bool true)], args := [d1, d2, d3] }
  | _ => none }
def balanceKeepsRow : OpenClaim := { program := "ytehekjlakegkpaagreat", sum := "da7f40df31cd1343ece2f0f3536c9f2c7576f0aa54de69910307067b83b42437", func := "psephos/psephoslaw12.BalanceKeeps", spec := "balanceKeeps", inPlace := ["math/bits.Add64"], unfollowed := true, recurses := true, apart := false }
def BalanceKeepsSaid : Prop := balanceKeepsRow.holds Tryz.pinned (OpenSpec.ofChange balanceKeepsSpec)

/-- ITS FALSE NEIGHBOUR: 'it returns false'. Refute it at one input. -/
def balanceKeepsWrong : ChangeSpec := { name := "balanceKeeps", fn := fun _ => fun
  | [d1, d2, d3] => { results := [.lit (.bool false)], args := [d1, d2, d3] }
  | _ => none }
def BalanceKeepsWrongFalsely : Prop := balanceKeepsRow.holds Tryz.pinned (OpenSpec.ofChange balanceKeepsWrong)

/- THE SECOND FORM. 'bulk': how many values and letters a reading holds, each counted each time it is reached (what is shared counts as often as it is met; a slice's spare places count too). A statement '..UptoSaid' is the law's where the arguments, and the package variables that the reading takes, are together of bulk at most 1048576: NARROWER than '..Said'. Prove '..Said' where nothing that the law and all that it calls make is longer than what came in: it says more and counts as full. Else prove '..UptoSaid'. A law counts once. -/
mutual
def uptoBulk {H : Type} : DataW H → Nat
  | .lit (.string bytes) => bytes.length + 1
  | .lit _ => 1
  | .nil => 1
  | .ptr d => uptoBulk d + 1
  | .slice elems spare => uptoBulkAll elems + uptoBulkAll spare + 1
  | .agg parts => uptoBulkAll parts + 1
  | .iface _ d => uptoBulk d + 1
  | .map entries => uptoBulkEntries entries + 1
  | .held _ => 1
def uptoBulkAll {H : Type} : List (DataW H) → Nat
  | [] => 0
  | d :: r => uptoBulk d + uptoBulkAll r
def uptoBulkEntries {H : Type} : List (Lit × DataW H) → Nat
  | [] => 0
  | x :: r => uptoBulkEntry x + uptoBulkEntries r
def uptoBulkEntry {H : Type} : Lit × DataW H → Nat
  | (.string bytes, d) => bytes.length + uptoBulk d + 1
  | (_, d) => uptoBulk d + 1
 end
def uptoSmall : (H : Type) → List (DataW H) → Bool := fun _ ds => decide (uptoBulkAll ds ≤ 1048576)
def OpenSpec.upto (s : _root_.Go.ChangeSpec) : _root_.Go.OpenSpec := { _root_.Go.OpenSpec.ofChange s with cond := some uptoSmall }

/-- 'psephoslaw11.PhragmenRises', WHERE WHAT IT READS IS OF BULK AT MOST 1048576: true; the input reads as it did. -/
def phragmenRisesUptoRow : OpenClaim := { program := "ytehekjlakegkpaagreat", sum := "da7f40df31cd1343ece2f0f3536c9f2c7576f0aa54de69910307067b83b42437", func := "psephos/psephoslaw11.PhragmenRises", spec := "phragmenRises", inPlace := ["math/bits.Add64"], unfollowed := true, recurses := true, apart := false, narrowed := true }
def PhragmenRisesUptoSaid : Prop := phragmenRisesUptoRow.holds Tryz.pinned (OpenSpec.upto phragmenRisesSpec)

/-- 'psephoslaw11.PhragmenFair', WHERE WHAT IT READS IS OF BULK AT MOST 1048576: true; the input reads as it did. -/
def phragmenFairUptoRow : OpenClaim := { program := "ytehekjlakegkpaagreat", sum := "da7f40df31cd1343ece2f0f3536c9f2c7576f0aa54de69910307067b83b42437", func := "psephos/psephoslaw11.PhragmenFair", spec := "phragmenFair", inPlace := ["math/bits.Add64"], unfollowed := true, recurses := true, apart := false, narrowed := true }
def PhragmenFairUptoSaid : Prop := phragmenFairUptoRow.holds Tryz.pinned (OpenSpec.upto phragmenFairSpec)

/-- 'psephoslaw11.PhragmenSupports', WHERE WHAT IT READS IS OF BULK AT MOST 1048576: true; the input reads as it did. -/
def phragmenSupportsUptoRow : OpenClaim := { program := "ytehekjlakegkpaagreat", sum := "da7f40df31cd1343ece2f0f3536c9f2c7576f0aa54de69910307067b83b42437", func := "psephos/psephoslaw11.PhragmenSupports", spec := "phragmenSupports", inPlace := ["math/bits.Add64"], unfollowed := true, recurses := true, apart := false, narrowed := true }
def PhragmenSupportsUptoSaid : Prop := phragmenSupportsUptoRow.holds Tryz.pinned (OpenSpec.upto phragmenSupportsSpec)

/-- 'psephoslaw11.PhragmenScaled', WHERE WHAT IT READS IS OF BULK AT MOST 1048576: true; the input reads as it did. -/
def phragmenScaledUptoRow : OpenClaim := { program := "ytehekjlakegkpaagreat", sum := "da7f40df31cd1343ece2f0f3536c9f2c7576f0aa54de69910307067b83b42437", func := "psephos/psephoslaw11.PhragmenScaled", spec := "phragmenScaled", inPlace := ["math/bits.Add64"], unfollowed := true, recurses := true, apart := false, narrowed := true }
def PhragmenScaledUptoSaid : Prop := phragmenScaledUptoRow.holds Tryz.pinned (OpenSpec.upto phragmenScaledSpec)

/-- 'psephoslaw11.PhragmenIdle', WHERE WHAT IT READS IS OF BULK AT MOST 1048576: true; the input reads as it did. -/
def phragmenIdleUptoRow : OpenClaim := { program := "ytehekjlakegkpaagreat", sum := "da7f40df31cd1343ece2f0f3536c9f2c7576f0aa54de69910307067b83b42437", func := "psephos/psephoslaw11.PhragmenIdle", spec := "phragmenIdle", inPlace := ["math/bits.Add64"], unfollowed := true, recurses := true, apart := false, narrowed := true }
def PhragmenIdleUptoSaid : Prop := phragmenIdleUptoRow.holds Tryz.pinned (OpenSpec.upto phragmenIdleSpec)

/-- 'psephoslaw12.BalanceTurns', WHERE WHAT IT READS IS OF BULK AT MOST 1048576: true; the input reads as it did. -/
def balanceTurnsUptoRow : OpenClaim := { program := "ytehekjlakegkpaagreat", sum := "da7f40df31cd1343ece2f0f3536c9f2c7576f0aa54de69910307067b83b42437", func := "psephos/psephoslaw12.BalanceTurns", spec := "balanceTurns", unfollowed := true, recurses := true, apart := false, narrowed := true }
def BalanceTurnsUptoSaid : Prop := balanceTurnsUptoRow.holds Tryz.pinned (OpenSpec.upto balanceTurnsSpec)

/-- 'psephoslaw12.BalanceKeeps', WHERE WHAT IT READS IS OF BULK AT MOST 1048576: true; the input reads as it did. -/
def balanceKeepsUptoRow : OpenClaim := { program := "ytehekjlakegkpaagreat", sum := "da7f40df31cd1343ece2f0f3536c9f2c7576f0aa54de69910307067b83b42437", func := "psephos/psephoslaw12.BalanceKeeps", spec := "balanceKeeps", inPlace := ["math/bits.Add64"], unfollowed := true, recurses := true, apart := false, narrowed := true }
def BalanceKeepsUptoSaid : Prop := balanceKeepsUptoRow.holds Tryz.pinned (OpenSpec.upto balanceKeepsSpec)

end Rows
end Go.Proofs.YtehekjlakegkpaaGreat
