/-
  What limb.trimmed does: of a slice that reads as xs it gives the first limbs, the list of the number that xs stands for; the world stays. For every slice that can be read.
-/
import Derived.Test.YtcpeofgfppgooaaProg
import Derived.Test.YtcpeofgfppgooaaMem
namespace Go.Proofs.Ytcpeofgfppgooaa
open Go.RowKit

def TrimP (w : World) (A : Option Addr) (n c : Nat) (xs : List Nat) (e : Ending) (w' : World) : Prop :=
  ∃ k, e = .returned (.slice A k c) ∧ k ≤ n ∧ xs.take k = digs (val xs) ∧ w = w'

end Go.Proofs.Ytcpeofgfppgooaa
