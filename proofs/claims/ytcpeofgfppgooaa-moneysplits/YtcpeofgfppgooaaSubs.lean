/-
  What limb.Sub, limb.Cmp and the reference's Sub and Cmp do. For slices that can be read.
-/
import Derived.Test.YtcpeofgfppgooaaRsub
namespace Go.Proofs.Ytcpeofgfppgooaa
open Go.RowKit

theorem cmpN_ge {a b : Nat} (h : b ≤ a) : ¬ cmpN a b < 0 := by
  rcases Nat.eq_or_lt_of_le h with e | e
  · subst e; rw [cmpN_eq]; omega
  · rw [cmpN_gt e]; omega
/-- The document's difference: the natural and the error. -/
def subR (xs ys : List Nat) : List Nat × Int :=
  if fmB xs && fmB ys then (if val xs < val ys then ([], 3) else (digs (val xs - val ys), 0)) else ([], 1)
/-- The document's comparison. -/
def cmpR (xs ys : List Nat) : Int := if fmB xs && fmB ys then cmpN (val xs) (val ys) else 0

end Go.Proofs.Ytcpeofgfppgooaa
