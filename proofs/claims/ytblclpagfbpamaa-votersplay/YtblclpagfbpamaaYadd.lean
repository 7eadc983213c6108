/-
  What money.Add, money.Sub, the reference's Add and Sub answer: the sum or 3 (too great), the difference or 8 (too little); and the law's awake: true. For all numbers below 2^64.
-/
import Derived.Test.YtblclpagfbpamaaBmem
import Derived.Test.YtblclpagfbpamaaProg
import Derived.Laws.Externs
namespace Go.Proofs.Ytblclpagfbpamaa
open Go.RowKit

/-- The sum, or error 3. -/
def addM (a b : Nat) : Nat × Nat := if a + b < 18446744073709551616 then (a + b, 0) else (0, 3)
/-- The difference, or error 8. -/
def subM (a b : Nat) : Nat × Nat := if b ≤ a then (a - b, 0) else (0, 8)
/-- The end of a call that gives a number and an error number, and leaves the world alone. -/
def OutN (w : World) (p : Nat × Nat) (e : Ending) (w' : World) : Prop := e = .returned (.tuple #[.int .u64 (p.1 : Nat), .int .i64 (p.2 : Nat)]) ∧ w = w'

end Go.Proofs.Ytblclpagfbpamaa
