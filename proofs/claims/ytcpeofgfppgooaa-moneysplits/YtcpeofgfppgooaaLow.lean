/-
  What limb.low and limb.Low do. For slices that can be read.
-/
import Derived.Test.YtcpeofgfppgooaaSmall
import Derived.Laws.BitsAllLaws
namespace Go.Proofs.Ytcpeofgfppgooaa
open Go.RowKit

theorem or_hi (z x : Nat) (hz : z < 4294967296) (hx : x < 4294967296) : bits .or .u64 (z : Int) ((x : Int) * 4294967296) = ((z + 4294967296 * x : Nat) : Int) := by
  rw [show ((x : Int) * 4294967296) = ((x * 4294967296 : Nat) : Int) by omega, u64_or_nat _ _ (by omega) (by omega), Nat.or_comm, nat_join 32 _ _ (by omega) (by omega)]
  congr 1; omega
theorem or_lo (z x : Nat) (hz : z < 4294967296) (hx : x < 4294967296) : bits .or .u64 ((x : Int) * 4294967296) (z : Int) = ((z + 4294967296 * x : Nat) : Int) := by
  rw [show ((x : Int) * 4294967296) = ((x * 4294967296 : Nat) : Int) by omega, u64_or_nat _ _ (by omega) (by omega), nat_join 32 _ _ (by omega) (by omega)]
  congr 1; omega
theorem or_zero (x : Nat) (hx : x < 18446744073709551616) : bits .or .u64 0 (x : Int) = x := by
  have := u64_or_nat 0 x (by omega) hx
  simpa using this
theorem val_take_one (xs : List Nat) : val (xs.take 1) = el xs 0 := by
  have := val_take_step xs 0
  simpa [val, pw] using this
theorem val_take_two (xs : List Nat) : val (xs.take 2) = el xs 0 + 4294967296 * el xs 1 := by
  have := val_take_step xs 1
  rw [val_take_one] at this
  simpa [pw] using this

/-- The document's Low. -/
def lowR (xs : List Nat) : Nat × Bool := if fmB xs && decide (xs.length ≤ 2) then (val xs, true) else (0, false)
end Go.Proofs.Ytcpeofgfppgooaa
