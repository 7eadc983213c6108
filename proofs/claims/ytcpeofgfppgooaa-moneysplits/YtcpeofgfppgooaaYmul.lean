/-
  What bits.Mul64, money.Square answer: the two halves of the product. For all numbers below 2^64.
-/
import Derived.Test.YtcpeofgfppgooaaYadd
import Derived.Lib.Mul64
import Derived.Laws.Bits64b
namespace Go.Proofs.Ytcpeofgfppgooaa
open Go.RowKit

/-- The lower half of a word. -/
theorem and_low (a : Nat) (ha : a < 18446744073709551616) : bits .and .u64 (a : Int) 4294967295 = ((a % 4294967296 : Nat) : Int) := by
  have h := bits_and_u64_nat a 4294967295 ha (by omega)
  rw [show a &&& 4294967295 = a % 4294967296 from Nat.and_two_pow_sub_one_eq_mod a 32] at h
  exact h
theorem half_cast (a : Nat) : (a : Int) / 4294967296 = ((a / 4294967296 : Nat) : Int) := by omega
theorem wrap_fits (a : Nat) (ha : a < 18446744073709551616) : IntKind.u64.wrap (a : Int) = (a : Int) := by rw [IntKind.wrap_u64]; omega
theorem wrap_low (a : Nat) : IntKind.u64.wrap (a : Int) = ((a % 18446744073709551616 : Nat) : Int) := by rw [IntKind.wrap_u64]; omega
/-- The end of a call that gives two numbers, and leaves the world alone. -/
def OutP (w : World) (a b : Nat) (e : Ending) (w' : World) : Prop := e = .returned (.tuple #[.int .u64 (a : Int), .int .u64 (b : Int)]) ∧ w = w'
set_option maxHeartbeats 1000000 in
theorem mul64_any (x y : Nat) (w : World) (hx : x < 18446744073709551616) (hy : y < 18446744073709551616) :
    Calls Try.prog 21 #[.int .u64 x, .int .u64 y] w (OutP w (x * y / 18446744073709551616) (x * y % 18446744073709551616)) := by
  obtain ⟨b1, b2, b3, hh⟩ := Lib.mul64_hi x y hx hy
  have m1 := Lib.half_mul_le (a := x / 4294967296) (b := y / 4294967296) (by omega) (by omega)
  have m2 := Lib.half_mul_le (a := x / 4294967296) (b := y % 4294967296) (by omega) (by omega)
  have m3 := Lib.half_mul_le (a := x % 4294967296) (b := y / 4294967296) (by omega) (by omega)
  have n1 : x / 4294967296 * (y / 4294967296) < 18446744073709551616 := by omega
  have n2 : x / 4294967296 * (y % 4294967296) < 18446744073709551616 := by omega
  have n3 : x % 4294967296 * (y / 4294967296) < 18446744073709551616 := by omega
  have n4 : x / 4294967296 * (y / 4294967296) + (x / 4294967296 * (y % 4294967296) + x % 4294967296 * (y % 4294967296) / 4294967296) / 4294967296 < 18446744073709551616 := by omega
  have n5 : x / 4294967296 * (y / 4294967296) + (x / 4294967296 * (y % 4294967296) + x % 4294967296 * (y % 4294967296) / 4294967296) / 4294967296 + ((x / 4294967296 * (y % 4294967296) + x % 4294967296 * (y % 4294967296) / 4294967296) % 4294967296 + x % 4294967296 * (y / 4294967296)) / 4294967296 < 18446744073709551616 := by omega
  go_enter Try.func21, Try.ntmps21
  go_wp2
  simp only [and_low x hx, and_low y hy, half_cast, ← Int.natCast_mul, ← Int.natCast_add, wrap_fits _ b1, wrap_fits _ n2, wrap_fits _ b2, and_low _ b2, wrap_fits _ n3, wrap_fits _ b3, wrap_fits _ n1, wrap_fits _ n4, wrap_fits _ n5, wrap_low (x * y)]
  rw [hh]
  go_ret2
  exact ⟨rfl, rfl⟩
theorem ysq_any (a : Nat) (w : World) (ha : a < 18446744073709551616) :
    Calls Try.prog 15 #[.int .u64 a] w (OutP w (a * a / 18446744073709551616) (a * a % 18446744073709551616)) := by
  obtain ⟨u, hu⟩ : ∃ u, a * a / 18446744073709551616 = u := ⟨_, rfl⟩
  obtain ⟨v, hv⟩ : ∃ v, a * a % 18446744073709551616 = v := ⟨_, rfl⟩
  have h := mul64_any a a w ha ha
  rw [hu, hv] at *
  clear hu hv
  go_enter Try.func15, Try.ntmps15
  go_wp2_with fail
  refine h.mono ?_
  rintro e w' ⟨rfl, rfl⟩
  go_wp2
  go_ret2
  exact ⟨rfl, rfl⟩
end Go.Proofs.Ytcpeofgfppgooaa
