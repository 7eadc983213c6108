/-
  What money.Add, money.Sub, the reference's Add and Sub answer: the sum or 3 (too great), the difference or 8 (too little); and the law's awake: true. For all numbers below 2^64.
-/
import Derived.Test.YtckeghmhkghelaaBmem
import Derived.Test.YtckeghmhkghelaaProg
import Derived.Laws.Externs
namespace Go.Proofs.Ytckeghmhkghelaa
open Go.RowKit

/-- The sum, or error 3. -/
def addM (a b : Nat) : Nat × Nat := if a + b < 18446744073709551616 then (a + b, 0) else (0, 3)
/-- The difference, or error 8. -/
def subM (a b : Nat) : Nat × Nat := if b ≤ a then (a - b, 0) else (0, 8)
/-- The end of a call that gives a number and an error number, and leaves the world alone. -/
def OutN (w : World) (p : Nat × Nat) (e : Ending) (w' : World) : Prop := e = .returned (.tuple #[.int .u64 (p.1 : Nat), .int .i64 (p.2 : Nat)]) ∧ w = w'

theorem add64_run (x y : Nat) (w : World) : (callFunc 27 #[.int .u64 x, .int .u64 y, .int .u64 0]).run Try.prog w =
    .ok (.value (.tuple #[.int .u64 (((x : Int) + (y : Int)) % 18446744073709551616), .int .u64 (((x : Int) + (y : Int)) / 18446744073709551616)])) w := by
  rw [run_callFunc_extern Try.func27 (by kernel_rfl) (by kernel_rfl) (by kernel_rfl) (e := add64Entry) (by kernel_rfl), run_add64 x y 0 (by omega) (by omega) (by omega) (by omega)]
  simp only [Result.andThen, Int.add_zero]

theorem yadd_any (a b : Nat) (w : World) (ha : a < 18446744073709551616) (hb : b < 18446744073709551616) :
    Calls Try.prog 22 #[.int .u64 a, .int .u64 b] w (OutN w (addM a b)) := by
  by_cases h : a + b < 18446744073709551616
  · have h1 : (((a : Int) + (b : Int)) / 18446744073709551616 == 0) = true := by simp; omega
    have e : addM a b = (a + b, 0) := if_pos h
    rw [e]
    clear e
    go_enter Try.func22, Try.ntmps22
    go_wp2_with (simp only [add64_run])
    go_ret2
    exact ⟨by congr 5; simp; omega, rfl⟩
  · have h1 : (((a : Int) + (b : Int)) / 18446744073709551616 == 0) = false := by simp; omega
    have e : addM a b = (0, 3) := if_neg h
    rw [e]
    clear e
    go_enter Try.func22, Try.ntmps22
    go_wp2_with (simp only [add64_run])
    go_ret2
    exact ⟨rfl, rfl⟩
end Go.Proofs.Ytckeghmhkghelaa
