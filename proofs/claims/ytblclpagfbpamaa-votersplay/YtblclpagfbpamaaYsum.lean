/-
  What money.Sum and the reference's Sum answer: the sum of a list, or 3 (too great). For every slice of numbers below 2^64 that can be read.
-/
import Derived.Test.YtblclpagfbpamaaYadd
namespace Go.Proofs.Ytblclpagfbpamaa
open Go.RowKit

def tot : List Nat → Nat
  | [] => 0
  | x :: xs => x + tot xs
/-- The sum, or error 3. -/
def sumM (xs : List Nat) : Nat × Nat := if tot xs < 18446744073709551616 then (tot xs, 0) else (0, 3)
theorem tot_append (xs ys : List Nat) : tot (xs ++ ys) = tot xs + tot ys := by
  induction xs with
  | nil => simp [tot]
  | cons x xs ih => simp only [List.cons_append, tot, ih]; omega
theorem tot_take_succ (xs : List Nat) (k : Nat) : tot (xs.take (k + 1)) = tot (xs.take k) + el xs k := by
  rcases Nat.lt_or_ge k xs.length with h | h
  · rw [List.take_succ_eq_append_getElem h, tot_append, el_get xs k h]; simp [tot]
  · rw [List.take_of_length_le (by omega), List.take_of_length_le h, el_ge xs k h]; rfl
theorem tot_take_le (xs : List Nat) (k : Nat) : tot (xs.take k) ≤ tot xs := by
  have := tot_append (xs.take k) (xs.drop k)
  rw [List.take_append_drop] at this
  omega

def SuRel (xs : List Nat) (n : Nat) (sv tv : Value) : Prop := ∃ k S : Nat, k ≤ n ∧ S = tot (xs.take k) ∧ S < 18446744073709551616 ∧ sv = .int .u64 (S : Int) ∧ tv = .int .i64 (k : Int)
end Go.Proofs.Ytblclpagfbpamaa
