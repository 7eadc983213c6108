/-
  Plain mathematics of a split: each part is a times its share, divided by the sum, rounded down; together they are at most a, and less than one for each share is left. No program is in sight here.
-/
import Derived.Test.YtcpeofgfppgooaaYsum
namespace Go.Proofs.Ytcpeofgfppgooaa

/-- The parts. -/
def prts (a S : Nat) (xs : List Nat) : List Nat := xs.map fun x => a * x / S
theorem prts_len (a S : Nat) (xs : List Nat) : (prts a S xs).length = xs.length := by simp [prts]
theorem prts_el (a S : Nat) (xs : List Nat) {j : Nat} (h : j < xs.length) : el (prts a S xs) j = a * el xs j / S := by
  rw [el_get _ _ (by rw [prts_len]; exact h), el_get _ _ h]; simp [prts]
theorem prts_sum (a S : Nat) (hS : 0 < S) (xs : List Nat) : S * tot (prts a S xs) ≤ a * tot xs ∧ a * tot xs ≤ S * tot (prts a S xs) + xs.length * (S - 1) := by
  induction xs with
  | nil => simp [prts, tot]
  | cons x xs ih =>
    have e : prts a S (x :: xs) = a * x / S :: prts a S xs := rfl
    rw [e]
    simp only [tot, List.length_cons]
    have h1 := Nat.div_add_mod (a * x) S
    have h2 := Nat.mod_lt (a * x) hS
    rw [Nat.mul_add, Nat.mul_add, Nat.add_mul, Nat.one_mul]
    omega
theorem prts_le {a S : Nat} {xs : List Nat} (hS : 0 < S) (h : tot xs = S) : tot (prts a S xs) ≤ a := by
  have := (prts_sum a S hS xs).1
  rw [h, Nat.mul_comm a S] at this
  exact Nat.le_of_mul_le_mul_left this hS
theorem prts_left {a S : Nat} {xs : List Nat} (hS : 0 < S) (h : tot xs = S) : a - tot (prts a S xs) < xs.length := by
  have h1 := (prts_sum a S hS xs).2
  have hl : 0 < xs.length := by
    rcases xs with _ | ⟨x, xs⟩
    · simp [tot] at h; omega
    · simp
  rw [h] at h1
  rcases Nat.lt_or_ge (a - tot (prts a S xs)) xs.length with hh | hh
  · exact hh
  · exfalso
    have h2 : tot (prts a S xs) + xs.length ≤ a := by omega
    have h3 : S * (tot (prts a S xs) + xs.length) ≤ S * a := Nat.mul_le_mul_left _ h2
    have h4 : xs.length * (S - 1) + xs.length = S * xs.length := by
      rw [← Nat.mul_succ, Nat.mul_comm, show (S - 1).succ = S by omega]
    rw [Nat.mul_add, Nat.mul_comm S a] at h3
    omega
theorem el_le_tot (xs : List Nat) (j : Nat) : el xs j ≤ tot xs := by
  have h1 := tot_take_succ xs j
  have h2 := tot_take_le xs (j + 1)
  omega
theorem prt_le {a S x : Nat} (hS : 0 < S) (hx : x ≤ S) : a * x / S ≤ a := by
  rw [Nat.div_le_iff_le_mul_add_pred hS]
  have : a * x ≤ a * S := Nat.mul_le_mul_left _ hx
  rw [Nat.mul_comm S a]
  omega
end Go.Proofs.Ytcpeofgfppgooaa
