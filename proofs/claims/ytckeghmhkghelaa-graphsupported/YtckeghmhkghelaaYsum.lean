/-
  What money.Sum and the reference's Sum answer: the sum of a list, or 3 (too great). For every slice of numbers below 2^64 that can be read.
-/
import Derived.Test.YtckeghmhkghelaaYadd
namespace Go.Proofs.Ytckeghmhkghelaa
open Go.RowKit

def tot : List Nat → Nat
  | [] => 0
  | x :: xs => x + tot xs
/-- The sum, or error 3. -/
def sumM (xs : List Nat) : Nat × Nat := if tot xs < 18446744073709551616 then (tot xs, 0) else (0, 3)
theorem tot_append (xs ys : List Nat) : tot (xs ++ ys) = tot xs + tot ys := by
  induction xs with
  | nil => simp [tot]
  | cons x xs ih => simp only [List.cons_append, tot, ih]; omega
theorem tot_take_succ (xs : List Nat) (k : Nat) : tot (xs.take (k + 1)) = tot (xs.take k) + el xs k := by
  rcases Nat.lt_or_ge k xs.length with h | h
  · rw [List.take_succ_eq_append_getElem h, tot_append, el_get xs k h]; simp [tot]
  · rw [List.take_of_length_le (by omega), List.take_of_length_le h, el_ge xs k h]; rfl
theorem tot_take_le (xs : List Nat) (k : Nat) : tot (xs.take k) ≤ tot xs := by
  have := tot_append (xs.take k) (xs.drop k)
  rw [List.take_append_drop] at this
  omega

def SuRel (xs : List Nat) (n : Nat) (sv tv : Value) : Prop := ∃ k S : Nat, k ≤ n ∧ S = tot (xs.take k) ∧ S < 18446744073709551616 ∧ sv = .int .u64 (S : Int) ∧ tv = .int .i64 (k : Int)
set_option maxHeartbeats 800000 in
theorem ysum_any (A : Option Addr) (n c : Nat) (xs : List Nat) (w : World) (h : Rk .u64 w A n c xs) (hX : Bl 18446744073709551616 xs) :
    Calls Try.prog 14 #[.slice A n c] w (OutN w (sumM xs)) := by
  have HL := Lib.hid h.len
  have hcap := h.cap
  have hmax := h.max
  go_enter Try.func14, Try.ntmps14
  go_wp2_with fail
  go_loop [4, 10] (fun sv tv => SuRel xs n sv tv) (fun _ tv => n - (intOf tv).toNat)
  case atStart => exact ⟨0, 0, by omega, rfl, by omega, rfl, rfl⟩
  case round =>
    obtain ⟨k, S, hk, hS, hSl, rfl, rfl⟩ := hrel
    have HS := Lib.hid hS
    clear hS
    by_cases hlt : k < n
    · obtain ⟨b, o, rfl, hb, hc⟩ := h.at_ (by omega)
      have hcell := hc k hlt
      have he := Bl_el hX (by omega) k
      have HT := Lib.hid (tot_take_succ xs k)
      clear hc
      generalize el xs k = x at *
      go_wp2_with fail
      refine (yadd_any S x _ hSl he).mono ?_
      by_cases hs : S + x < 18446744073709551616
      · rw [show addM S x = (S + x, 0) from if_pos hs]
        rintro e w' ⟨rfl, rfl⟩
        go_wp2
        go_round
        case rel => exact ⟨k + 1, S + x, by omega, by rw [HT.out, HS.out], hs, by go_num, by go_num⟩
        case measure => simp [intOf]; omega
      · rw [show addM S x = (0, 3) from if_neg hs]
        rintro e w' ⟨rfl, rfl⟩
        go_wp2
        go_ret2
        exact ⟨by
          have := tot_take_le xs (k + 1)
          rw [HT.out, ← HS.out] at this
          rw [show sumM xs = (0, 3) from if_neg (by omega)]
          rfl, rfl⟩
    · obtain rfl : k = n := by omega
      go_wp2
      go_ret2
      exact ⟨by
        have := HS.out
        rw [List.take_of_length_le (by rw [HL.out]; exact Nat.le_refl _)] at this
        rw [show sumM xs = (S, 0) by rw [this, sumM, if_pos (by omega)]]
        rfl, rfl⟩
end Go.Proofs.Ytckeghmhkghelaa
