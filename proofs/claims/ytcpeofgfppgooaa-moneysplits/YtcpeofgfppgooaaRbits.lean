/-
  What the reference's bits does: how many bits a natural has. For slices that can be read, of at most 900000 limbs.
-/
import Derived.Test.YtcpeofgfppgooaaShift
import Derived.Test.YtcpeofgfppgooaaKnuth
namespace Go.Proofs.Ytcpeofgfppgooaa
open Go.RowKit

theorem and_bit (e r : Nat) (he : e < 4294967296) : bits .and .u32 ((e : Int) / 2 ^ r) 1 = ((e / 2 ^ r % 2 : Nat) : Int) := by
  have e1 : ((e : Int) / 2 ^ r) = ((e / 2 ^ r : Nat) : Int) := by rw [Int.natCast_ediv, Int.natCast_pow]; rfl
  have h1 : e / 2 ^ r < 4294967296 := Nat.lt_of_le_of_lt (Nat.div_le_self _ _) he
  rw [e1]
  have := u32_and_nat (e / 2 ^ r) 1 h1 (by omega)
  rw [nat_mask1] at this
  exact this
/-- A limb's bit is the number's. -/
theorem bit_at (xs : List Nat) (hL : Lim xs) (j r : Nat) (hr : r ≤ 31) : val xs / 2 ^ (32 * j + r) % 2 = el xs j / 2 ^ r % 2 := by
  have h1 : val xs = val (xs.take j) + pw j * (el xs j + 4294967296 * val (xs.drop (j + 1))) := by
    rw [← val_drop_any]
    rcases Nat.lt_or_ge xs.length j with h | h
    · rw [val_take_ge xs j (by omega), List.drop_of_length_le (by omega)]; simp [val]
    · exact val_take_drop xs j h
  have h2 := val_take_lt hL j
  have h3 : val xs / pw j = el xs j + 4294967296 * val (xs.drop (j + 1)) := by
    rw [h1, Nat.add_mul_div_left _ _ (pw_pos j), Nat.div_eq_of_lt h2, Nat.zero_add]
  rw [Nat.pow_add, ← pw_two, ← Nat.div_div_eq_div_mul, h3]
  have h4 : 4294967296 = 2 ^ r * (2 * 2 ^ (31 - r)) := by
    rw [← Nat.pow_succ', ← Nat.pow_add, show r + (31 - r + 1) = 32 by omega]
  rw [h4, Nat.mul_assoc, Nat.add_mul_div_left _ _ (Nat.two_pow_pos r), Nat.mul_assoc 2, Nat.add_mul_mod_self_left]
theorem bit_zero {v k : Nat} (h : v < 2 ^ k) (hk : k ≠ 0) : (v / 2 ^ (k - 1) % 2 = 0 ∧ v < 2 ^ (k - 1)) ∨ (v / 2 ^ (k - 1) % 2 = 1 ∧ 2 ^ (k - 1) ≤ v) := by
  have hp := Nat.two_pow_pos (k - 1)
  have e : 2 ^ k = 2 ^ (k - 1) * 2 := by rw [← Nat.pow_succ]; congr 1; omega
  rcases Nat.lt_or_ge v (2 ^ (k - 1)) with hh | hh
  · left; exact ⟨by rw [Nat.div_eq_of_lt hh], hh⟩
  · right
    have : v / 2 ^ (k - 1) = 1 := by
      have h1 : v / 2 ^ (k - 1) < 2 := by rw [Nat.div_lt_iff_lt_mul hp, Nat.mul_comm, ← e]; exact h
      have h2 : 1 ≤ v / 2 ^ (k - 1) := by rw [Nat.le_div_iff_mul_le hp]; omega
      omega
    exact ⟨by rw [this], hh⟩
/-- How many bits: k. -/
def BitsP (w : World) (n v : Nat) (e : Ending) (w' : World) : Prop :=
  ∃ k : Nat, e = .returned (.int .i64 k) ∧ k ≤ 32 * n ∧ v < 2 ^ k ∧ (k = 0 ∨ 2 ^ (k - 1) ≤ v) ∧ w = w'

set_option maxHeartbeats 800000 in
/-- The reference's bits. -/
theorem rbits_any (A : Option Addr) (n c : Nat) (xs : List Nat) (w : World) (ha : Rd w A n c xs) (hn : n ≤ 900000) :
    Calls Try.prog 34 #[.slice A n c] w (BitsP w n (val xs)) := by
  have HX := Lib.hid ha.len
  go_enter Try.func34, Try.ntmps34
  go_wp2
  go_loop [3] (fun t => ∃ k : Nat, k ≤ 32 * n ∧ t = .int .i64 k ∧ Hid (val xs < 2 ^ k)) (fun t => (intOf t).toNat)
  case atStart => exact ⟨32 * n, Nat.le_refl _, by go_num, by show val xs < 2 ^ (32 * n); rw [← pw_two, ← HX.out]; exact val_lt ha.lim⟩
  case round =>
    obtain ⟨k, hk, rfl, hlt⟩ := hrel
    by_cases hk0 : k = 0
    · subst hk0
      go_wp2
      go_ret
      exact ⟨0, rfl, Nat.zero_le _, hlt.out, .inl rfl, rfl⟩
    · obtain ⟨b, o, rfl, hbb, hcA⟩ := ha.at_ (by omega)
      have hcx := hcA ((k - 1) / 32) (by omega)
      have hxk := el_lt ha.lim ((k - 1) / 32)
      clear hcA
      have hpos : (0 : Int) < (k : Int) := by omega
      have hand := and_bit (el xs ((k - 1) / 32)) ((k - 1) % 32) hxk
      rw [← bit_at xs ha.lim ((k - 1) / 32) ((k - 1) % 32) (by omega), show 32 * ((k - 1) / 32) + (k - 1) % 32 = k - 1 by omega] at hand
      rcases bit_zero hlt.out hk0 with ⟨h1, h2⟩ | ⟨h1, h2⟩
      · rw [h1] at hand
        have HV := Lib.hid h2
        clear h1 h2
        simp only [Int.ofNat_zero] at hand
        go_wp2
        go_round
        case rel => exact ⟨k - 1, by omega, by go_num, HV.out⟩
        case measure => simp [intOf]; omega
      · rw [h1] at hand
        have HV := Lib.hid h2
        clear h1 h2
        have hand' : bits .and .u32 (((el xs ((k - 1) / 32) : Nat) : Int) / 2 ^ ((k - 1) % 32)) 1 = 1 := hand
        clear hand
        go_wp2
        go_ret
        exact ⟨k, rfl, hk, hlt.out, .inr HV.out, rfl⟩
end Go.Proofs.Ytcpeofgfppgooaa
