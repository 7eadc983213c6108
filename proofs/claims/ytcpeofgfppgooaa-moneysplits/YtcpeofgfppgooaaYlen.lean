/-
  What bits.Len64 and bits.LeadingZeros64 answer for a 64-bit number that is not 0: the shift that brings its highest bit to the top. For every such number.
-/
import Derived.Test.YtcpeofgfppgooaaLz
import Derived.Test.YtcpeofgfppgooaaYadd
namespace Go.Proofs.Ytcpeofgfppgooaa
open Go.RowKit

theorem len_fin64 (k : Int) (y x : Nat) (v : Int) (h0 : 0 ≤ k) (h1 : k ≤ 56) (hv : v = (Lib.bitLen y : Int)) (hy : y ≤ 255) (hx : (Lib.bitLen x : Int) = k + (Lib.bitLen y : Int)) : wrap64 (k + wrap64 v) = (Lib.bitLen x : Int) := by
  have hl : Lib.bitLen y ≤ 8 := Lib.bitLen_le y 8 (by omega) (by omega)
  subst hv
  rw [IntWalk.wrap64_in (Lib.bitLen y : Int) ⟨by omega, by omega⟩, IntWalk.wrap64_in (k + (Lib.bitLen y : Int)) ⟨by omega, by omega⟩, hx]
set_option maxHeartbeats 4000000 in
set_option maxRecDepth 100000 in
theorem blen64_any (x : Int) (w : World) (h0 : 0 ≤ x) (h1 : x < 18446744073709551616) :
    Calls Try.prog 33 #[.int .u64 x] w fun e w' => e = .returned (.int .i64 (Lib.bitLen x.toNat)) ∧ w = w' := by
  have hs : (256 : Int) ≤ (Lib.len8tab.size : Int) := by rw [Lib.len8tab_size]; decide
  have hs' : (Lib.len8tab.size : Int) ≤ 256 := by rw [Lib.len8tab_size]; decide
  rcases Int.lt_or_le (x) 4294967296 with k2 | k2
  · rcases Int.lt_or_le (x) 65536 with k1 | k1
    · rcases Int.lt_or_le (x) 256 with k0 | k0
      · have e0 : x < 4294967296 := by omega
        have e1 : x < 65536 := by omega
        have e2 : x < 256 := by omega
        have z1 : x < (Lib.len8tab.size : Int) := by omega
        have z2 : 0 ≤ x := by omega
        go_enter Try.func33, Try.ntmps33
        go_wp2
        go_ret
        exact ⟨ret_i' (by
          have := len_fin64 0 x.toNat x.toNat _ (by omega) (by omega) (tab_at x h0 z1 (by omega)) (by omega) (by omega)
          rwa [Int.zero_add] at this), rfl⟩
      · have e0 : x < 4294967296 := by omega
        have e1 : x < 65536 := by omega
        have e2 : ¬ x < 256 := by omega
        have z1 : x / 256 < (Lib.len8tab.size : Int) := by omega
        have z2 : 0 ≤ x / 256 := by omega
        go_enter Try.func33, Try.ntmps33
        go_wp2
        go_ret
        exact ⟨ret_i' (len_fin64 8 (x / 256).toNat x.toNat _ (by omega) (by omega) (tab_at (x / 256) z2 z1 (by omega)) (by omega) (by
          rw [Lib.bitLen_shift8 x.toNat (by omega) (by omega), show x.toNat / 256 = (x / 256).toNat by omega]; omega)), rfl⟩
    · rcases Int.lt_or_le (x / 65536) 256 with k0 | k0
      · have e0 : x < 4294967296 := by omega
        have e1 : ¬ x < 65536 := by omega
        have e2 : x / 65536 < 256 := by omega
        have z1 : x / 65536 < (Lib.len8tab.size : Int) := by omega
        have z2 : 0 ≤ x / 65536 := by omega
        go_enter Try.func33, Try.ntmps33
        go_wp2
        go_ret
        exact ⟨ret_i' (len_fin64 16 (x / 65536).toNat x.toNat _ (by omega) (by omega) (tab_at (x / 65536) z2 z1 (by omega)) (by omega) (by
          rw [Lib.bitLen_shift16 x.toNat (by omega) (by omega), show x.toNat / 65536 = (x / 65536).toNat by omega]; omega)), rfl⟩
      · have e0 : x < 4294967296 := by omega
        have e1 : ¬ x < 65536 := by omega
        have e2 : ¬ x / 65536 < 256 := by omega
        have z1 : x / 65536 / 256 < (Lib.len8tab.size : Int) := by omega
        have z2 : 0 ≤ x / 65536 / 256 := by omega
        go_enter Try.func33, Try.ntmps33
        go_wp2
        go_ret
        exact ⟨ret_i' (len_fin64 24 (x / 65536 / 256).toNat x.toNat _ (by omega) (by omega) (tab_at (x / 65536 / 256) z2 z1 (by omega)) (by omega) (by
          rw [Lib.bitLen_shift24 x.toNat (by omega) (by omega), show x.toNat / 16777216 = (x / 65536 / 256).toNat by omega]; omega)), rfl⟩
  · rcases Int.lt_or_le (x / 4294967296) 65536 with k1 | k1
    · rcases Int.lt_or_le (x / 4294967296) 256 with k0 | k0
      · have e0 : ¬ x < 4294967296 := by omega
        have e1 : x / 4294967296 < 65536 := by omega
        have e2 : x / 4294967296 < 256 := by omega
        have z1 : x / 4294967296 < (Lib.len8tab.size : Int) := by omega
        have z2 : 0 ≤ x / 4294967296 := by omega
        go_enter Try.func33, Try.ntmps33
        go_wp2
        go_ret
        exact ⟨ret_i' (len_fin64 32 (x / 4294967296).toNat x.toNat _ (by omega) (by omega) (tab_at (x / 4294967296) z2 z1 (by omega)) (by omega) (by
          rw [Lib.bitLen_shift32 x.toNat (by omega) (by omega), show x.toNat / 4294967296 = (x / 4294967296).toNat by omega]; omega)), rfl⟩
      · have e0 : ¬ x < 4294967296 := by omega
        have e1 : x / 4294967296 < 65536 := by omega
        have e2 : ¬ x / 4294967296 < 256 := by omega
        have z1 : x / 4294967296 / 256 < (Lib.len8tab.size : Int) := by omega
        have z2 : 0 ≤ x / 4294967296 / 256 := by omega
        go_enter Try.func33, Try.ntmps33
        go_wp2
        go_ret
        exact ⟨ret_i' (len_fin64 40 (x / 4294967296 / 256).toNat x.toNat _ (by omega) (by omega) (tab_at (x / 4294967296 / 256) z2 z1 (by omega)) (by omega) (by
          rw [Lib.bitLen_shift40 x.toNat (by omega) (by omega), show x.toNat / 1099511627776 = (x / 4294967296 / 256).toNat by omega]; omega)), rfl⟩
    · rcases Int.lt_or_le (x / 4294967296 / 65536) 256 with k0 | k0
      · have e0 : ¬ x < 4294967296 := by omega
        have e1 : ¬ x / 4294967296 < 65536 := by omega
        have e2 : x / 4294967296 / 65536 < 256 := by omega
        have z1 : x / 4294967296 / 65536 < (Lib.len8tab.size : Int) := by omega
        have z2 : 0 ≤ x / 4294967296 / 65536 := by omega
        go_enter Try.func33, Try.ntmps33
        go_wp2
        go_ret
        exact ⟨ret_i' (len_fin64 48 (x / 4294967296 / 65536).toNat x.toNat _ (by omega) (by omega) (tab_at (x / 4294967296 / 65536) z2 z1 (by omega)) (by omega) (by
          rw [Lib.bitLen_shift48 x.toNat (by omega) (by omega), show x.toNat / 281474976710656 = (x / 4294967296 / 65536).toNat by omega]; omega)), rfl⟩
      · have e0 : ¬ x < 4294967296 := by omega
        have e1 : ¬ x / 4294967296 < 65536 := by omega
        have e2 : ¬ x / 4294967296 / 65536 < 256 := by omega
        have z1 : x / 4294967296 / 65536 / 256 < (Lib.len8tab.size : Int) := by omega
        have z2 : 0 ≤ x / 4294967296 / 65536 / 256 := by omega
        go_enter Try.func33, Try.ntmps33
        go_wp2
        go_ret
        exact ⟨ret_i' (len_fin64 56 (x / 4294967296 / 65536 / 256).toNat x.toNat _ (by omega) (by omega) (tab_at (x / 4294967296 / 65536 / 256) z2 z1 (by omega)) (by omega) (by
          rw [Lib.bitLen_shift56 x.toNat (by omega) (by omega), show x.toNat / 72057594037927936 = (x / 4294967296 / 65536 / 256).toNat by omega]; omega)), rfl⟩
/-- How many zero bits stand ahead of a 64-bit number. -/
def lz64 (x : Nat) : Nat := 64 - Lib.bitLen x
theorem lz64_facts {x : Nat} (h0 : 0 < x) (h1 : x < 18446744073709551616) : lz64 x ≤ 63 ∧ 9223372036854775808 ≤ x * 2 ^ lz64 x ∧ x * 2 ^ lz64 x < 18446744073709551616 := by
  obtain ⟨a, b, c⟩ := Lib.bitLenAux_bounds 64 x (by omega) (by omega)
  have d : Lib.bitLen x ≤ 64 := Lib.bitLen_le x 64 (by omega) (by omega)
  have e : Lib.bitLen x = Lib.bitLenAux 64 x := rfl
  unfold lz64
  rw [← e] at a b c
  generalize Lib.bitLen x = L at *
  refine ⟨by omega, ?_, ?_⟩
  · have := Nat.mul_le_mul_right (2 ^ (64 - L)) b
    rw [← Nat.pow_add, show L - 1 + (64 - L) = 63 by omega] at this
    omega
  · have := Nat.mul_lt_mul_of_pos_right c (Nat.two_pow_pos (64 - L))
    rw [← Nat.pow_add, show L + (64 - L) = 64 by omega] at this
    omega
set_option maxHeartbeats 400000 in
/-- bits.LeadingZeros64. -/
theorem lz64_any (x : Nat) (w : World) (h0 : 0 < x) (h1 : x < 18446744073709551616) :
    Calls Try.prog 27 #[.int .u64 x] w fun e w' => e = .returned (.int .i64 (lz64 x : Nat)) ∧ w = w' := by
  have d : Lib.bitLen x ≤ 64 := Lib.bitLen_le x 64 (by omega) (by omega)
  go_enter Try.func27, Try.ntmps27
  go_wp2_with fail
  refine (blen64_any (x : Int) _ (by omega) (by omega)).mono ?_
  rw [Int.toNat_natCast]
  rintro e w' ⟨rfl, rfl⟩
  go_wp2
  go_ret
  exact ⟨ret_i' (by unfold lz64; omega), rfl⟩
end Go.Proofs.Ytcpeofgfppgooaa
