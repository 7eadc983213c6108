/-
  What bits.Len32 and bits.LeadingZeros32 answer for a 32-bit number that is not 0: the shift that brings its highest bit to the top. For every such number.
-/
import Derived.Test.YteicihaigkgbnaaSmall
import Derived.Lib.BitFns
import Derived.Lib.ItoaNum
namespace Go.Proofs.Yteicihaigkgbnaa
open Go.RowKit

theorem tab_at (i : Int) (h0 : 0 ≤ i) (h1 : i < (Lib.len8tab.size : Int)) (hh : i.toNat < Lib.len8tab.size) : ((Lib.len8tab[i.toNat]'hh).toNat : Int) = (Lib.bitLen i.toNat : Int) := by
  have hs : (Lib.len8tab.size : Int) = 256 := by rw [Lib.len8tab_size]; rfl
  have := Lib.len8_of i h0 (by omega)
  rw [← this]
  unfold Lib.len8
  rw [getElem?_pos Lib.len8tab i.toNat hh]
  rfl
theorem ret_i' {a b : Int} (h : a = b) : Ending.returned (.int .i64 a) = .returned (.int .i64 b) := by rw [h]
theorem len_fin (k : Int) (y x : Nat) (v : Int) (h0 : 0 ≤ k) (h1 : k ≤ 24) (hv : v = (Lib.bitLen y : Int)) (hy : y ≤ 255) (hx : (Lib.bitLen x : Int) = k + (Lib.bitLen y : Int)) : wrap64 (k + wrap64 v) = (Lib.bitLen x : Int) := by
  have hl : Lib.bitLen y ≤ 8 := Lib.bitLen_le y 8 (by omega) (by omega)
  subst hv
  rw [IntWalk.wrap64_in (Lib.bitLen y : Int) ⟨by omega, by omega⟩, IntWalk.wrap64_in (k + (Lib.bitLen y : Int)) ⟨by omega, by omega⟩, hx]
set_option maxHeartbeats 4000000 in
set_option maxRecDepth 100000 in
theorem len32_any (x : Int) (w : World) (h0 : 0 ≤ x) (h1 : x ≤ 4294967295) :
    Calls Try.prog 91 #[.int .u32 x] w fun e w' => e = .returned (.int .i64 (Lib.bitLen x.toNat)) ∧ w = w' := by
  have hs : (256 : Int) ≤ (Lib.len8tab.size : Int) := by rw [Lib.len8tab_size]; decide
  have hs' : (Lib.len8tab.size : Int) ≤ 256 := by rw [Lib.len8tab_size]; decide
  rcases Nat.lt_or_ge x.toNat 65536 with k1 | k1
  · rcases Nat.lt_or_ge x.toNat 256 with k2 | k2
    · have e1 : x < 65536 := by omega
      have e2 : x < 256 := by omega
      have e3 : x < (Lib.len8tab.size : Int) := by omega
      go_enter Try.func91, Try.ntmps91
      go_wp2
      go_ret
      exact ⟨ret_i' (by
        have := len_fin 0 x.toNat x.toNat _ (by omega) (by omega) (tab_at x h0 e3 (by omega)) (by omega) (by omega)
        rwa [Int.zero_add] at this), rfl⟩
    · have e1 : x < 65536 := by omega
      have e2 : ¬ x < 256 := by omega
      have e3 : x / 256 < (Lib.len8tab.size : Int) := by omega
      have e4 : 0 ≤ x / 256 := by omega
      go_enter Try.func91, Try.ntmps91
      go_wp2
      go_ret
      exact ⟨ret_i' (len_fin 8 (x / 256).toNat x.toNat _ (by omega) (by omega) (tab_at (x / 256) e4 e3 (by omega)) (by omega) (by
        rw [Lib.bitLen_shift8 x.toNat (by omega) (by omega), show x.toNat / 256 = (x / 256).toNat by omega]; omega)), rfl⟩
  · rcases Nat.lt_or_ge x.toNat 16777216 with k2 | k2
    · have e1 : ¬ x < 65536 := by omega
      have e2 : x / 65536 < 256 := by omega
      have e3 : x / 65536 < (Lib.len8tab.size : Int) := by omega
      have e4 : 0 ≤ x / 65536 := by omega
      go_enter Try.func91, Try.ntmps91
      go_wp2
      go_ret
      exact ⟨ret_i' (len_fin 16 (x / 65536).toNat x.toNat _ (by omega) (by omega) (tab_at (x / 65536) e4 e3 (by omega)) (by omega) (by
        rw [Lib.bitLen_shift16 x.toNat (by omega) (by omega), show x.toNat / 65536 = (x / 65536).toNat by omega]; omega)), rfl⟩
    · have e1 : ¬ x < 65536 := by omega
      have e2 : ¬ x / 65536 < 256 := by omega
      have e3 : x / 65536 / 256 < (Lib.len8tab.size : Int) := by omega
      have e4 : 0 ≤ x / 65536 / 256 := by omega
      go_enter Try.func91, Try.ntmps91
      go_wp2
      go_ret
      exact ⟨ret_i' (len_fin 24 (x / 65536 / 256).toNat x.toNat _ (by omega) (by omega) (tab_at (x / 65536 / 256) e4 e3 (by omega)) (by omega) (by
        rw [Lib.bitLen_shift24 x.toNat (by omega) (by omega), show x.toNat / 16777216 = (x / 65536 / 256).toNat by omega]; omega)), rfl⟩

/-- How many zero bits stand ahead of a 32-bit number. -/
def lz (x : Nat) : Nat := 32 - Lib.bitLen x
theorem lz_facts {x : Nat} (h0 : 0 < x) (h1 : x < 4294967296) : lz x ≤ 31 ∧ 2147483648 ≤ x * 2 ^ lz x ∧ x * 2 ^ lz x < 4294967296 := by
  obtain ⟨a, b, c⟩ := Lib.bitLenAux_bounds 64 x (by omega) (by omega)
  have d : Lib.bitLen x ≤ 32 := Lib.bitLen_le x 32 (by omega) (by omega)
  have e : Lib.bitLen x = Lib.bitLenAux 64 x := rfl
  unfold lz
  rw [← e] at a b c
  generalize Lib.bitLen x = L at *
  refine ⟨by omega, ?_, ?_⟩
  · have := Nat.mul_le_mul_right (2 ^ (32 - L)) b
    rw [← Nat.pow_add, show L - 1 + (32 - L) = 31 by omega] at this
    omega
  · have := Nat.mul_lt_mul_of_pos_right c (Nat.two_pow_pos (32 - L))
    rw [← Nat.pow_add, show L + (32 - L) = 32 by omega] at this
    omega
set_option maxHeartbeats 400000 in
/-- bits.LeadingZeros32. -/
theorem lz_any (x : Nat) (w : World) (h0 : 0 < x) (h1 : x < 4294967296) :
    Calls Try.prog 83 #[.int .u32 x] w fun e w' => e = .returned (.int .i64 (lz x : Nat)) ∧ w = w' := by
  have d : Lib.bitLen x ≤ 32 := Lib.bitLen_le x 32 (by omega) (by omega)
  go_enter Try.func83, Try.ntmps83
  go_wp2_with fail
  refine (len32_any (x : Int) _ (by omega) (by omega)).mono ?_
  rw [Int.toNat_natCast]
  rintro e w' ⟨rfl, rfl⟩
  go_wp2
  go_ret
  exact ⟨ret_i' (by unfold lz; omega), rfl⟩
end Go.Proofs.Yteicihaigkgbnaa
