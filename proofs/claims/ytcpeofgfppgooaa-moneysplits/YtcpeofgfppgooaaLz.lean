/-
  What bits.Len32 and bits.LeadingZeros32 answer for a 32-bit number that is not 0: the shift that brings its highest bit to the top. For every such number.
-/
import Derived.Test.YtcpeofgfppgooaaSmall
import Derived.Lib.BitFns
import Derived.Lib.ItoaNum
namespace Go.Proofs.Ytcpeofgfppgooaa
open Go.RowKit

theorem tab_at (i : Int) (h0 : 0 ≤ i) (h1 : i < (Lib.len8tab.size : Int)) (hh : i.toNat < Lib.len8tab.size) : ((Lib.len8tab[i.toNat]'hh).toNat : Int) = (Lib.bitLen i.toNat : Int) := by
  have hs : (Lib.len8tab.size : Int) = 256 := by rw [Lib.len8tab_size]; rfl
  have := Lib.len8_of i h0 (by omega)
  rw [← this]
  unfold Lib.len8
  rw [getElem?_pos Lib.len8tab i.toNat hh]
  rfl
theorem ret_i' {a b : Int} (h : a = b) : Ending.returned (.int .i64 a) = .returned (.int .i64 b) := by rw [h]
theorem len_fin (k : Int) (y x : Nat) (v : Int) (h0 : 0 ≤ k) (h1 : k ≤ 24) (hv : v = (Lib.bitLen y : Int)) (hy : y ≤ 255) (hx : (Lib.bitLen x : Int) = k + (Lib.bitLen y : Int)) : wrap64 (k + wrap64 v) = (Lib.bitLen x : Int) := by
  have hl : Lib.bitLen y ≤ 8 := Lib.bitLen_le y 8 (by omega) (by omega)
  subst hv
  rw [IntWalk.wrap64_in (Lib.bitLen y : Int) ⟨by omega, by omega⟩, IntWalk.wrap64_in (k + (Lib.bitLen y : Int)) ⟨by omega, by omega⟩, hx]
/-- How many zero bits stand ahead of a 32-bit number. -/
def lz (x : Nat) : Nat := 32 - Lib.bitLen x
theorem lz_facts {x : Nat} (h0 : 0 < x) (h1 : x < 4294967296) : lz x ≤ 31 ∧ 2147483648 ≤ x * 2 ^ lz x ∧ x * 2 ^ lz x < 4294967296 := by
  obtain ⟨a, b, c⟩ := Lib.bitLenAux_bounds 64 x (by omega) (by omega)
  have d : Lib.bitLen x ≤ 32 := Lib.bitLen_le x 32 (by omega) (by omega)
  have e : Lib.bitLen x = Lib.bitLenAux 64 x := rfl
  unfold lz
  rw [← e] at a b c
  generalize Lib.bitLen x = L at *
  refine ⟨by omega, ?_, ?_⟩
  · have := Nat.mul_le_mul_right (2 ^ (32 - L)) b
    rw [← Nat.pow_add, show L - 1 + (32 - L) = 31 by omega] at this
    omega
  · have := Nat.mul_lt_mul_of_pos_right c (Nat.two_pow_pos (32 - L))
    rw [← Nat.pow_add, show L + (32 - L) = 32 by omega] at this
    omega
end Go.Proofs.Ytcpeofgfppgooaa
