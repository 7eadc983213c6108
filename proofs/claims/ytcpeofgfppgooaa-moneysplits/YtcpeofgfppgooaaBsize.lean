/-
  What bits.Len64, compact.Size, compact.statedSize and the reference's size do. Len64 for numbers of at least 2^30; the others for all.
-/
import Derived.Test.YtcpeofgfppgooaaBmem
import Derived.Test.YtcpeofgfppgooaaProg
import Derived.Lib.BitFns
import Derived.Lib.ItoaNum
import Derived.Laws.BitsAllLaws
namespace Go.Proofs.Ytcpeofgfppgooaa
open Go.RowKit

theorem tabAt (i : Int) (h0 : 0 ≤ i) (h1 : i < (Lib.len8tab.size : Int)) (hh : i.toNat < Lib.len8tab.size) : ((Lib.len8tab[i.toNat]'hh).toNat : Int) = (Lib.bitLen i.toNat : Int) := by
  have hs : (Lib.len8tab.size : Int) = 256 := by rw [Lib.len8tab_size]; rfl
  have := Lib.len8_of i h0 (by omega)
  rw [← this]
  unfold Lib.len8
  rw [getElem?_pos Lib.len8tab i.toNat hh]
  rfl
theorem retI {a b : Int} (h : a = b) : Ending.returned (.int .i64 a) = .returned (.int .i64 b) := by rw [h]
theorem retU {a b : Int} (h : a = b) : Ending.returned (.int .u64 a) = .returned (.int .u64 b) := by rw [h]
theorem retB {a b : Bool} (h : a = b) : Ending.returned (.bool a) = .returned (.bool b) := by rw [h]
theorem lenFin (k : Int) (y x : Nat) (v : Int) (h0 : 0 ≤ k) (h1 : k ≤ 56) (hv : v = (Lib.bitLen y : Int)) (hy : y ≤ 255) (hx : (Lib.bitLen x : Int) = k + (Lib.bitLen y : Int)) : wrap64 (k + wrap64 v) = (Lib.bitLen x : Int) := by
  have hl : Lib.bitLen y ≤ 8 := Lib.bitLen_le y 8 (by omega) (by omega)
  subst hv
  rw [IntWalk.wrap64_in (Lib.bitLen y : Int) ⟨by omega, by omega⟩, IntWalk.wrap64_in (k + (Lib.bitLen y : Int)) ⟨by omega, by omega⟩, hx]
set_option maxHeartbeats 4000000 in
set_option maxRecDepth 100000 in
theorem len64_any (x : Int) (w : World) (h0 : 1073741824 ≤ x) (h1 : x ≤ 18446744073709551615) :
    Calls Try.prog 33 #[.int .u64 x] w fun e w' => e = .returned (.int .i64 (Lib.bitLen x.toNat)) ∧ w = w' := by
  have hs : (256 : Int) ≤ (Lib.len8tab.size : Int) := by rw [Lib.len8tab_size]; decide
  have hs' : (Lib.len8tab.size : Int) ≤ 256 := by rw [Lib.len8tab_size]; decide
  rcases Nat.lt_or_ge x.toNat 4294967296 with k1 | k1
  · have e1 : x < 4294967296 := by omega
    have e2 : ¬ x < 65536 := by omega
    have e2' : ¬ x / 65536 < 256 := by omega
    have e3 : x / 65536 / 256 < (Lib.len8tab.size : Int) := by omega
    have e4 : 0 ≤ x / 65536 / 256 := by omega
    go_enter Try.func33, Try.ntmps33
    go_wp2
    go_ret
    exact ⟨retI (lenFin 24 (x / 65536 / 256).toNat x.toNat _ (by omega) (by omega) (tabAt (x / 65536 / 256) e4 e3 (by omega)) (by omega) (by
      rw [Lib.bitLen_shift24 x.toNat (by omega) (by omega), show x.toNat / 16777216 = (x / 65536 / 256).toNat by omega]; omega)), rfl⟩
  · have e1 : ¬ x < 4294967296 := by omega
    rcases Nat.lt_or_ge x.toNat 281474976710656 with k2 | k2
    · have e2 : x / 4294967296 < 65536 := by omega
      rcases Nat.lt_or_ge x.toNat 1099511627776 with k3 | k3
      · have e2' : x / 4294967296 < 256 := by omega
        have e3 : x / 4294967296 < (Lib.len8tab.size : Int) := by omega
        have e4 : 0 ≤ x / 4294967296 := by omega
        go_enter Try.func33, Try.ntmps33
        go_wp2
        go_ret
        exact ⟨retI (lenFin 32 (x / 4294967296).toNat x.toNat _ (by omega) (by omega) (tabAt (x / 4294967296) e4 e3 (by omega)) (by omega) (by
          rw [Lib.bitLen_shift32 x.toNat (by omega) (by omega), show x.toNat / 4294967296 = (x / 4294967296).toNat by omega]; omega)), rfl⟩
      · have e2' : ¬ x / 4294967296 < 256 := by omega
        have e3 : x / 4294967296 / 256 < (Lib.len8tab.size : Int) := by omega
        have e4 : 0 ≤ x / 4294967296 / 256 := by omega
        go_enter Try.func33, Try.ntmps33
        go_wp2
        go_ret
        exact ⟨retI (lenFin 40 (x / 4294967296 / 256).toNat x.toNat _ (by omega) (by omega) (tabAt (x / 4294967296 / 256) e4 e3 (by omega)) (by omega) (by
          rw [Lib.bitLen_shift40 x.toNat (by omega) (by omega), show x.toNat / 1099511627776 = (x / 4294967296 / 256).toNat by omega]; omega)), rfl⟩
    · have e2 : ¬ x / 4294967296 < 65536 := by omega
      rcases Nat.lt_or_ge x.toNat 72057594037927936 with k3 | k3
      · have e2' : x / 4294967296 / 65536 < 256 := by omega
        have e3 : x / 4294967296 / 65536 < (Lib.len8tab.size : Int) := by omega
        have e4 : 0 ≤ x / 4294967296 / 65536 := by omega
        go_enter Try.func33, Try.ntmps33
        go_wp2
        go_ret
        exact ⟨retI (lenFin 48 (x / 4294967296 / 65536).toNat x.toNat _ (by omega) (by omega) (tabAt (x / 4294967296 / 65536) e4 e3 (by omega)) (by omega) (by
          rw [Lib.bitLen_shift48 x.toNat (by omega) (by omega), show x.toNat / 281474976710656 = (x / 4294967296 / 65536).toNat by omega]; omega)), rfl⟩
      · have e2' : ¬ x / 4294967296 / 65536 < 256 := by omega
        have e3 : x / 4294967296 / 65536 / 256 < (Lib.len8tab.size : Int) := by omega
        have e4 : 0 ≤ x / 4294967296 / 65536 / 256 := by omega
        go_enter Try.func33, Try.ntmps33
        go_wp2
        go_ret
        exact ⟨retI (lenFin 56 (x / 4294967296 / 65536 / 256).toNat x.toNat _ (by omega) (by omega) (tabAt (x / 4294967296 / 65536 / 256) e4 e3 (by omega)) (by omega) (by
          rw [Lib.bitLen_shift56 x.toNat (by omega) (by omega), show x.toNat / 72057594037927936 = (x / 4294967296 / 65536 / 256).toNat by omega]; omega)), rfl⟩
/-- How many bytes, out of how many bits. -/
theorem bits_bytes {n : Nat} (h0 : 1073741824 ≤ n) (h1 : n < 18446744073709551616) : Lib.bitLen n ≤ 64 ∧ (Lib.bitLen n + 7) / 8 = bn n := by
  obtain ⟨a, b, c⟩ := Lib.bitLenAux_bounds 64 n (by omega) (by omega)
  have e : Lib.bitLen n = Lib.bitLenAux 64 n := rfl
  rw [← e] at a b c
  have d : Lib.bitLen n ≤ 64 := Lib.bitLen_le n 64 (by omega) (by omega)
  refine ⟨d, ?_⟩
  generalize Lib.bitLen n = L at *
  have lo : ∀ k, n < 2 ^ k → L ≤ k := fun k hk => by
    rcases Nat.lt_or_ge k L with hl | hl
    · have := Nat.pow_le_pow_right (show 0 < 2 by omega) (show k ≤ L - 1 by omega); omega
    · exact hl
  have hi : ∀ k, 2 ^ k ≤ n → k < L := fun k hk => by
    rcases Nat.lt_or_ge k L with hl | hl
    · exact hl
    · have := Nat.pow_le_pow_right (show 0 < 2 by omega) hl; omega
  have g30 := hi 30 (by omega)
  unfold bn
  repeat' split
  · have := lo 32 (by omega); omega
  · have := lo 40 (by omega); have := hi 32 (by omega); omega
  · have := lo 48 (by omega); have := hi 40 (by omega); omega
  · have := lo 56 (by omega); have := hi 48 (by omega); omega
  · have := hi 56 (by omega); omega
theorem and3 (x : Nat) (h : x < 256) : bits .and .u8 (x : Int) 3 = ((x % 4 : Nat) : Int) := by
  have := u8_and_nat x 3 h (by omega)
  rw [show x &&& 3 = x % 4 from Nat.and_two_pow_sub_one_eq_mod x 2] at this
  exact this
end Go.Proofs.Ytcpeofgfppgooaa
