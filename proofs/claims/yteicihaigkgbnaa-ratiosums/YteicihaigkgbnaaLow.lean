/-
  What limb.low and limb.Low do. For slices that can be read.
-/
import Derived.Test.YteicihaigkgbnaaSmall
import Derived.Laws.BitsAllLaws
namespace Go.Proofs.Yteicihaigkgbnaa
open Go.RowKit

theorem or_hi (z x : Nat) (hz : z < 4294967296) (hx : x < 4294967296) : bits .or .u64 (z : Int) ((x : Int) * 4294967296) = ((z + 4294967296 * x : Nat) : Int) := by
  rw [show ((x : Int) * 4294967296) = ((x * 4294967296 : Nat) : Int) by omega, u64_or_nat _ _ (by omega) (by omega), Nat.or_comm, nat_join 32 _ _ (by omega) (by omega)]
  congr 1; omega
theorem or_lo (z x : Nat) (hz : z < 4294967296) (hx : x < 4294967296) : bits .or .u64 ((x : Int) * 4294967296) (z : Int) = ((z + 4294967296 * x : Nat) : Int) := by
  rw [show ((x : Int) * 4294967296) = ((x * 4294967296 : Nat) : Int) by omega, u64_or_nat _ _ (by omega) (by omega), nat_join 32 _ _ (by omega) (by omega)]
  congr 1; omega
theorem or_zero (x : Nat) (hx : x < 18446744073709551616) : bits .or .u64 0 (x : Int) = x := by
  have := u64_or_nat 0 x (by omega) hx
  simpa using this
theorem val_take_one (xs : List Nat) : val (xs.take 1) = el xs 0 := by
  have := val_take_step xs 0
  simpa [val, pw] using this
theorem val_take_two (xs : List Nat) : val (xs.take 2) = el xs 0 + 4294967296 * el xs 1 := by
  have := val_take_step xs 1
  rw [val_take_one] at this
  simpa [pw] using this

set_option maxHeartbeats 400000 in
/-- limb.low. -/
theorem low_any (A : Option Addr) (n c : Nat) (xs : List Nat) (w : World) (h : Rd w A n c xs) (hn : n ≤ 2) :
    Calls Try.prog 77 #[.slice A n c] w fun e w' => e = .returned (.int .u64 (val xs)) ∧ w = w' := by
  have HL := Lib.hid h.len
  go_enter Try.func77, Try.ntmps77
  go_wp2
  go_loop [3, 8] (fun a t => ∃ k : Nat, k ≤ n ∧ t = .int .i64 k ∧ a = .int .u64 (val (xs.take k))) (fun _ t => n - (intOf t).toNat)
  case atStart => exact ⟨0, Nat.zero_le _, rfl, rfl⟩
  case round =>
    obtain ⟨k, hk, rfl, rfl⟩ := hrel
    by_cases hlt : k < n
    · obtain ⟨b, o, rfl, hb, hc⟩ := h.at_ (by omega)
      have hcell := hc k hlt
      have he := el_lt h.lim k
      clear hc
      by_cases h0 : k = 0
      · subst h0
        simp only [Nat.add_zero] at hcell
        have hz : ((val (xs.take 0) : Nat) : Int) = 0 := rfl
        rw [hz]
        clear hz
        go_wp2
        go_round
        case rel => exact ⟨1, by omega, rfl, by rw [val_take_one]; first | rw [or_zero _ (by omega)] | rfl⟩
        case measure => simp [intOf]; omega
      · obtain rfl : k = 1 := by omega
        have he0 := el_lt h.lim 0
        rw [val_take_one]
        go_wp2
        go_round
        case rel => exact ⟨2, by omega, rfl, by rw [val_take_two, or_hi _ _ he0 he]⟩
        case measure => simp [intOf]; omega
    · obtain rfl : k = n := by omega
      have HV := Lib.hid (show ((val (xs.take k) : Nat) : Int) = val xs by rw [val_take_ge xs k (by rw [HL.out]; exact Nat.le_refl _)])
      go_wp2
      go_ret
      exact ⟨by rw [← HV.out]; rfl, rfl⟩

/-- The document's Low. -/
def lowR (xs : List Nat) : Nat × Bool := if fmB xs && decide (xs.length ≤ 2) then (val xs, true) else (0, false)
end Go.Proofs.Yteicihaigkgbnaa
