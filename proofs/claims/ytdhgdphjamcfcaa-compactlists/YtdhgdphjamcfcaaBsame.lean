/-
  What the law's own same does, of one list twice: it answers true. For slices of 64-bit numbers that can be read.
-/
import Derived.Test.YtdhgdphjamcfcaaBnum
namespace Go.Proofs.Ytdhgdphjamcfcaa
open Go.RowKit

theorem belowDrew {B : Nat} {a w : World} (h : Below B a w) (n : Nat) : Below B a (w.drewN n) := ⟨h.os, h.tape, h.output, h.size, h.block⟩
def SameRel (w : World) (n : Nat) (t : Value) (wr : World) : Prop := ∃ k q : Nat, k ≤ n ∧ t = .int .i64 (k : Int) ∧ wr = w.drewN q
set_option maxHeartbeats 800000 in
theorem sameQ_yes (A B : Option Addr) (n c m d : Nat) (xs : List Nat) (w : World) (ha : Rk .u64 w A n c xs) (hb : Rk .u64 w B m d xs) :
    Calls Try.prog 18 #[.slice A n c, .slice B m d] w fun e w' => e = .returned (.bool true) ∧ ∃ q, w' = w.drewN q := by
  obtain rfl : n = m := by rw [← ha.len, hb.len]
  have hcap := ha.cap
  have hmax := ha.max
  go_enter Try.func18, Try.ntmps18
  go_wp2
  go_loopw [13] (fun t wr => SameRel w n t wr) (fun t _ => n - (intOf t).toNat)
  case atStart => exact ⟨0, 0, by omega, rfl, rfl⟩
  case round =>
    obtain ⟨k, q, hk, rfl, rfl⟩ := hrel
    by_cases hlt : k < n
    · obtain ⟨b, o, rfl, hbb, hcA⟩ := ha.at_ (by omega)
      obtain ⟨b2, o2, rfl, hbb2, hcB⟩ := hb.at_ (by omega)
      have hcx := hcA k hlt
      have hcy := hcB k hlt
      clear hcA hcB
      go_wp2
      go_quiet (fail)
      go_wp2
      go_roundw
      case rel => exact ⟨k + 1, _, by omega, by go_num, rfl⟩
      case measure => simp [intOf]; omega
    · obtain rfl : k = n := by omega
      go_wp2
      go_ret
      exact ⟨rfl, q, rfl⟩
end Go.Proofs.Ytdhgdphjamcfcaa
