/-
  The walk of the law CompactTakes: it returns true. For slices of bytes that can be read.
-/
import Derived.Test.YtdhgdphjamcfcaaBawake
import Derived.Test.YtdhgdphjamcfcaaBrtake
namespace Go.Proofs.Ytdhgdphjamcfcaa
open Go.RowKit

set_option maxHeartbeats 800000 in
theorem ctakes_walk (A : Option Addr) (n c : Nat) (xs : List Nat) (w : World) (h : Rk .u8 w A n c xs) (hB : Bl 256 xs) :
    Calls Try.prog 4 #[.slice A n c] w fun e w' => e = .returned (.bool true) ∧ Below w.heap.size w w' := by
  go_enter Try.func4, Try.ntmps4
  go_wp2_with fail
  refine (wake_any _).mono ?_
  rintro e w1 ⟨rfl, hb1⟩
  have h1 := h.below hb1
  go_wp2_with fail
  refine (take_any _ _ _ xs _ h1 hB).mono ?_
  simp only [tkE]
  rintro e w' ⟨rfl, rfl⟩
  go_wp2_with fail
  refine (rtake_any _ _ _ xs _ h1 hB).mono ?_
  simp only [TkP, tkE]
  rintro e w2 ⟨rfl, hb2⟩
  have HB := Lib.hid (hb1.trans (hb2.mono hb1.size))
  clear h1 hb1 hb2
  generalize (tk xs).1 = x1
  generalize (tk xs).2.1 = x2
  generalize (tk xs).2.2 = x3
  go_wp2
  go_ret
  exact ⟨rfl, HB.out⟩
end Go.Proofs.Ytdhgdphjamcfcaa
