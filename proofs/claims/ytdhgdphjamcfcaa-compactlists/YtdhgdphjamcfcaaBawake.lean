/-
  What the law's own awake does: it answers true. No conditions.
-/
import Derived.Test.YtdhgdphjamcfcaaBtake
namespace Go.Proofs.Ytdhgdphjamcfcaa
open Go.RowKit

theorem tk_four : tk [4] = (1, 1, 0) := by decide
theorem sz_64 : sz 64 = 2 := by decide
set_option maxHeartbeats 400000 in
theorem wake_any (w : World) : Calls Try.prog 9 #[] w fun e w' => e = .returned (.bool true) ∧ Below w.heap.size w w' := by
  have hR := rk_one .u8 5 w 4 4 rfl
  go_enter Try.func9, Try.ntmps9
  go_wp2_with fail
  refine (take_any _ _ _ [4] _ hR (Bl_cons (by omega) (Bl_nil _))).mono ?_
  simp only [tkE, tk_four]
  rintro e w' ⟨rfl, rfl⟩
  have HB := Lib.hid ((Below.refl w.heap.size w).alloc (Nat.le_refl _) (.cells #[.int .u8 4] 5))
  clear hR
  go_wp2_with fail
  refine (size_any 64 _ (by omega)).mono ?_
  rw [sz_64]
  rintro e w' ⟨rfl, rfl⟩
  go_wp2
  go_ret
  exact ⟨rfl, HB.out⟩
end Go.Proofs.Ytdhgdphjamcfcaa
