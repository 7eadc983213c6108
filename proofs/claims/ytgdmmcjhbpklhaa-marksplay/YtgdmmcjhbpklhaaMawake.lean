/-
  What the law's own awake does: it answers true, and writes nothing that was there.
-/
import Derived.Test.YtgdmmcjhbpklhaaMcalls2
namespace Go.Proofs.Ytgdmmcjhbpklhaa
open Go.RowKit
set_option linter.unusedVariables false

theorem belowDrewM {B : Nat} {a w : World} (h : Below B a w) (n : Nat) : Below B a (w.drewN n) := ⟨h.os, h.tape, h.output, h.size, h.block⟩
theorem TB.below {base : Nat} {w w' : World} (h : Turns (TB base w) w w') (hb : base ≤ w.heap.size) : Below base w w' := h.below hb fun b hb => hb.1
set_option maxHeartbeats 800000 in
theorem awakem_any (w : World) : Calls Try.prog 6 #[] w fun e w' => e = .returned (.bool true) ∧ Below w.heap.size w w' := by
  have HN := Lib.hid (mnew_of 3 3 w (by omega) (by omega))
  go_enter Try.func6, Try.ntmps6
  go_wp2_with fail
  refine HN.out.mono ?_
  rintro e w1 ⟨rfl, hM, hb1⟩
  have HS := Lib.hid (set_new w.heap.size (w.heap.size + 1) 3 2 _ w1 hM (by omega) rfl)
  go_wp2_with fail
  refine HS.out.mono ?_
  rintro e w2 ⟨rfl, hM2, ht2⟩
  have hb2 := hb1.trans (TB.below ht2 hb1.size)
  have hH := has_in w.heap.size (w.heap.size + 1) 3 2 _ w2 hM2 (by omega)
  rw [show put (fun _ => false) 2 2 = true from rfl] at hH
  have HH := Lib.hid hH
  clear hH hM hb1 ht2
  go_wp2_with fail
  refine HH.out.mono ?_
  rintro e w3 ⟨rfl, q, rfl⟩
  have HZ := Lib.hid (msize_any w.heap.size (w.heap.size + 1) 3 _ (w2.drewN q) (hM2.drewN q))
  go_wp2_with fail
  refine HZ.out.mono ?_
  rintro e w3 ⟨rfl, rfl⟩
  go_wp2
  go_ret
  exact ⟨rfl, belowDrewM hb2 q⟩
end Go.Proofs.Ytgdmmcjhbpklhaa
