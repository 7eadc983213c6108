/-
  The law MoneyParts returns true, for all numbers below 2^64.
-/
import Derived.Test.YtcpeofgfppgooaaYsq
namespace Go.Proofs.Ytcpeofgfppgooaa
open Go.RowKit

set_option maxHeartbeats 1600000 in
theorem parts_walk (a n d : Nat) (w : World) (ha : a < 18446744073709551616) (hn : n < 18446744073709551616) (hd : d < 18446744073709551616) :
    Calls Try.prog 4 #[.int .u64 a, .int .u64 n, .int .u64 d] w fun e w' => e = .returned (.bool true) ∧ Below w.heap.size w w' := by
  have y1 := fun w => ypart_any a n d w ha hn hd
  have y2 := fun w => xpart_any a n d w ha hn hd
  have y3 := fun w => ysq_any a w ha
  have y4 := fun w => xsq_any a w ha
  generalize partM a n d = p at *
  generalize a * a / 18446744073709551616 = u at *
  generalize a * a % 18446744073709551616 = v at *
  obtain ⟨p1, p2⟩ := p
  go_enter Try.func4, Try.ntmps4
  go_wp2_with fail
  refine (ywake_any w).mono ?_
  rintro e w' ⟨rfl, rfl⟩
  go_wp2_with fail
  refine (y1 w).mono ?_
  rintro e w1 ⟨rfl, k, rfl⟩
  go_wp2_with fail
  refine (y2 _).mono ?_
  rintro e w2 ⟨rfl, b2⟩
  have b1 := (below_drewN' (Below.refl w.heap.size w) k).trans b2
  clear b2
  go_wp2_with fail
  refine (y3 _).mono ?_
  rintro e w' ⟨rfl, rfl⟩
  go_wp2_with fail
  refine (y4 _).mono ?_
  rintro e w3 ⟨rfl, b3⟩
  replace b1 := b1.trans (b3.mono b1.size)
  clear b3
  go_wp2
  go_ret
  exact ⟨rfl, b1⟩
end Go.Proofs.Ytcpeofgfppgooaa
