/-
  The walk of the law CompactTakesLists: it returns true. For slices of bytes that can be read, of at most 2000000 bytes, and any bound.
-/
import Derived.Test.YtdhgdphjamcfcaaBawake
import Derived.Test.YtdhgdphjamcfcaaBtl
import Derived.Test.YtdhgdphjamcfcaaBsame
namespace Go.Proofs.Ytdhgdphjamcfcaa
open Go.RowKit

set_option maxHeartbeats 800000 in
theorem ctlists_walk (A : Option Addr) (n c : Nat) (xs : List Nat) (most : Int) (w : World) (h : Rk .u8 w A n c xs) (hB : Bl 256 xs) (hn : n ≤ 2000000) (hm0 : -9223372036854775808 ≤ most) (hm1 : most ≤ 9223372036854775807) :
    Calls Try.prog 6 #[.slice A n c, .int .i64 most] w fun e w' => e = .returned (.bool true) ∧ Below w.heap.size w w' := by
  go_enter Try.func6, Try.ntmps6
  go_wp2_with fail
  refine (wake_any _).mono ?_
  rintro e w1 ⟨rfl, hb1⟩
  have h1 := h.below hb1
  go_wp2_with fail
  refine (tlist_any _ _ _ xs most _ h1 hB hn hm0 hm1).mono ?_
  rintro e w2 ⟨B, m, d, rfl, hR, hb2⟩
  have h2 := h1.below hb2
  have hB2 := hb1.trans (hb2.mono hb1.size)
  clear hb1 hb2 h1
  go_wp2_with fail
  refine (rtlist_any _ _ _ xs most _ h2 hB hn hm0 hm1).mono ?_
  rintro e w3 ⟨B', m', d', rfl, hR', hb3⟩
  have hR3 := hR.below hb3
  have hB3 := hB2.trans (hb3.mono hB2.size)
  clear hB2 hb3 h2 hR
  generalize tl xs most = v at *
  go_wp2_with fail
  refine (sameQ_yes _ _ _ _ _ _ v.1 _ hR3 hR').mono ?_
  rintro e w4 ⟨rfl, q, rfl⟩
  have HB := Lib.hid (belowDrew hB3 q)
  clear hB3 hR3 hR'
  generalize v.2.1 = v1 at *
  generalize v.2.2 = v2 at *
  go_wp2
  go_ret
  exact ⟨rfl, HB.out⟩
end Go.Proofs.Ytdhgdphjamcfcaa
