/-
  The walk of the law CompactCuts: it returns true. For all numbers.
-/
import Derived.Test.YtdhgdphjamcfcaaBawake
import Derived.Test.YtdhgdphjamcfcaaBapp
namespace Go.Proofs.Ytdhgdphjamcfcaa
open Go.RowKit

set_option maxHeartbeats 800000 in
theorem ccuts_walk (N cut : Nat) (w : World) (hN : N < 18446744073709551616) (hc : cut < 18446744073709551616) :
    Calls Try.prog 7 #[.int .u64 N, .int .u64 cut] w fun e w' => e = .returned (.bool true) ∧ Below w.heap.size w w' := by
  have hs1 := sz_ge N
  have hs9 := sz_le N
  go_enter Try.func7, Try.ntmps7
  go_wp2_with fail
  refine (wake_any _).mono ?_
  rintro e w1 ⟨rfl, hb1⟩
  go_wp2_with fail
  refine (append_any none 0 0 N [] _ (Rk.nil _ _) hN (by omega)).mono ?_
  rw [List.nil_append]
  rintro e w2 ⟨A, k, c, rfl, hO, hb2⟩
  have hk : k = sz N := by rw [← hO.len, nb_len]
  have hR := hO.rk
  have HB := Lib.hid (hb1.trans (hb2.mono hb1.size))
  have hkp : 0 < k := by omega
  have hk9 : k ≤ 9 := by omega
  have hm : cut % k < k := Nat.mod_lt _ hkp
  have hT := hR.take (i := cut % k) (by omega)
  have HT := Lib.hid (tk_cut N (cut % k) (by omega))
  have hcap := hR.cap
  have hmax := hR.max
  obtain ⟨b, o, rfl, hjunk⟩ := hR.at_ hkp
  clear hjunk hb1 hb2 hO hR hk
  have h00 : ((k : Int) == 0) = false := by simp; omega
  have hki : (k : Int) ≠ 0 := by omega
  have e0 : ((cut : Int) % (k : Int)) = ((cut % k : Nat) : Int) := by omega
  generalize cut % k = r at *
  go_wp2_with fail
  refine (take_any _ _ _ _ _ hT (Bl_take (nb_bl N) _)).mono ?_
  simp only [tkE, HT.out]
  rintro e w' ⟨rfl, rfl⟩
  go_wp2
  go_ret
  exact ⟨rfl, HB.out⟩
end Go.Proofs.Ytdhgdphjamcfcaa
