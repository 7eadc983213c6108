/-
  The walk of the law CompactRises: it returns true. For all numbers.
-/
import Derived.Test.YtdhgdphjamcfcaaBawake
import Derived.Test.YtdhgdphjamcfcaaBapp
namespace Go.Proofs.Ytdhgdphjamcfcaa
open Go.RowKit

set_option maxHeartbeats 800000 in
theorem crises_walk (N M : Nat) (w : World) (hN : N < 18446744073709551616) (hM : M < 18446744073709551616) :
    Calls Try.prog 8 #[.int .u64 N, .int .u64 M] w fun e w' => e = .returned (.bool true) ∧ Below w.heap.size w w' := by
  rcases Nat.lt_or_ge N M with hlt | hge
  · have hlt' : (N : Int) < (M : Int) := by omega
    go_enter Try.func8, Try.ntmps8
    go_wp2_with fail
    refine (wake_any _).mono ?_
    rintro e w1 ⟨rfl, hb1⟩
    go_wp2_with fail
    refine (append_any none 0 0 N [] _ (Rk.nil _ _) hN (by omega)).mono ?_
    rw [List.nil_append]
    rintro e w2 ⟨A, k, c, rfl, hO, hb2⟩
    go_wp2_with fail
    refine (append_any none 0 0 M [] _ (Rk.nil _ _) (by omega) (by omega)).mono ?_
    rw [List.nil_append]
    rintro e w3 ⟨A', k', c', rfl, hO', hb3⟩
    have hk : k = sz N := by rw [← hO.len, nb_len]
    have hk' : k' = sz M := by rw [← hO'.len, nb_len]
    have HB := Lib.hid (hb1.trans ((hb2.trans (hb3.mono hb2.size)).mono hb1.size))
    have hcv := run_str (P := Try.prog) w3 22 9 5 Try.underlying22 Try.underlying5 Try.underlying9 (hO.rk.below hb3)
    have hcv' := run_str (P := Try.prog) w3 22 9 5 Try.underlying22 Try.underlying5 Try.underlying9 hO'.rk
    have f1 : (k : Int) ≤ (k' : Int) := by
      have := sz_mono (show N ≤ M by omega)
      omega
    have f2 : (k' : Int) ≤ 9 := by have := sz_le M; omega
    have f3 : (1 : Int) ≤ (k : Int) := by have := sz_ge N; omega
    have f4 : ((sb (nb N)).toList == (sb (nb M)).toList) = false := by
      rw [sb_beq (nb_bl _) (nb_bl _)]
      exact decide_eq_false fun e => by have := nb_inj hN hM e; omega
    have f5 : ((N : Int) == (M : Int)) = false := by simp; omega
    clear hb1 hb2 hb3 hO hO' hk hk'
    go_wp2
    go_ret
    exact ⟨rfl, HB.out⟩
  · have hge' : ¬ (N : Int) < (M : Int) := by omega
    go_enter Try.func8, Try.ntmps8
    go_wp2_with fail
    refine (wake_any _).mono ?_
    rintro e w1 ⟨rfl, hb1⟩
    go_wp2_with fail
    refine (append_any none 0 0 N [] _ (Rk.nil _ _) hN (by omega)).mono ?_
    rw [List.nil_append]
    rintro e w2 ⟨A, k, c, rfl, hO, hb2⟩
    go_wp2_with fail
    refine (append_any none 0 0 N [] _ (Rk.nil _ _) (by omega) (by omega)).mono ?_
    rw [List.nil_append]
    rintro e w3 ⟨A', k', c', rfl, hO', hb3⟩
    have hk : k = sz N := by rw [← hO.len, nb_len]
    have hk' : k' = sz N := by rw [← hO'.len, nb_len]
    have HB := Lib.hid (hb1.trans ((hb2.trans (hb3.mono hb2.size)).mono hb1.size))
    have hcv := run_str (P := Try.prog) w3 22 9 5 Try.underlying22 Try.underlying5 Try.underlying9 (hO.rk.below hb3)
    have hcv' := run_str (P := Try.prog) w3 22 9 5 Try.underlying22 Try.underlying5 Try.underlying9 hO'.rk
    have f1 : (k : Int) ≤ (k' : Int) := by
      have := sz_mono (show N ≤ N by omega)
      omega
    have f2 : (k' : Int) ≤ 9 := by have := sz_le N; omega
    have f3 : (1 : Int) ≤ (k : Int) := by have := sz_ge N; omega
    clear hb1 hb2 hb3 hO hO' hk hk'
    go_wp2
    go_ret
    exact ⟨rfl, HB.out⟩
end Go.Proofs.Ytdhgdphjamcfcaa
