/-
  The law MoneyAdds returns true, for all numbers below 2^64 and every slice of them that can be read.
-/
import Derived.Test.YtcpeofgfppgooaaYsum
namespace Go.Proofs.Ytcpeofgfppgooaa
open Go.RowKit

set_option maxHeartbeats 1600000 in
theorem adds_walk (a b : Nat) (A : Option Addr) (n c : Nat) (xs : List Nat) (w : World) (ha : a < 18446744073709551616) (hb : b < 18446744073709551616) (h : Rk .u64 w A n c xs) (hX : Bl 18446744073709551616 xs) :
    Calls Try.prog 3 #[.int .u64 a, .int .u64 b, .slice A n c] w fun e w' => e = .returned (.bool true) ∧ Below w.heap.size w w' := by
  have hcap := h.cap
  have hmax := h.max
  by_cases hn : 1000 < n
  · have h1 : (1000 < (n : Int)) := by omega
    go_enter Try.func3, Try.ntmps3
    go_wp2_with fail
    refine (ywake_any w).mono ?_
    rintro e w' ⟨rfl, rfl⟩
    go_wp2_with fail
    refine (ywake_any w).mono ?_
    rintro e w' ⟨rfl, rfl⟩
    go_wp2
    go_ret
    exact ⟨rfl, Below.refl _ _⟩
  · have h1 : ¬ (1000 < (n : Int)) := by omega
    obtain ⟨s, hs⟩ : ∃ s, addM a b = s := ⟨_, rfl⟩
    obtain ⟨t, ht⟩ : ∃ t, subM a b = t := ⟨_, rfl⟩
    obtain ⟨u, hu⟩ : ∃ u, sumM xs = u := ⟨_, rfl⟩
    have y1 := fun w => yadd_any a b w ha hb
    have y2 := fun w => xadd_any a b w ha hb
    have y3 := fun w => ysub_any a b w ha hb
    have y4 := fun w => xsub_any a b w ha hb
    have y5 := ysum_any A n c xs w h hX
    have y6 := xsum_any A n c xs w h hX
    rw [hu] at y5 y6
    simp only [hs, ht] at y1 y2 y3 y4
    clear hs ht hu
    obtain ⟨s1, s2⟩ := s
    obtain ⟨t1, t2⟩ := t
    obtain ⟨u1, u2⟩ := u
    go_enter Try.func3, Try.ntmps3
    go_wp2_with fail
    refine (ywake_any w).mono ?_
    rintro e w' ⟨rfl, rfl⟩
    go_wp2_with fail
    refine (y1 w).mono ?_
    rintro e w' ⟨rfl, rfl⟩
    go_wp2_with fail
    refine (y2 w).mono ?_
    rintro e w' ⟨rfl, rfl⟩
    go_wp2_with fail
    refine (y3 w).mono ?_
    rintro e w' ⟨rfl, rfl⟩
    go_wp2_with fail
    refine (y4 w).mono ?_
    rintro e w' ⟨rfl, rfl⟩
    go_wp2_with fail
    refine y5.mono ?_
    rintro e w' ⟨rfl, rfl⟩
    go_wp2_with fail
    refine y6.mono ?_
    rintro e w' ⟨rfl, rfl⟩
    go_wp2
    go_ret
    exact ⟨rfl, Below.refl _ _⟩
end Go.Proofs.Ytcpeofgfppgooaa
