/-
  The law BagsAsks returns true, for every slice of numbers below 2^64 that can be read, every stake and every bag.
-/
import Derived.Test.YtjlfmlijifbnaaaGwake
namespace Go.Proofs.Ytjlfmlijifbnaaa
open Go.RowKit
set_option linter.unusedVariables false

set_option maxHeartbeats 1600000 in
theorem basks_walk (A : Option Addr) (n c : Nat) (s : Nat) (b : Int) (xs : List Nat) (w : World) (h : Rk .u64 w A n c xs) (hX : Bl 18446744073709551616 xs) :
    Calls Try.prog 3 #[.slice A n c, .int .u64 s, .int .i64 b] w fun e w' => e = .returned (.bool true) ∧ Below w.heap.size w w' := by
  have hcap := h.cap
  have hmax := h.max
  by_cases hn : 200 < n
  · have h1 : (200 < (n : Int)) := by omega
    go_enter Try.func3, Try.ntmps3
    go_wp2_with fail
    refine (gwake_any w).mono ?_
    rintro e w1 ⟨rfl, b1⟩
    go_wp2_with fail
    refine (gwake_any w1).mono ?_
    rintro e w2 ⟨rfl, b2⟩
    go_wp2
    go_ret
    exact ⟨rfl, b1.trans (b2.mono b1.size)⟩
  · have h1 : ¬ (200 < (n : Int)) := by omega
    have y1 := fun W hW => bag_any A n c xs s W hW hX
    have y2 := fun W hW => rbag_any A n c xs s W hW hX
    have y3 := fun W hW => bnd_any A n c xs b W hW hX
    have y4 := fun W hW => rbnd_any A n c xs b W hW hX
    have y5 := fun W hW => formed_any A n c xs W hW hX
    have y6 := fun W hW => rising_any A n c xs W hW hX
    generalize bagM xs s = r at y1 y2
    generalize bndM xs b = t at y3 y4
    generalize decide (Ris xs) = u at y5 y6
    obtain ⟨r1, r2⟩ := r
    obtain ⟨t1, t2, t3⟩ := t
    go_enter Try.func3, Try.ntmps3
    go_wp2_with fail
    refine (gwake_any w).mono ?_
    rintro e w1 ⟨rfl, b1⟩
    replace h := h.below b1
    go_wp2_with fail
    refine (y1 _ h).mono ?_
    rintro e w2 ⟨rfl, q, rfl⟩
    replace b1 := belowDrG b1 q
    replace h := h.drewN q
    generalize w1.drewN q = w1 at *
    go_wp2_with fail
    refine (y2 _ h).mono ?_
    rintro e w2 ⟨rfl, q, rfl⟩
    replace b1 := belowDrG b1 q
    replace h := h.drewN q
    generalize w1.drewN q = w1 at *
    go_wp2_with fail
    refine (y3 _ h).mono ?_
    rintro e w2 ⟨rfl, q, rfl⟩
    replace b1 := belowDrG b1 q
    replace h := h.drewN q
    generalize w1.drewN q = w1 at *
    go_wp2_with fail
    refine (y4 _ h).mono ?_
    rintro e w2 ⟨rfl, q, rfl⟩
    replace b1 := belowDrG b1 q
    replace h := h.drewN q
    generalize w1.drewN q = w1 at *
    go_wp2_with fail
    refine (y5 _ h).mono ?_
    rintro e w2 ⟨rfl, q, rfl⟩
    replace b1 := belowDrG b1 q
    replace h := h.drewN q
    generalize w1.drewN q = w1 at *
    go_wp2_with fail
    refine (y6 _ h).mono ?_
    rintro e w2 ⟨rfl, q, rfl⟩
    replace b1 := belowDrG b1 q
    go_wp2
    go_ret
    exact ⟨rfl, b1⟩
end Go.Proofs.Ytjlfmlijifbnaaa
