/-
  The walk of the law LimbProducts: for every two slices that can be read the call returns true and writes nothing that was there.
-/
import Derived.Test.YtggfkcdogjebcaaAwake
import Derived.Test.YtggfkcdogjebcaaRmul
namespace Go.Proofs.Ytggfkcdogjebcaa
open Go.RowKit

set_option maxHeartbeats 1600000 in
theorem products_walk (A B : Option Addr) (n c m d : Nat) (xs ys : List Nat) (w : World) (ha : Rd w A n c xs) (hb : Rd w B m d ys) :
    Calls Try.prog 5 #[.slice A n c, .slice B m d] w fun e w' => e = .returned (.bool true) ∧ Below w.heap.size w w' := by
  have h1 := ha.cap
  have h2 := ha.max
  have h3 := hb.cap
  have h4 := hb.max
  by_cases hf : n ≤ 410 ∧ m ≤ 410
  · obtain ⟨f1, f2⟩ := hf
    obtain ⟨ar, ae, hA⟩ : ∃ r e, mulR xs ys = (r, e) := ⟨_, _, rfl⟩
    have cA : ∀ W, Rd W A n c xs → Rd W B m d ys → Calls Try.prog 26 #[.slice A n c, .slice B m d] W (Out2 W ar ae) := fun W k1 k2 => by
      have := mul_any A B n c m d xs ys W k1 k2
      rw [hA] at this; exact this
    have cRA : ∀ W, Rd W A n c xs → Rd W B m d ys → Calls Try.prog 27 #[.slice A n c, .slice B m d] W (Out2 W ar ae) := fun W k1 k2 => by
      have := rMul_any A B n c m d xs ys W k1 k2
      rw [hA] at this; exact this
    have HcA := Lib.hid cA
    have HcRA := Lib.hid cRA
    clear cA cRA hA
    go_enter Try.func5, Try.ntmps5
    go_wp2_with fail
    refine (awake_any _).mono ?_
    rintro e w1 ⟨rfl, hb1⟩
    go_wp2_with fail
    refine (few2_yes A B n c m d w1 f1 f2).mono ?_
    rintro e w2 ⟨rfl, hb2⟩
    have HB2 := Lib.hid (hb1.trans (hb2.mono hb1.size))
    clear hb1 hb2
    go_wp2_with fail
    refine (HcA.out _ (ha.below HB2.out) (hb.below HB2.out)).mono ?_
    rintro e w3 ⟨X, xn, xc, rfl, hX, hb3⟩
    have HB3 := Lib.hid (HB2.out.trans (hb3.mono HB2.out.size))
    have HX := Lib.hid hX.1
    clear hb3 hX HB2
    go_wp2_with fail
    refine (HcRA.out _ (ha.below HB3.out) (hb.below HB3.out)).mono ?_
    rintro e w4 ⟨Y, yn, yc, rfl, hY, hb4⟩
    have HB4 := Lib.hid (HB3.out.trans (hb4.mono HB3.out.size))
    have HX4 := Lib.hid (HX.out.below hb4)
    have HY := Lib.hid hY.1
    clear hb4 hY HB3 HX
    go_wp2_with fail
    refine (same_yes _ _ _ _ _ _ ar _ HX4.out HY.out).mono ?_
    rintro e w' ⟨rfl, q1, rfl⟩
    go_wp2
    go_ret
    exact ⟨rfl, below_drewN' HB4.out _⟩
  · have hor : 410 < n ∨ 410 < m := by omega
    clear hf
    go_enter Try.func5, Try.ntmps5
    go_wp2_with fail
    refine (awake_any _).mono ?_
    rintro e w1 ⟨rfl, hb1⟩
    go_wp2_with fail
    refine (few2_no A B n c m d w1 hor (by omega) (by omega)).mono ?_
    rintro e w2 ⟨rfl, hb2⟩
    have HB := Lib.hid (hb1.trans (hb2.mono hb1.size))
    clear hb1 hb2
    go_wp2_with fail
    refine (awake_any _).mono ?_
    rintro e w3 ⟨rfl, hb3⟩
    have HC := Lib.hid (HB.out.trans (hb3.mono HB.out.size))
    clear hb3
    go_wp2
    go_ret
    exact ⟨rfl, HC.out⟩
end Go.Proofs.Ytggfkcdogjebcaa
