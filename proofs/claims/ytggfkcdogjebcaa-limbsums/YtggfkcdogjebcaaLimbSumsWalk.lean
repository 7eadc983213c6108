/-
  The walk of the law LimbSums: for every two slices that can be read the call returns true and writes nothing that was there.
-/
import Derived.Test.YtggfkcdogjebcaaAwake
import Derived.Test.YtggfkcdogjebcaaSubs
namespace Go.Proofs.Ytggfkcdogjebcaa
open Go.RowKit

set_option maxHeartbeats 1600000 in
theorem sums_walk (A B : Option Addr) (n c m d : Nat) (xs ys : List Nat) (w : World) (ha : Rd w A n c xs) (hb : Rd w B m d ys) :
    Calls Try.prog 4 #[.slice A n c, .slice B m d] w fun e w' => e = .returned (.bool true) ∧ Below w.heap.size w w' := by
  have h1 := ha.cap
  have h2 := ha.max
  have h3 := hb.cap
  have h4 := hb.max
  by_cases hf : n ≤ 410 ∧ m ≤ 410
  · obtain ⟨f1, f2⟩ := hf
    obtain ⟨ar, ae, hA⟩ : ∃ r e, addR xs ys = (r, e) := ⟨_, _, rfl⟩
    obtain ⟨sr, se, hS⟩ : ∃ r e, subR xs ys = (r, e) := ⟨_, _, rfl⟩
    have cA : ∀ W, Rd W A n c xs → Rd W B m d ys → Calls Try.prog 20 #[.slice A n c, .slice B m d] W (Out2 W ar ae) := fun W k1 k2 => by
      have := add_any A B n c m d xs ys W k1 k2
      rw [hA] at this; exact this
    have cRA : ∀ W, Rd W A n c xs → Rd W B m d ys → Calls Try.prog 21 #[.slice A n c, .slice B m d] W (Out2 W ar ae) := fun W k1 k2 => by
      have := rAdd_any A B n c m d xs ys W k1 k2
      rw [hA] at this; exact this
    have cS : ∀ W, Rd W A n c xs → Rd W B m d ys → Calls Try.prog 22 #[.slice A n c, .slice B m d] W (Out2 W sr se) := fun W k1 k2 => by
      have := Sub_any A B n c m d xs ys W k1 k2
      rw [hS] at this; exact this
    have cRS : ∀ W, Rd W A n c xs → Rd W B m d ys → Calls Try.prog 23 #[.slice A n c, .slice B m d] W (Out2 W sr se) := fun W k1 k2 => by
      have := rSub_any A B n c m d xs ys W k1 k2
      rw [hS] at this; exact this
    have HcA := Lib.hid cA
    have HcRA := Lib.hid cRA
    have HcS := Lib.hid cS
    have HcRS := Lib.hid cRS
    clear cA cRA cS cRS hA hS
    obtain ⟨cv, hcv⟩ : ∃ v, cmpR xs ys = v := ⟨_, rfl⟩
    have HC := Lib.hid hcv
    clear hcv
    go_enter Try.func4, Try.ntmps4
    go_wp2_with fail
    refine (awake_any _).mono ?_
    rintro e w1 ⟨rfl, hb1⟩
    go_wp2_with fail
    refine (few2_yes A B n c m d w1 f1 f2).mono ?_
    rintro e w2 ⟨rfl, hb2⟩
    have HB2 := Lib.hid (hb1.trans (hb2.mono hb1.size))
    clear hb1 hb2
    go_wp2_with fail
    refine (HcA.out _ (ha.below HB2.out) (hb.below HB2.out)).mono ?_
    rintro e w3 ⟨X, xn, xc, rfl, hX, hb3⟩
    have HB3 := Lib.hid (HB2.out.trans (hb3.mono HB2.out.size))
    have HX := Lib.hid hX.1
    clear hb3 hX HB2
    go_wp2_with fail
    refine (HcRA.out _ (ha.below HB3.out) (hb.below HB3.out)).mono ?_
    rintro e w4 ⟨Y, yn, yc, rfl, hY, hb4⟩
    have HB4 := Lib.hid (HB3.out.trans (hb4.mono HB3.out.size))
    have HX4 := Lib.hid (HX.out.below hb4)
    have HY := Lib.hid hY.1
    clear hb4 hY HB3 HX
    go_wp2_with fail
    refine (HcS.out _ (ha.below HB4.out) (hb.below HB4.out)).mono ?_
    rintro e w5 ⟨U, un, uc, rfl, hU, hb5⟩
    have HB5 := Lib.hid (HB4.out.trans (hb5.mono HB4.out.size))
    have HX5 := Lib.hid (HX4.out.below hb5)
    have HY5 := Lib.hid (HY.out.below hb5)
    have HU := Lib.hid hU.1
    clear hb5 hU HB4 HX4 HY
    go_wp2_with fail
    refine (HcRS.out _ (ha.below HB5.out) (hb.below HB5.out)).mono ?_
    rintro e w6 ⟨V, vn, vc, rfl, hV, hb6⟩
    have HB6 := Lib.hid (HB5.out.trans (hb6.mono HB5.out.size))
    have HX6 := Lib.hid (HX5.out.below hb6)
    have HY6 := Lib.hid (HY5.out.below hb6)
    have HU6 := Lib.hid (HU.out.below hb6)
    have HV := Lib.hid hV.1
    clear hb6 hV HB5 HX5 HY5 HU
    go_wp2_with fail
    refine (same_yes _ _ _ _ _ _ ar _ HX6.out HY6.out).mono ?_
    rintro e w' ⟨rfl, q1, rfl⟩
    go_wp2_with fail
    refine (same_yes _ _ _ _ _ _ sr _ (HU6.out.drewN q1) (HV.out.drewN q1)).mono ?_
    rintro e w' ⟨rfl, q2, rfl⟩
    go_wp2_with fail
    refine (Cmp_any _ _ _ _ _ _ xs ys _ ((ha.below HB6.out).drewN _) ((hb.below HB6.out).drewN _)).mono ?_
    rw [HC.out]
    rintro e w' ⟨rfl, q3, rfl⟩
    go_wp2_with fail
    refine (rCmp_any _ _ _ _ _ _ xs ys _ ((ha.below HB6.out).drewN _) ((hb.below HB6.out).drewN _)).mono ?_
    rw [HC.out]
    rintro e w' ⟨rfl, q4, rfl⟩
    go_wp2
    go_ret
    exact ⟨rfl, by first | exact below_drewN' HB6.out _ | exact below_drewN' (below_drewN' HB6.out _) _⟩
  · have hor : 410 < n ∨ 410 < m := by omega
    clear hf
    go_enter Try.func4, Try.ntmps4
    go_wp2_with fail
    refine (awake_any _).mono ?_
    rintro e w1 ⟨rfl, hb1⟩
    go_wp2_with fail
    refine (few2_no A B n c m d w1 hor (by omega) (by omega)).mono ?_
    rintro e w2 ⟨rfl, hb2⟩
    have HB := Lib.hid (hb1.trans (hb2.mono hb1.size))
    clear hb1 hb2
    go_wp2_with fail
    refine (awake_any _).mono ?_
    rintro e w3 ⟨rfl, hb3⟩
    have HC := Lib.hid (HB.out.trans (hb3.mono HB.out.size))
    clear hb3
    go_wp2
    go_ret
    exact ⟨rfl, HC.out⟩
end Go.Proofs.Ytggfkcdogjebcaa
