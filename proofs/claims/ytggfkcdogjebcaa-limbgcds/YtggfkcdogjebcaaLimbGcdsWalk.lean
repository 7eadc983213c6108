/-
  The walk of the law LimbGcds: for every two slices that can be read the call returns true and writes nothing that was there.
-/
import Derived.Test.YtggfkcdogjebcaaAwake
import Derived.Test.YtggfkcdogjebcaaGcd
namespace Go.Proofs.Ytggfkcdogjebcaa
open Go.RowKit

set_option maxRecDepth 100000 in
set_option maxHeartbeats 1600000 in
theorem gcds_few (A B : Option Addr) (n c m d : Nat) (xs ys : List Nat) (w : World) (ha : Rd w A n c xs) (hb : Rd w B m d ys) (hor : 410 < n ∨ 410 < m) :
    Calls Try.prog 7 #[.slice A n c, .slice B m d] w fun e w' => e = .returned (.bool true) ∧ Below w.heap.size w w' := by
  have h1 := ha.cap
  have h2 := ha.max
  have h3 := hb.cap
  have h4 := hb.max
  go_enter Try.func7, Try.ntmps7
  go_wp2_with fail
  refine (awake_any _).mono ?_
  rintro e w1 ⟨rfl, hb1⟩
  go_wp2_with fail
  refine (few2_no A B n c m d w1 hor (by omega) (by omega)).mono ?_
  rintro e w2 ⟨rfl, hb2⟩
  have HB2 := Lib.hid (hb1.trans (hb2.mono hb1.size))
  clear hb1 hb2
  go_wp2_with fail
  refine (awake_any _).mono ?_
  rintro e w3 ⟨rfl, hb3⟩
  have HC := Lib.hid (HB2.out.trans (hb3.mono HB2.out.size))
  clear hb3
  go_wp2
  go_ret
  exact ⟨rfl, HC.out⟩

set_option maxRecDepth 100000 in
set_option maxHeartbeats 1600000 in
theorem gcds_len1 (A B : Option Addr) (n c m d : Nat) (xs ys : List Nat) (w : World) (ha : Rd w A n c xs) (hb : Rd w B m d ys) (f1 : n ≤ 410) (f2 : m ≤ 410) (hx : 30 < n) :
    Calls Try.prog 7 #[.slice A n c, .slice B m d] w fun e w' => e = .returned (.bool true) ∧ Below w.heap.size w w' := by
  have h1 := ha.cap
  have h2 := ha.max
  have h3 := hb.cap
  have h4 := hb.max
  have g1 : 30 < (n : Int) := by omega
  go_enter Try.func7, Try.ntmps7
  go_wp2_with fail
  refine (awake_any _).mono ?_
  rintro e w1 ⟨rfl, hb1⟩
  go_wp2_with fail
  refine (few2_yes A B n c m d w1 f1 f2).mono ?_
  rintro e w2 ⟨rfl, hb2⟩
  have HB2 := Lib.hid (hb1.trans (hb2.mono hb1.size))
  clear hb1 hb2
  go_wp2_with fail
  refine (awake_any _).mono ?_
  rintro e w3 ⟨rfl, hb3⟩
  have HC := Lib.hid (HB2.out.trans (hb3.mono HB2.out.size))
  clear hb3
  go_wp2
  go_ret
  exact ⟨rfl, HC.out⟩

set_option maxRecDepth 100000 in
set_option maxHeartbeats 1600000 in
theorem gcds_len2 (A B : Option Addr) (n c m d : Nat) (xs ys : List Nat) (w : World) (ha : Rd w A n c xs) (hb : Rd w B m d ys) (f1 : n ≤ 410) (f2 : m ≤ 410) (hx : n ≤ 30) (hy : 30 < m) :
    Calls Try.prog 7 #[.slice A n c, .slice B m d] w fun e w' => e = .returned (.bool true) ∧ Below w.heap.size w w' := by
  have h1 := ha.cap
  have h2 := ha.max
  have h3 := hb.cap
  have h4 := hb.max
  have g1 : ¬ (30 < (n : Int)) := by omega
  have g2 : 30 < (m : Int) := by omega
  go_enter Try.func7, Try.ntmps7
  go_wp2_with fail
  refine (awake_any _).mono ?_
  rintro e w1 ⟨rfl, hb1⟩
  go_wp2_with fail
  refine (few2_yes A B n c m d w1 f1 f2).mono ?_
  rintro e w2 ⟨rfl, hb2⟩
  have HB2 := Lib.hid (hb1.trans (hb2.mono hb1.size))
  clear hb1 hb2
  go_wp2_with fail
  refine (awake_any _).mono ?_
  rintro e w3 ⟨rfl, hb3⟩
  have HC := Lib.hid (HB2.out.trans (hb3.mono HB2.out.size))
  clear hb3
  go_wp2
  go_ret
  exact ⟨rfl, HC.out⟩

set_option maxRecDepth 100000 in
set_option maxHeartbeats 1600000 in
theorem gcds_good (A B : Option Addr) (n c m d : Nat) (xs ys : List Nat) (w : World) (ha : Rd w A n c xs) (hb : Rd w B m d ys) (hx : n ≤ 30) (hy : m ≤ 30) :
    Calls Try.prog 7 #[.slice A n c, .slice B m d] w fun e w' => e = .returned (.bool true) ∧ Below w.heap.size w w' := by
  have h1 := ha.cap
  have h2 := ha.max
  have h3 := hb.cap
  have h4 := hb.max
  have g1 : ¬ (30 < (n : Int)) := by omega
  have g2 : ¬ (30 < (m : Int)) := by omega
  obtain ⟨gr, er, hD⟩ : ∃ g e, gcdR xs ys = (g, e) := ⟨_, _, rfl⟩
  have cD : ∀ W, Rd W A n c xs → Rd W B m d ys → Calls Try.prog 30 #[.slice A n c, .slice B m d] W (Out2 W gr er) := fun W k1 k2 => by
    have := gcd_any A B n c m d xs ys W k1 k2
    rw [hD] at this; exact this
  have cR : ∀ W, Rd W A n c xs → Rd W B m d ys → Calls Try.prog 31 #[.slice A n c, .slice B m d] W (Out2 W gr er) := fun W k1 k2 => by
    have := rGcd_any A B n c m d xs ys W k1 k2
    rw [hD] at this; exact this
  have HcD := Lib.hid cD
  have HcR := Lib.hid cR
  clear cD cR hD
  go_enter Try.func7, Try.ntmps7
  go_wp2_with fail
  refine (awake_any _).mono ?_
  rintro e w1 ⟨rfl, hb1⟩
  go_wp2_with fail
  refine (few2_yes A B n c m d w1 (by omega) (by omega)).mono ?_
  rintro e w2 ⟨rfl, hb2⟩
  have HB2 := Lib.hid (hb1.trans (hb2.mono hb1.size))
  clear hb1 hb2
  go_wp2_with fail
  refine (HcD.out _ (ha.below HB2.out) (hb.below HB2.out)).mono ?_
  rintro e w3 ⟨X, xn, xc, rfl, hX, hb3⟩
  have HB3 := Lib.hid (HB2.out.trans (hb3.mono HB2.out.size))
  have HX := Lib.hid hX.1
  clear hb3 hX HB2
  go_wp2_with fail
  refine (HcR.out _ (ha.below HB3.out) (hb.below HB3.out)).mono ?_
  rintro e w4 ⟨U, un, uc, rfl, hU, hb4⟩
  have HB4 := Lib.hid (HB3.out.trans (hb4.mono HB3.out.size))
  have HX4 := Lib.hid (HX.out.below hb4)
  have HU := Lib.hid hU.1
  clear hb4 hU HB3 HX
  go_wp2_with fail
  refine (same_yes _ _ _ _ _ _ gr _ HX4.out HU.out).mono ?_
  rintro e w' ⟨rfl, q1, rfl⟩
  go_wp2
  go_ret
  exact ⟨rfl, below_drewN' HB4.out _⟩
theorem gcds_walk (A B : Option Addr) (n c m d : Nat) (xs ys : List Nat) (w : World) (ha : Rd w A n c xs) (hb : Rd w B m d ys) :
    Calls Try.prog 7 #[.slice A n c, .slice B m d] w fun e w' => e = .returned (.bool true) ∧ Below w.heap.size w w' := by
  by_cases h0 : 410 < n ∨ 410 < m
  · exact gcds_few A B n c m d xs ys w ha hb h0
  by_cases h1 : 30 < n
  · exact gcds_len1 A B n c m d xs ys w ha hb (by omega) (by omega) h1
  by_cases h2 : 30 < m
  · exact gcds_len2 A B n c m d xs ys w ha hb (by omega) (by omega) (by omega) h2
  exact gcds_good A B n c m d xs ys w ha hb (by omega) (by omega)
end Go.Proofs.Ytggfkcdogjebcaa
