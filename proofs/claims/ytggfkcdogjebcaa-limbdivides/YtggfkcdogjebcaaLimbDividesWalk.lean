/-
  The walk of the law LimbDivides: for every two slices that can be read the call returns true and writes nothing that was there.
-/
import Derived.Test.YtggfkcdogjebcaaAwake
import Derived.Test.YtggfkcdogjebcaaRdivs
namespace Go.Proofs.Ytggfkcdogjebcaa
open Go.RowKit

set_option maxRecDepth 100000 in
set_option maxHeartbeats 1600000 in
theorem divides_few (A B : Option Addr) (n c m d : Nat) (xs ys : List Nat) (w : World) (ha : Rd w A n c xs) (hb : Rd w B m d ys) (hor : 410 < n ∨ 410 < m) :
    Calls Try.prog 6 #[.slice A n c, .slice B m d] w fun e w' => e = .returned (.bool true) ∧ Below w.heap.size w w' := by
  have h1 := ha.cap
  have h2 := ha.max
  have h3 := hb.cap
  have h4 := hb.max
  go_enter Try.func6, Try.ntmps6
  go_wp2_with fail
  refine (awake_any _).mono ?_
  rintro e w1 ⟨rfl, hb1⟩
  go_wp2_with fail
  refine (few2_no A B n c m d w1 hor (by omega) (by omega)).mono ?_
  rintro e w2 ⟨rfl, hb2⟩
  have HB2 := Lib.hid (hb1.trans (hb2.mono hb1.size))
  clear hb1 hb2
  go_wp2_with fail
  refine (awake_any _).mono ?_
  rintro e w3 ⟨rfl, hb3⟩
  have HC := Lib.hid (HB2.out.trans (hb3.mono HB2.out.size))
  clear hb3
  go_wp2
  go_ret
  exact ⟨rfl, HC.out⟩
set_option maxRecDepth 100000 in
set_option maxHeartbeats 1600000 in
theorem divides_len (A B : Option Addr) (n c m d : Nat) (xs ys : List Nat) (w : World) (ha : Rd w A n c xs) (hb : Rd w B m d ys) (f1 : n ≤ 410) (f2 : m ≤ 410) (hx : 80 < n) :
    Calls Try.prog 6 #[.slice A n c, .slice B m d] w fun e w' => e = .returned (.bool true) ∧ Below w.heap.size w w' := by
  have h1 := ha.cap
  have h2 := ha.max
  have h3 := hb.cap
  have h4 := hb.max
  have g1 : 80 < (n : Int) := by omega
  go_enter Try.func6, Try.ntmps6
  go_wp2_with fail
  refine (awake_any _).mono ?_
  rintro e w1 ⟨rfl, hb1⟩
  go_wp2_with fail
  refine (few2_yes A B n c m d w1 f1 f2).mono ?_
  rintro e w2 ⟨rfl, hb2⟩
  have HB2 := Lib.hid (hb1.trans (hb2.mono hb1.size))
  clear hb1 hb2
  go_wp2_with fail
  refine (awake_any _).mono ?_
  rintro e w3 ⟨rfl, hb3⟩
  have HC := Lib.hid (HB2.out.trans (hb3.mono HB2.out.size))
  clear hb3
  go_wp2
  go_ret
  exact ⟨rfl, HC.out⟩
set_option maxRecDepth 100000 in
set_option maxHeartbeats 1600000 in
theorem divides_good (A B : Option Addr) (n c m d : Nat) (xs ys : List Nat) (w : World) (ha : Rd w A n c xs) (hb : Rd w B m d ys) (f1 : n ≤ 410) (f2 : m ≤ 410) (hx : n ≤ 80) :
    Calls Try.prog 6 #[.slice A n c, .slice B m d] w fun e w' => e = .returned (.bool true) ∧ Below w.heap.size w w' := by
  have h1 := ha.cap
  have h2 := ha.max
  have h3 := hb.cap
  have h4 := hb.max
  have g1 : ¬ (80 < (n : Int)) := by omega
  obtain ⟨qr, rr, er, hD⟩ : ∃ q r e, divR xs ys = (q, r, e) := ⟨_, _, _, rfl⟩
  have cD : ∀ W, Rd W A n c xs → Rd W B m d ys → Calls Try.prog 28 #[.slice A n c, .slice B m d] W (Out3 W qr rr er) := fun W k1 k2 => by
    have := div_any A B n c m d xs ys W k1 k2
    rw [hD] at this; exact this
  have cR : ∀ W, Rd W A n c xs → Rd W B m d ys → Calls Try.prog 29 #[.slice A n c, .slice B m d] W (Out3 W qr rr er) := fun W k1 k2 => by
    have := rDiv_any A B n c m d xs ys W k1 k2
    rw [hD] at this; exact this
  have HcD := Lib.hid cD
  have HcR := Lib.hid cR
  clear cD cR hD
  go_enter Try.func6, Try.ntmps6
  go_wp2_with fail
  refine (awake_any _).mono ?_
  rintro e w1 ⟨rfl, hb1⟩
  go_wp2_with fail
  refine (few2_yes A B n c m d w1 f1 f2).mono ?_
  rintro e w2 ⟨rfl, hb2⟩
  have HB2 := Lib.hid (hb1.trans (hb2.mono hb1.size))
  clear hb1 hb2
  go_wp2_with fail
  refine (HcD.out _ (ha.below HB2.out) (hb.below HB2.out)).mono ?_
  rintro e w3 ⟨X, xn, xc, Y, yn, yc, rfl, hX, hY, hb3⟩
  have HB3 := Lib.hid (HB2.out.trans (hb3.mono HB2.out.size))
  have HX := Lib.hid hX.1
  have HY := Lib.hid hY.1
  clear hb3 hX hY HB2
  go_wp2_with fail
  refine (HcR.out _ (ha.below HB3.out) (hb.below HB3.out)).mono ?_
  rintro e w4 ⟨U, un, uc, V, vn, vc, rfl, hU, hV, hb4⟩
  have HB4 := Lib.hid (HB3.out.trans (hb4.mono HB3.out.size))
  have HX4 := Lib.hid (HX.out.below hb4)
  have HY4 := Lib.hid (HY.out.below hb4)
  have HU := Lib.hid hU.1
  have HV := Lib.hid hV.1
  clear hb4 hU hV HB3 HX HY
  go_wp2_with fail
  refine (same_yes _ _ _ _ _ _ qr _ HX4.out HU.out).mono ?_
  rintro e w' ⟨rfl, q1, rfl⟩
  go_wp2_with fail
  refine (same_yes _ _ _ _ _ _ rr _ (HY4.out.drewN q1) (HV.out.drewN q1)).mono ?_
  rintro e w' ⟨rfl, q2, rfl⟩
  go_wp2
  go_ret
  exact ⟨rfl, by first | exact below_drewN' HB4.out _ | exact below_drewN' (below_drewN' HB4.out _) _⟩
theorem divides_walk (A B : Option Addr) (n c m d : Nat) (xs ys : List Nat) (w : World) (ha : Rd w A n c xs) (hb : Rd w B m d ys) :
    Calls Try.prog 6 #[.slice A n c, .slice B m d] w fun e w' => e = .returned (.bool true) ∧ Below w.heap.size w w' := by
  by_cases h0 : 410 < n ∨ 410 < m
  · exact divides_few A B n c m d xs ys w ha hb h0
  by_cases h1 : 80 < n
  · exact divides_len A B n c m d xs ys w ha hb (by omega) (by omega) h1
  exact divides_good A B n c m d xs ys w ha hb (by omega) (by omega) (by omega)
end Go.Proofs.Ytggfkcdogjebcaa
