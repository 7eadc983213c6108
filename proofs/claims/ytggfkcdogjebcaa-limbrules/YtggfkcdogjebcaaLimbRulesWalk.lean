/-
  The walk of the law LimbRules: for every three slices that can be read the call returns true and writes nothing that was there.
-/
import Derived.Test.YtggfkcdogjebcaaAwake
import Derived.Test.YtggfkcdogjebcaaNats
namespace Go.Proofs.Ytggfkcdogjebcaa
open Go.RowKit

set_option maxRecDepth 100000 in
set_option maxHeartbeats 1600000 in
theorem rules_few (A B C : Option Addr) (n c m d l f : Nat) (xs ys zs : List Nat) (w : World) (ha : Rd w A n c xs) (hb : Rd w B m d ys) (hc : Rd w C l f zs) (hor : 410 < n ∨ 410 < m ∨ 410 < l) :
    Calls Try.prog 10 #[.slice A n c, .slice B m d, .slice C l f] w fun e w' => e = .returned (.bool true) ∧ Below w.heap.size w w' := by
  have h1 := ha.cap
  have h2 := ha.max
  have h3 := hb.cap
  have h4 := hb.max
  have h5 := hc.cap
  have h6 := hc.max
  go_enter Try.func10, Try.ntmps10
  go_wp2_with fail
  refine (awake_any _).mono ?_
  rintro e w1 ⟨rfl, hb1⟩
  go_wp2_with fail
  refine (few3_no A B C n c m d l f w1 hor (by omega) (by omega) (by omega)).mono ?_
  rintro e w2 ⟨rfl, hb2⟩
  have HB := Lib.hid (hb1.trans (hb2.mono hb1.size))
  clear hb1 hb2
  go_wp2_with fail
  refine (awake_any _).mono ?_
  rintro e w3 ⟨rfl, hb3⟩
  have HC := Lib.hid (HB.out.trans (hb3.mono HB.out.size))
  clear hb3
  go_wp2
  go_ret
  exact ⟨rfl, HC.out⟩
set_option maxRecDepth 100000 in
set_option maxHeartbeats 1600000 in
theorem rules_len0 (A B C : Option Addr) (n c m d l f : Nat) (xs ys zs : List Nat) (w : World) (ha : Rd w A n c xs) (hb : Rd w B m d ys) (hc : Rd w C l f zs) (hx : 60 < n) (k2 : m ≤ 410) (k3 : l ≤ 410) (k1 : n ≤ 410) :
    Calls Try.prog 10 #[.slice A n c, .slice B m d, .slice C l f] w fun e w' => e = .returned (.bool true) ∧ Below w.heap.size w w' := by
  have h1 := ha.cap
  have h2 := ha.max
  have h3 := hb.cap
  have h4 := hb.max
  have h5 := hc.cap
  have h6 := hc.max
  have f1 : n ≤ 410 := by omega
  have f2 : m ≤ 410 := by omega
  have f3 : l ≤ 410 := by omega
  have g1 : 60 < (n : Int) := by omega
  go_enter Try.func10, Try.ntmps10
  go_wp2_with fail
  refine (awake_any _).mono ?_
  rintro e w1 ⟨rfl, hb1⟩
  go_wp2_with fail
  refine (few3_yes A B C n c m d l f w1 f1 f2 f3).mono ?_
  rintro e w2 ⟨rfl, hb2⟩
  have HB := Lib.hid (hb1.trans (hb2.mono hb1.size))
  clear hb1 hb2
  go_wp2_with fail
  refine (awake_any _).mono ?_
  rintro e w3 ⟨rfl, hb3⟩
  have HC := Lib.hid (HB.out.trans (hb3.mono HB.out.size))
  clear hb3
  go_wp2
  go_ret
  exact ⟨rfl, HC.out⟩
set_option maxRecDepth 100000 in
set_option maxHeartbeats 1600000 in
theorem rules_len1 (A B C : Option Addr) (n c m d l f : Nat) (xs ys zs : List Nat) (w : World) (ha : Rd w A n c xs) (hb : Rd w B m d ys) (hc : Rd w C l f zs) (k1 : n ≤ 60) (hx : 60 < m) (k2 : m ≤ 410) (k3 : l ≤ 410) :
    Calls Try.prog 10 #[.slice A n c, .slice B m d, .slice C l f] w fun e w' => e = .returned (.bool true) ∧ Below w.heap.size w w' := by
  have h1 := ha.cap
  have h2 := ha.max
  have h3 := hb.cap
  have h4 := hb.max
  have h5 := hc.cap
  have h6 := hc.max
  have f1 : n ≤ 410 := by omega
  have f2 : m ≤ 410 := by omega
  have f3 : l ≤ 410 := by omega
  have g1 : ¬ (60 < (n : Int)) := by omega
  have g2 : 60 < (m : Int) := by omega
  go_enter Try.func10, Try.ntmps10
  go_wp2_with fail
  refine (awake_any _).mono ?_
  rintro e w1 ⟨rfl, hb1⟩
  go_wp2_with fail
  refine (few3_yes A B C n c m d l f w1 f1 f2 f3).mono ?_
  rintro e w2 ⟨rfl, hb2⟩
  have HB := Lib.hid (hb1.trans (hb2.mono hb1.size))
  clear hb1 hb2
  go_wp2_with fail
  refine (awake_any _).mono ?_
  rintro e w3 ⟨rfl, hb3⟩
  have HC := Lib.hid (HB.out.trans (hb3.mono HB.out.size))
  clear hb3
  go_wp2
  go_ret
  exact ⟨rfl, HC.out⟩
set_option maxRecDepth 100000 in
set_option maxHeartbeats 1600000 in
theorem rules_len2 (A B C : Option Addr) (n c m d l f : Nat) (xs ys zs : List Nat) (w : World) (ha : Rd w A n c xs) (hb : Rd w B m d ys) (hc : Rd w C l f zs) (k1 : n ≤ 60) (k2 : m ≤ 60) (hx : 60 < l) (k3 : l ≤ 410) :
    Calls Try.prog 10 #[.slice A n c, .slice B m d, .slice C l f] w fun e w' => e = .returned (.bool true) ∧ Below w.heap.size w w' := by
  have h1 := ha.cap
  have h2 := ha.max
  have h3 := hb.cap
  have h4 := hb.max
  have h5 := hc.cap
  have h6 := hc.max
  have f1 : n ≤ 410 := by omega
  have f2 : m ≤ 410 := by omega
  have f3 : l ≤ 410 := by omega
  have g1 : ¬ (60 < (n : Int)) := by omega
  have g2 : ¬ (60 < (m : Int)) := by omega
  have g3 : 60 < (l : Int) := by omega
  go_enter Try.func10, Try.ntmps10
  go_wp2_with fail
  refine (awake_any _).mono ?_
  rintro e w1 ⟨rfl, hb1⟩
  go_wp2_with fail
  refine (few3_yes A B C n c m d l f w1 f1 f2 f3).mono ?_
  rintro e w2 ⟨rfl, hb2⟩
  have HB := Lib.hid (hb1.trans (hb2.mono hb1.size))
  clear hb1 hb2
  go_wp2_with fail
  refine (awake_any _).mono ?_
  rintro e w3 ⟨rfl, hb3⟩
  have HC := Lib.hid (HB.out.trans (hb3.mono HB.out.size))
  clear hb3
  go_wp2
  go_ret
  exact ⟨rfl, HC.out⟩
set_option maxRecDepth 100000 in
set_option maxHeartbeats 1600000 in
theorem rules_bad0 (A B C : Option Addr) (n c m d l f : Nat) (xs ys zs : List Nat) (w : World) (ha : Rd w A n c xs) (hb : Rd w B m d ys) (hc : Rd w C l f zs) (k1 : n ≤ 60) (k2 : m ≤ 60) (k3 : l ≤ 60) (fa : fmB xs = false) :
    Calls Try.prog 10 #[.slice A n c, .slice B m d, .slice C l f] w fun e w' => e = .returned (.bool true) ∧ Below w.heap.size w w' := by
  have h1 := ha.cap
  have h2 := ha.max
  have h3 := hb.cap
  have h4 := hb.max
  have h5 := hc.cap
  have h6 := hc.max
  have f1 : n ≤ 410 := by omega
  have f2 : m ≤ 410 := by omega
  have f3 : l ≤ 410 := by omega
  have g1 : ¬ (60 < (n : Int)) := by omega
  have g2 : ¬ (60 < (m : Int)) := by omega
  have g3 : ¬ (60 < (l : Int)) := by omega
  go_enter Try.func10, Try.ntmps10
  go_wp2_with fail
  refine (awake_any _).mono ?_
  rintro e w1 ⟨rfl, hb1⟩
  go_wp2_with fail
  refine (few3_yes A B C n c m d l f w1 f1 f2 f3).mono ?_
  rintro e w2 ⟨rfl, hb2⟩
  have HB := Lib.hid (hb1.trans (hb2.mono hb1.size))
  clear hb1 hb2
  go_wp2_with fail
  refine (formed_any _ _ _ xs _ (ha.below HB.out)).mono ?_
  rintro e w' ⟨rfl, rfl⟩
  go_wp2_with fail
  refine (awake_any _).mono ?_
  rintro e w3 ⟨rfl, hb3⟩
  have HC := Lib.hid (HB.out.trans (hb3.mono HB.out.size))
  clear hb3
  go_wp2
  go_ret
  exact ⟨rfl, HC.out⟩
set_option maxRecDepth 100000 in
set_option maxHeartbeats 1600000 in
theorem rules_bad1 (A B C : Option Addr) (n c m d l f : Nat) (xs ys zs : List Nat) (w : World) (ha : Rd w A n c xs) (hb : Rd w B m d ys) (hc : Rd w C l f zs) (k1 : n ≤ 60) (k2 : m ≤ 60) (k3 : l ≤ 60) (fa : fmB xs = true) (fb : fmB ys = false) :
    Calls Try.prog 10 #[.slice A n c, .slice B m d, .slice C l f] w fun e w' => e = .returned (.bool true) ∧ Below w.heap.size w w' := by
  have h1 := ha.cap
  have h2 := ha.max
  have h3 := hb.cap
  have h4 := hb.max
  have h5 := hc.cap
  have h6 := hc.max
  have f1 : n ≤ 410 := by omega
  have f2 : m ≤ 410 := by omega
  have f3 : l ≤ 410 := by omega
  have g1 : ¬ (60 < (n : Int)) := by omega
  have g2 : ¬ (60 < (m : Int)) := by omega
  have g3 : ¬ (60 < (l : Int)) := by omega
  go_enter Try.func10, Try.ntmps10
  go_wp2_with fail
  refine (awake_any _).mono ?_
  rintro e w1 ⟨rfl, hb1⟩
  go_wp2_with fail
  refine (few3_yes A B C n c m d l f w1 f1 f2 f3).mono ?_
  rintro e w2 ⟨rfl, hb2⟩
  have HB := Lib.hid (hb1.trans (hb2.mono hb1.size))
  clear hb1 hb2
  go_wp2_with fail
  refine (formed_any _ _ _ xs _ (ha.below HB.out)).mono ?_
  rintro e w' ⟨rfl, rfl⟩
  go_wp2_with fail
  refine (formed_any _ _ _ ys _ (hb.below HB.out)).mono ?_
  rintro e w' ⟨rfl, rfl⟩
  go_wp2_with fail
  refine (awake_any _).mono ?_
  rintro e w3 ⟨rfl, hb3⟩
  have HC := Lib.hid (HB.out.trans (hb3.mono HB.out.size))
  clear hb3
  go_wp2
  go_ret
  exact ⟨rfl, HC.out⟩
set_option maxRecDepth 100000 in
set_option maxHeartbeats 1600000 in
theorem rules_bad2 (A B C : Option Addr) (n c m d l f : Nat) (xs ys zs : List Nat) (w : World) (ha : Rd w A n c xs) (hb : Rd w B m d ys) (hc : Rd w C l f zs) (k1 : n ≤ 60) (k2 : m ≤ 60) (k3 : l ≤ 60) (fa : fmB xs = true) (fb : fmB ys = true) (fc : fmB zs = false) :
    Calls Try.prog 10 #[.slice A n c, .slice B m d, .slice C l f] w fun e w' => e = .returned (.bool true) ∧ Below w.heap.size w w' := by
  have h1 := ha.cap
  have h2 := ha.max
  have h3 := hb.cap
  have h4 := hb.max
  have h5 := hc.cap
  have h6 := hc.max
  have f1 : n ≤ 410 := by omega
  have f2 : m ≤ 410 := by omega
  have f3 : l ≤ 410 := by omega
  have g1 : ¬ (60 < (n : Int)) := by omega
  have g2 : ¬ (60 < (m : Int)) := by omega
  have g3 : ¬ (60 < (l : Int)) := by omega
  go_enter Try.func10, Try.ntmps10
  go_wp2_with fail
  refine (awake_any _).mono ?_
  rintro e w1 ⟨rfl, hb1⟩
  go_wp2_with fail
  refine (few3_yes A B C n c m d l f w1 f1 f2 f3).mono ?_
  rintro e w2 ⟨rfl, hb2⟩
  have HB := Lib.hid (hb1.trans (hb2.mono hb1.size))
  clear hb1 hb2
  go_wp2_with fail
  refine (formed_any _ _ _ xs _ (ha.below HB.out)).mono ?_
  rintro e w' ⟨rfl, rfl⟩
  go_wp2_with fail
  refine (formed_any _ _ _ ys _ (hb.below HB.out)).mono ?_
  rintro e w' ⟨rfl, rfl⟩
  go_wp2_with fail
  refine (formed_any _ _ _ zs _ (hc.below HB.out)).mono ?_
  rintro e w' ⟨rfl, rfl⟩
  go_wp2_with fail
  refine (awake_any _).mono ?_
  rintro e w3 ⟨rfl, hb3⟩
  have HC := Lib.hid (HB.out.trans (hb3.mono HB.out.size))
  clear hb3
  go_wp2
  go_ret
  exact ⟨rfl, HC.out⟩
set_option maxRecDepth 100000 in
set_option maxHeartbeats 3200000 in
theorem rules_good (A B C : Option Addr) (n c m d l f a b r : Nat) (w : World) (ha : Rd w A n c (digs a)) (hb : Rd w B m d (digs b)) (hc : Rd w C l f (digs r)) (k1 : n ≤ 60) (k2 : m ≤ 60) (k3 : l ≤ 60) :
    Calls Try.prog 10 #[.slice A n c, .slice B m d, .slice C l f] w fun e w' => e = .returned (.bool true) ∧ Below w.heap.size w w' := by
  have h1 := ha.cap
  have h2 := ha.max
  have h3 := hb.cap
  have h4 := hb.max
  have h5 := hc.cap
  have h6 := hc.max
  have la : (digs a).length ≤ 60 := by rw [ha.len]; exact k1
  have lb : (digs b).length ≤ 60 := by rw [hb.len]; exact k2
  have lr : (digs r).length ≤ 60 := by rw [hc.len]; exact k3
  have lab := len_add la lb
  have lpr := len_mul lab lr
  have laq := len_mul la lr
  have lrb := len_mul lr lb
  have lsm := len_add laq lrb
  have HCO := Lib.hid (show (digs (b + a)) = digs (a + b) by rw [Nat.add_comm])
  have HDI := Lib.hid (show (digs (a * r + r * b)) = digs ((a + b) * r) by rw [Nat.add_mul, Nat.mul_comm r b])
  have HSU := Lib.hid (show (digs (a + b - b)) = digs a by rw [Nat.add_sub_cancel])
  have lco : (digs (b + a)).length ≤ 400 := by rw [HCO.out]; omega
  generalize hAB : a + b = ab at *
  have HAB := Lib.hid hAB
  clear hAB
  have f1 : n ≤ 410 := by omega
  have f2 : m ≤ 410 := by omega
  have f3 : l ≤ 410 := by omega
  have g1 : ¬ (60 < (n : Int)) := by omega
  have g2 : ¬ (60 < (m : Int)) := by omega
  have g3 : ¬ (60 < (l : Int)) := by omega
  go_enter Try.func10, Try.ntmps10
  go_wp2_with fail
  refine (awake_any _).mono ?_
  rintro e w1 ⟨rfl, hb1⟩
  go_wp2_with fail
  refine (few3_yes A B C n c m d l f w1 f1 f2 f3).mono ?_
  rintro e w2 ⟨rfl, hb2⟩
  have HB := Lib.hid (hb1.trans (hb2.mono hb1.size))
  clear hb1 hb2
  go_wp2_with fail
  refine (formed_nat _ _ _ a _ (ha.below HB.out) (by omega)).mono ?_
  rintro e w' ⟨rfl, rfl⟩
  go_wp2_with fail
  refine (formed_nat _ _ _ b _ (hb.below HB.out) (by omega)).mono ?_
  rintro e w' ⟨rfl, rfl⟩
  go_wp2_with fail
  refine (formed_nat _ _ _ r _ (hc.below HB.out) (by omega)).mono ?_
  rintro e w' ⟨rfl, rfl⟩
  go_wp2_with fail
  have c1 : ∀ W, Rd W A n c (digs a) → Rd W B m d (digs b) → Calls Try.prog 20 #[.slice A n c, .slice B m d] W (Out2 W (digs ab) 0) := fun W q1 q2 => by
    have := add_nat A B n c m d a b W q1 q2 (by omega) (by omega) (by rw [HAB.out]; omega)
    rwa [HAB.out] at this
  refine (c1 _ (ha.below HB.out) (hb.below HB.out)).mono ?_
  clear c1
  rintro e w3 ⟨X, xn, xc, rfl, hX, hb3⟩
  have HB3 := Lib.hid (HB.out.trans (hb3.mono HB.out.size))
  have HX3 := Lib.hid hX.1
  clear hb3 hX HB
  go_wp2_with fail
  have c2 : ∀ W, Rd W A n c (digs a) → Rd W B m d (digs b) → Calls Try.prog 20 #[.slice B m d, .slice A n c] W (Out2 W (digs ab) 0) := fun W q1 q2 => by
    have := add_nat B A m d n c b a W q2 q1 (by omega) (by omega) lco
    rwa [HCO.out] at this
  refine (c2 _ (ha.below HB3.out) (hb.below HB3.out)).mono ?_
  clear c2
  rintro e w4 ⟨Y, yn, yc, rfl, hY, hb4⟩
  have HB4 := Lib.hid (HB3.out.trans (hb4.mono HB3.out.size))
  have HX4 := Lib.hid (HX3.out.below hb4)
  have HY4 := Lib.hid hY.1
  clear hb4 hY HB3 HX3
  go_wp2_with fail
  refine (mul_nat X C xn xc l f ab r _ HX4.out (hc.below HB4.out) (by omega) (by omega) (by omega)).mono ?_
  rintro e w5 ⟨U, un, uc, rfl, hU, hb5⟩
  have HB5 := Lib.hid (HB4.out.trans (hb5.mono HB4.out.size))
  have HX5 := Lib.hid (HX4.out.below hb5)
  have HY5 := Lib.hid (HY4.out.below hb5)
  have HU5 := Lib.hid hU.1
  clear hb5 hU HB4 HX4 HY4
  go_wp2_with fail
  refine (mul_nat A C n c l f a r _ (ha.below HB5.out) (hc.below HB5.out) (by omega) (by omega) (by omega)).mono ?_
  rintro e w6 ⟨V, vn, vc, rfl, hV, hb6⟩
  have HB6 := Lib.hid (HB5.out.trans (hb6.mono HB5.out.size))
  have HX6 := Lib.hid (HX5.out.below hb6)
  have HY6 := Lib.hid (HY5.out.below hb6)
  have HU6 := Lib.hid (HU5.out.below hb6)
  have HV6 := Lib.hid hV.1
  clear hb6 hV HB5 HX5 HY5 HU5
  go_wp2_with fail
  refine (mul_nat C B l f m d r b _ (hc.below HB6.out) (hb.below HB6.out) (by omega) (by omega) (by omega)).mono ?_
  rintro e w7 ⟨S, sn, sc, rfl, hS, hb7⟩
  have HB7 := Lib.hid (HB6.out.trans (hb7.mono HB6.out.size))
  have HX7 := Lib.hid (HX6.out.below hb7)
  have HY7 := Lib.hid (HY6.out.below hb7)
  have HU7 := Lib.hid (HU6.out.below hb7)
  have HV7 := Lib.hid (HV6.out.below hb7)
  have HS7 := Lib.hid hS.1
  clear hb7 hS HB6 HX6 HY6 HU6 HV6
  go_wp2_with fail
  have c3 : ∀ W, Rd W V vn vc (digs (a * r)) → Rd W S sn sc (digs (r * b)) → Calls Try.prog 20 #[.slice V vn vc, .slice S sn sc] W (Out2 W (digs (ab * r)) 0) := fun W q1 q2 => by
    have := add_nat V S vn vc sn sc (a * r) (r * b) W q1 q2 (by omega) (by omega) (by omega)
    rwa [HDI.out] at this
  refine (c3 _ HV7.out HS7.out).mono ?_
  clear c3
  rintro e w8 ⟨T, tn, tc, rfl, hT, hb8⟩
  have HB8 := Lib.hid (HB7.out.trans (hb8.mono HB7.out.size))
  have HX8 := Lib.hid (HX7.out.below hb8)
  have HY8 := Lib.hid (HY7.out.below hb8)
  have HU8 := Lib.hid (HU7.out.below hb8)
  have HT8 := Lib.hid hT.1
  clear hb8 hT HB7 HX7 HY7 HU7 HV7 HS7
  go_wp2_with fail
  have hba : b ≤ ab := by have := HAB.out; omega
  have haa : a ≤ ab := by have := HAB.out; omega
  have c4 : ∀ W, Rd W X xn xc (digs ab) → Rd W B m d (digs b) → Calls Try.prog 22 #[.slice X xn xc, .slice B m d] W (Out2 W (digs a) 0) := fun W q1 q2 => by
    have := sub_nat X B xn xc m d ab b W q1 q2 (by omega) (by omega) hba
    rwa [HSU.out] at this
  refine (c4 _ HX8.out (hb.below HB8.out)).mono ?_
  clear c4
  rintro e w9 ⟨R, rn, rc, rfl, hR, hb9⟩
  have HB9 := Lib.hid (HB8.out.trans (hb9.mono HB8.out.size))
  have HX9 := Lib.hid (HX8.out.below hb9)
  have HY9 := Lib.hid (HY8.out.below hb9)
  have HU9 := Lib.hid (HU8.out.below hb9)
  have HT9 := Lib.hid (HT8.out.below hb9)
  have HR9 := Lib.hid hR.1
  clear hb9 hR HB8 HX8 HY8 HU8 HT8
  go_wp2_with fail
  refine (cmp_same _ _ _ _ _ _ ab _ HX9.out HY9.out (by omega)).mono ?_
  rintro e w' ⟨rfl, q1, rfl⟩
  go_wp2_with fail
  refine (cmp_same _ _ _ _ _ _ (ab * r) _ (HU9.out.drewN _) (HT9.out.drewN _) (by omega)).mono ?_
  rintro e w' ⟨rfl, q2, rfl⟩
  go_wp2_with fail
  refine (formed_nat _ _ _ (ab * r) _ (HU9.out.drewN _) (by omega)).mono ?_
  rintro e w' ⟨rfl, rfl⟩
  go_wp2_with fail
  refine (cmp_same _ _ _ _ _ _ a _ (HR9.out.drewN _) ((ha.below HB9.out).drewN _) (by omega)).mono ?_
  rintro e w' ⟨rfl, q3, rfl⟩
  go_wp2_with fail
  refine (cmp_nat _ _ _ _ _ _ ab a _ (HX9.out.drewN _) ((ha.below HB9.out).drewN _) (by omega) (by omega)).mono ?_
  rintro e w' ⟨rfl, q4, rfl⟩
  have hge := cmpN_ge haa
  have hge' : 0 ≤ cmpN ab a := by omega
  go_wp2
  go_ret
  exact ⟨rfl, by first | exact below_drewN' HB9.out _ | exact below_drewN' (below_drewN' HB9.out _) _⟩
theorem rules_walk (A B C : Option Addr) (n c m d l f : Nat) (xs ys zs : List Nat) (w : World) (ha : Rd w A n c xs) (hb : Rd w B m d ys) (hc : Rd w C l f zs) :
    Calls Try.prog 10 #[.slice A n c, .slice B m d, .slice C l f] w fun e w' => e = .returned (.bool true) ∧ Below w.heap.size w w' := by
  by_cases h0 : 410 < n ∨ 410 < m ∨ 410 < l
  · exact rules_few A B C n c m d l f xs ys zs w ha hb hc h0
  by_cases h1 : 60 < n
  · exact rules_len0 A B C n c m d l f xs ys zs w ha hb hc h1 (by omega) (by omega) (by omega)
  by_cases h2 : 60 < m
  · exact rules_len1 A B C n c m d l f xs ys zs w ha hb hc (by omega) h2 (by omega) (by omega)
  by_cases h3 : 60 < l
  · exact rules_len2 A B C n c m d l f xs ys zs w ha hb hc (by omega) (by omega) h3 (by omega)
  cases fa : fmB xs
  · exact rules_bad0 A B C n c m d l f xs ys zs w ha hb hc (by omega) (by omega) (by omega) fa
  cases fb : fmB ys
  · exact rules_bad1 A B C n c m d l f xs ys zs w ha hb hc (by omega) (by omega) (by omega) fa fb
  cases fc : fmB zs
  · exact rules_bad2 A B C n c m d l f xs ys zs w ha hb hc (by omega) (by omega) (by omega) fa fb fc
  obtain ⟨a, rfl, _⟩ := digs_of ha.lim fa
  obtain ⟨b, rfl, _⟩ := digs_of hb.lim fb
  obtain ⟨r, rfl, _⟩ := digs_of hc.lim fc
  exact rules_good A B C n c m d l f a b r w ha hb hc (by omega) (by omega) (by omega)
end Go.Proofs.Ytggfkcdogjebcaa
