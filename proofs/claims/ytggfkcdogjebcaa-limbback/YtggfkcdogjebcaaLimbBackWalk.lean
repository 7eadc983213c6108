/-
  The walk of the law LimbBack: for every three slices that can be read the call returns true and writes nothing that was there.
-/
import Derived.Test.YtggfkcdogjebcaaAwake
import Derived.Test.YtggfkcdogjebcaaNatDiv
namespace Go.Proofs.Ytggfkcdogjebcaa
open Go.RowKit

set_option maxRecDepth 100000 in
set_option maxHeartbeats 1600000 in
theorem back_few (A B C : Option Addr) (n c m d l f : Nat) (xs ys zs : List Nat) (w : World) (ha : Rd w A n c xs) (hb : Rd w B m d ys) (hc : Rd w C l f zs) (hor : 410 < n ∨ 410 < m ∨ 410 < l) :
    Calls Try.prog 8 #[.slice A n c, .slice B m d, .slice C l f] w fun e w' => e = .returned (.bool true) ∧ Below w.heap.size w w' := by
  have h1 := ha.cap
  have h2 := ha.max
  have h3 := hb.cap
  have h4 := hb.max
  have h5 := hc.cap
  have h6 := hc.max
  go_enter Try.func8, Try.ntmps8
  go_wp2_with fail
  refine (awake_any _).mono ?_
  rintro e w1 ⟨rfl, hb1⟩
  go_wp2_with fail
  refine (few3_no A B C n c m d l f w1 hor (by omega) (by omega) (by omega)).mono ?_
  rintro e w2 ⟨rfl, hb2⟩
  have HB := Lib.hid (hb1.trans (hb2.mono hb1.size))
  clear hb1 hb2
  go_wp2_with fail
  refine (awake_any _).mono ?_
  rintro e w3 ⟨rfl, hb3⟩
  have HC := Lib.hid (HB.out.trans (hb3.mono HB.out.size))
  clear hb3
  go_wp2
  go_ret
  exact ⟨rfl, HC.out⟩
set_option maxRecDepth 100000 in
set_option maxHeartbeats 1600000 in
theorem back_len (A B C : Option Addr) (n c m d l f : Nat) (xs ys zs : List Nat) (w : World) (ha : Rd w A n c xs) (hb : Rd w B m d ys) (hc : Rd w C l f zs) (f1 : n ≤ 410) (f2 : m ≤ 410) (f3 : l ≤ 410) (hx : 390 < n + m) :
    Calls Try.prog 8 #[.slice A n c, .slice B m d, .slice C l f] w fun e w' => e = .returned (.bool true) ∧ Below w.heap.size w w' := by
  have h1 := ha.cap
  have h2 := ha.max
  have h3 := hb.cap
  have h4 := hb.max
  have h5 := hc.cap
  have h6 := hc.max
  have g1 : 390 < (n : Int) + (m : Int) := by omega
  go_enter Try.func8, Try.ntmps8
  go_wp2_with fail
  refine (awake_any _).mono ?_
  rintro e w1 ⟨rfl, hb1⟩
  go_wp2_with fail
  refine (few3_yes A B C n c m d l f w1 f1 f2 f3).mono ?_
  rintro e w2 ⟨rfl, hb2⟩
  have HB := Lib.hid (hb1.trans (hb2.mono hb1.size))
  clear hb1 hb2
  go_wp2_with fail
  refine (awake_any _).mono ?_
  rintro e w3 ⟨rfl, hb3⟩
  have HC := Lib.hid (HB.out.trans (hb3.mono HB.out.size))
  clear hb3
  go_wp2
  go_ret
  exact ⟨rfl, HC.out⟩
set_option maxRecDepth 100000 in
set_option maxHeartbeats 1600000 in
theorem back_bad0 (A B C : Option Addr) (n c m d l f : Nat) (xs ys zs : List Nat) (w : World) (ha : Rd w A n c xs) (hb : Rd w B m d ys) (hc : Rd w C l f zs) (f1 : n ≤ 410) (f2 : m ≤ 410) (f3 : l ≤ 410) (hx : n + m ≤ 390) (fa : fmB xs = false) :
    Calls Try.prog 8 #[.slice A n c, .slice B m d, .slice C l f] w fun e w' => e = .returned (.bool true) ∧ Below w.heap.size w w' := by
  have h1 := ha.cap
  have h2 := ha.max
  have h3 := hb.cap
  have h4 := hb.max
  have h5 := hc.cap
  have h6 := hc.max
  have g1 : ¬ (390 < (n : Int) + (m : Int)) := by omega
  go_enter Try.func8, Try.ntmps8
  go_wp2_with fail
  refine (awake_any _).mono ?_
  rintro e w1 ⟨rfl, hb1⟩
  go_wp2_with fail
  refine (few3_yes A B C n c m d l f w1 f1 f2 f3).mono ?_
  rintro e w2 ⟨rfl, hb2⟩
  have HB := Lib.hid (hb1.trans (hb2.mono hb1.size))
  clear hb1 hb2
  go_wp2_with fail
  refine (formed_any _ _ _ xs _ (ha.below HB.out)).mono ?_
  rintro e w' ⟨rfl, rfl⟩
  go_wp2_with fail
  refine (awake_any _).mono ?_
  rintro e w3 ⟨rfl, hb3⟩
  have HC := Lib.hid (HB.out.trans (hb3.mono HB.out.size))
  clear hb3
  go_wp2
  go_ret
  exact ⟨rfl, HC.out⟩
set_option maxRecDepth 100000 in
set_option maxHeartbeats 1600000 in
theorem back_bad1 (A B C : Option Addr) (n c m d l f : Nat) (xs ys zs : List Nat) (w : World) (ha : Rd w A n c xs) (hb : Rd w B m d ys) (hc : Rd w C l f zs) (f1 : n ≤ 410) (f2 : m ≤ 410) (f3 : l ≤ 410) (hx : n + m ≤ 390) (fa : fmB xs = true) (fb : fmB ys = false) :
    Calls Try.prog 8 #[.slice A n c, .slice B m d, .slice C l f] w fun e w' => e = .returned (.bool true) ∧ Below w.heap.size w w' := by
  have h1 := ha.cap
  have h2 := ha.max
  have h3 := hb.cap
  have h4 := hb.max
  have h5 := hc.cap
  have h6 := hc.max
  have g1 : ¬ (390 < (n : Int) + (m : Int)) := by omega
  go_enter Try.func8, Try.ntmps8
  go_wp2_with fail
  refine (awake_any _).mono ?_
  rintro e w1 ⟨rfl, hb1⟩
  go_wp2_with fail
  refine (few3_yes A B C n c m d l f w1 f1 f2 f3).mono ?_
  rintro e w2 ⟨rfl, hb2⟩
  have HB := Lib.hid (hb1.trans (hb2.mono hb1.size))
  clear hb1 hb2
  go_wp2_with fail
  refine (formed_any _ _ _ xs _ (ha.below HB.out)).mono ?_
  rintro e w' ⟨rfl, rfl⟩
  go_wp2_with fail
  refine (formed_any _ _ _ ys _ (hb.below HB.out)).mono ?_
  rintro e w' ⟨rfl, rfl⟩
  go_wp2_with fail
  refine (awake_any _).mono ?_
  rintro e w3 ⟨rfl, hb3⟩
  have HC := Lib.hid (HB.out.trans (hb3.mono HB.out.size))
  clear hb3
  go_wp2
  go_ret
  exact ⟨rfl, HC.out⟩
set_option maxRecDepth 100000 in
set_option maxHeartbeats 1600000 in
theorem back_bad2 (A B C : Option Addr) (n c m d l f : Nat) (xs ys zs : List Nat) (w : World) (ha : Rd w A n c xs) (hb : Rd w B m d ys) (hc : Rd w C l f zs) (f1 : n ≤ 410) (f2 : m ≤ 410) (f3 : l ≤ 410) (hx : n + m ≤ 390) (fa : fmB xs = true) (fb : fmB ys = true) (fc : fmB zs = false) :
    Calls Try.prog 8 #[.slice A n c, .slice B m d, .slice C l f] w fun e w' => e = .returned (.bool true) ∧ Below w.heap.size w w' := by
  have h1 := ha.cap
  have h2 := ha.max
  have h3 := hb.cap
  have h4 := hb.max
  have h5 := hc.cap
  have h6 := hc.max
  have g1 : ¬ (390 < (n : Int) + (m : Int)) := by omega
  go_enter Try.func8, Try.ntmps8
  go_wp2_with fail
  refine (awake_any _).mono ?_
  rintro e w1 ⟨rfl, hb1⟩
  go_wp2_with fail
  refine (few3_yes A B C n c m d l f w1 f1 f2 f3).mono ?_
  rintro e w2 ⟨rfl, hb2⟩
  have HB := Lib.hid (hb1.trans (hb2.mono hb1.size))
  clear hb1 hb2
  go_wp2_with fail
  refine (formed_any _ _ _ xs _ (ha.below HB.out)).mono ?_
  rintro e w' ⟨rfl, rfl⟩
  go_wp2_with fail
  refine (formed_any _ _ _ ys _ (hb.below HB.out)).mono ?_
  rintro e w' ⟨rfl, rfl⟩
  go_wp2_with fail
  refine (formed_any _ _ _ zs _ (hc.below HB.out)).mono ?_
  rintro e w' ⟨rfl, rfl⟩
  go_wp2_with fail
  refine (awake_any _).mono ?_
  rintro e w3 ⟨rfl, hb3⟩
  have HC := Lib.hid (HB.out.trans (hb3.mono HB.out.size))
  clear hb3
  go_wp2
  go_ret
  exact ⟨rfl, HC.out⟩
set_option maxRecDepth 100000 in
set_option maxHeartbeats 1600000 in
theorem back_ge (A B C : Option Addr) (n c m d l f a b r : Nat) (w : World) (ha : Rd w A n c (digs a)) (hb : Rd w B m d (digs b)) (hc : Rd w C l f (digs r)) (f1 : n ≤ 410) (f2 : m ≤ 410) (f3 : l ≤ 410) (hx : n + m ≤ 390) (lc' : (digs r).length ≤ 400) (hge : b ≤ r) :
    Calls Try.prog 8 #[.slice A n c, .slice B m d, .slice C l f] w fun e w' => e = .returned (.bool true) ∧ Below w.heap.size w w' := by
  have h1 := ha.cap
  have h2 := ha.max
  have h3 := hb.cap
  have h4 := hb.max
  have h5 := hc.cap
  have h6 := hc.max
  have la : (digs a).length = n := ha.len
  have lb : (digs b).length = m := hb.len
  have lc : (digs r).length = l := hc.len
  have la' : (digs a).length ≤ 400 := by omega
  have lb' : (digs b).length ≤ 400 := by omega
  have HLA := Lib.hid la
  have HLB := Lib.hid lb
  have HLC := Lib.hid lc
  clear la lb lc
  have g1 : ¬ (390 < (n : Int) + (m : Int)) := by omega
  have hcm := cmpN_ge hge
  have hcm' : 0 ≤ cmpN r b := by omega
  go_enter Try.func8, Try.ntmps8
  go_wp2_with fail
  refine (awake_any _).mono ?_
  rintro e w1 ⟨rfl, hb1⟩
  go_wp2_with fail
  refine (few3_yes A B C n c m d l f w1 f1 f2 f3).mono ?_
  rintro e w2 ⟨rfl, hb2⟩
  have HB := Lib.hid (hb1.trans (hb2.mono hb1.size))
  clear hb1 hb2
  go_wp2_with fail
  refine (formed_nat _ _ _ a _ (ha.below HB.out) (by omega)).mono ?_
  rintro e w' ⟨rfl, rfl⟩
  go_wp2_with fail
  refine (formed_nat _ _ _ b _ (hb.below HB.out) (by omega)).mono ?_
  rintro e w' ⟨rfl, rfl⟩
  go_wp2_with fail
  refine (formed_nat _ _ _ r _ (hc.below HB.out) (by omega)).mono ?_
  rintro e w' ⟨rfl, rfl⟩
  go_wp2_with fail
  refine (cmp_nat _ _ _ _ _ _ r b _ (hc.below HB.out) (hb.below HB.out) lc' lb').mono ?_
  rintro e w' ⟨rfl, q, rfl⟩
  go_wp2_with fail
  refine (awake_any _).mono ?_
  rintro e w3 ⟨rfl, hb3⟩
  have HC := Lib.hid ((below_drewN' HB.out q).trans (hb3.mono HB.out.size))
  clear hb3
  go_wp2
  go_ret
  exact ⟨rfl, HC.out⟩
set_option maxRecDepth 100000 in
set_option maxHeartbeats 3200000 in
theorem back_good (A B C : Option Addr) (n c m d l f a b r : Nat) (w : World) (ha : Rd w A n c (digs a)) (hb : Rd w B m d (digs b)) (hc : Rd w C l f (digs r)) (f1 : n ≤ 410) (f2 : m ≤ 410) (f3 : l ≤ 410) (hx : n + m ≤ 390) (lc' : (digs r).length ≤ 400) (hlt : r < b) :
    Calls Try.prog 8 #[.slice A n c, .slice B m d, .slice C l f] w fun e w' => e = .returned (.bool true) ∧ Below w.heap.size w w' := by
  have h1 := ha.cap
  have h2 := ha.max
  have h3 := hb.cap
  have h4 := hb.max
  have h5 := hc.cap
  have h6 := hc.max
  have la : (digs a).length = n := ha.len
  have lb : (digs b).length = m := hb.len
  have lc : (digs r).length = l := hc.len
  have la' : (digs a).length ≤ 400 := by omega
  have lb' : (digs b).length ≤ 400 := by omega
  have HLA := Lib.hid la
  have HLB := Lib.hid lb
  have HLC := Lib.hid lc
  have lp := len_mul (a := a) (b := b) (i := n) (j := m) (by omega) (by omega)
  have lbr : (digs r).length ≤ m := by rw [← lb]; exact len_digs_mono (by omega)
  have ls := len_add (a := a * b) (b := r) (i := n + m) lp (by omega)
  have HQ := Lib.hid (show (a * b + r) / b = a ∧ (a * b + r) % b = r by
    constructor
    · rw [Nat.mul_comm, Nat.mul_add_div (by omega), Nat.div_eq_of_lt hlt, Nat.add_zero]
    · rw [Nat.mul_comm, Nat.mul_add_mod, Nat.mod_eq_of_lt hlt])
  have hb0 : b ≠ 0 := by omega
  have HB0 := Lib.hid hb0
  have HLT := Lib.hid hlt
  clear hb0 hlt
  clear la lb lc
  have g1 : ¬ (390 < (n : Int) + (m : Int)) := by omega
  go_enter Try.func8, Try.ntmps8
  go_wp2_with fail
  refine (awake_any _).mono ?_
  rintro e w1 ⟨rfl, hb1⟩
  go_wp2_with fail
  refine (few3_yes A B C n c m d l f w1 f1 f2 f3).mono ?_
  rintro e w2 ⟨rfl, hb2⟩
  have HB := Lib.hid (hb1.trans (hb2.mono hb1.size))
  clear hb1 hb2
  go_wp2_with fail
  refine (formed_nat _ _ _ a _ (ha.below HB.out) (by omega)).mono ?_
  rintro e w' ⟨rfl, rfl⟩
  go_wp2_with fail
  refine (formed_nat _ _ _ b _ (hb.below HB.out) (by omega)).mono ?_
  rintro e w' ⟨rfl, rfl⟩
  go_wp2_with fail
  refine (formed_nat _ _ _ r _ (hc.below HB.out) (by omega)).mono ?_
  rintro e w' ⟨rfl, rfl⟩
  go_wp2_with fail
  refine (cmp_nat _ _ _ _ _ _ r b _ (hc.below HB.out) (hb.below HB.out) lc' lb').mono ?_
  rw [cmpN_lt HLT.out]
  rintro e w' ⟨rfl, q, rfl⟩
  have HBq := Lib.hid (below_drewN' HB.out q)
  clear HB
  go_wp2_with fail
  refine (mul_nat A B n c m d a b _ (ha.below HBq.out) (hb.below HBq.out) la' lb' (by omega)).mono ?_
  rintro e w3 ⟨X, xn, xc, rfl, hX, hb3⟩
  have HB3 := Lib.hid (HBq.out.trans (hb3.mono HBq.out.size))
  have HX3 := Lib.hid hX.1
  clear hb3 hX HBq
  go_wp2_with fail
  refine (add_nat X C xn xc l f (a * b) r _ HX3.out (hc.below HB3.out) (by omega) lc' (by omega)).mono ?_
  rintro e w4 ⟨Y, yn, yc, rfl, hY, hb4⟩
  have HB4 := Lib.hid (HB3.out.trans (hb4.mono HB3.out.size))
  have HY4 := Lib.hid hY.1
  clear hb4 hY HB3 HX3
  go_wp2_with fail
  refine (div_nat Y B yn yc m d (a * b + r) b _ HY4.out (hb.below HB4.out) (by omega) lb' HB0.out).mono ?_
  rw [HQ.out.1, HQ.out.2]
  rintro e w5 ⟨U, un, uc, V, vn, vc, rfl, hU, hV, hb5⟩
  have HB5 := Lib.hid (HB4.out.trans (hb5.mono HB4.out.size))
  have HU5 := Lib.hid hU.1
  have HV5 := Lib.hid hV.1
  clear hb5 hU hV HB4 HY4
  go_wp2_with fail
  refine (cmp_same _ _ _ _ _ _ a _ HU5.out (ha.below HB5.out) la').mono ?_
  rintro e w' ⟨rfl, q1, rfl⟩
  go_wp2_with fail
  refine (cmp_same _ _ _ _ _ _ r _ (HV5.out.drewN _) ((hc.below HB5.out).drewN _) lc').mono ?_
  rintro e w' ⟨rfl, q2, rfl⟩
  go_wp2
  go_ret
  exact ⟨rfl, by first | exact below_drewN' HB5.out _ | exact below_drewN' (below_drewN' HB5.out _) _⟩
theorem back_walk (A B C : Option Addr) (n c m d l f : Nat) (xs ys zs : List Nat) (w : World) (ha : Rd w A n c xs) (hb : Rd w B m d ys) (hc : Rd w C l f zs) :
    Calls Try.prog 8 #[.slice A n c, .slice B m d, .slice C l f] w fun e w' => e = .returned (.bool true) ∧ Below w.heap.size w w' := by
  by_cases h0 : 410 < n ∨ 410 < m ∨ 410 < l
  · exact back_few A B C n c m d l f xs ys zs w ha hb hc h0
  by_cases h1 : 390 < n + m
  · exact back_len A B C n c m d l f xs ys zs w ha hb hc (by omega) (by omega) (by omega) h1
  cases fa : fmB xs
  · exact back_bad0 A B C n c m d l f xs ys zs w ha hb hc (by omega) (by omega) (by omega) (by omega) fa
  cases fb : fmB ys
  · exact back_bad1 A B C n c m d l f xs ys zs w ha hb hc (by omega) (by omega) (by omega) (by omega) fa fb
  cases fc : fmB zs
  · exact back_bad2 A B C n c m d l f xs ys zs w ha hb hc (by omega) (by omega) (by omega) (by omega) fa fb fc
  obtain ⟨a, rfl, _⟩ := digs_of ha.lim fa
  obtain ⟨b, rfl, _⟩ := digs_of hb.lim fb
  obtain ⟨r, rfl, lc⟩ := digs_of hc.lim fc
  rcases Nat.lt_or_ge r b with h | h
  · exact back_good A B C n c m d l f a b r w ha hb hc (by omega) (by omega) (by omega) (by omega) lc h
  · exact back_ge A B C n c m d l f a b r w ha hb hc (by omega) (by omega) (by omega) (by omega) lc h
end Go.Proofs.Ytggfkcdogjebcaa
