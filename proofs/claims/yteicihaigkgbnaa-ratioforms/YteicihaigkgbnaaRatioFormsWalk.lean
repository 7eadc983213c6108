/-
  The walk of the law RatioForms: for every fraction that can be read and every two 64-bit numbers the call returns true and writes nothing that was there.
-/
import Derived.Test.YteicihaigkgbnaaLaw2
namespace Go.Proofs.Yteicihaigkgbnaa
open Go.RowKit

theorem below_drew' {B : Nat} {a w : World} (h : Below B a w) : Below B a w.drew := ⟨h.os, h.tape, h.output, h.size, h.block⟩
theorem cells1 {W W' : World} {T : TypeId} {g : Nat} {u v : Value} (h : Bs W T g u v) (hb : Below W.heap.size W W') : W'.cell? ⟨g, 0, none⟩ = some u ∧ W'.cell? ⟨g, 1, none⟩ = some v := (h.below hb h.lt).cells
theorem cells4 {W W' : World} {T1 T2 T3 T4 : TypeId} {g1 g2 g3 g4 : Nat} {u1 v1 u2 v2 u3 v3 u4 v4 : Value} (h1 : Bs W T1 g1 u1 v1) (h2 : Bs W T2 g2 u2 v2) (h3 : Bs W T3 g3 u3 v3) (h4 : Bs W T4 g4 u4 v4) (hb : Below W.heap.size W W') :
    W'.cell? ⟨g1, 0, none⟩ = some u1 ∧ W'.cell? ⟨g1, 1, none⟩ = some v1 ∧ W'.cell? ⟨g2, 0, none⟩ = some u2 ∧ W'.cell? ⟨g2, 1, none⟩ = some v2 ∧ W'.cell? ⟨g3, 0, none⟩ = some u3 ∧ W'.cell? ⟨g3, 1, none⟩ = some v3 ∧ W'.cell? ⟨g4, 0, none⟩ = some u4 ∧ W'.cell? ⟨g4, 1, none⟩ = some v4 :=
  ⟨(cells1 h1 hb).1, (cells1 h1 hb).2, (cells1 h2 hb).1, (cells1 h2 hb).2, (cells1 h3 hb).1, (cells1 h3 hb).2, (cells1 h4 hb).1, (cells1 h4 hb).2⟩

set_option maxRecDepth 100000 in
set_option maxHeartbeats 1600000 in
theorem rforms_few (A B : Option Addr) (n c m d P Q : Nat) (xs ys : List Nat) (w : World) (ha : Rd w A n c xs) (hb : Rd w B m d ys) (hor : 24 < n ∨ 24 < m) :
    Calls Try.prog 3 #[.agg #[.slice A n c, .slice B m d], .int .u64 P, .int .u64 Q] w fun e w' => e = .returned (.bool true) ∧ Below w.heap.size w w' := by
  have h1 := ha.cap
  have h2 := ha.max
  have h3 := hb.cap
  have h4 := hb.max
  have hB0 := Bs.new w 25 (.slice A n c) (.slice B m d)
  have hb0 : Below w.heap.size w (w.alloc (.cells #[.slice A n c, .slice B m d] 25)) := (Below.refl _ _).alloc (Nat.le_refl _) _
  go_enter Try.func3, Try.ntmps3
  go_wp2_with fail
  generalize w.alloc (Obj.cells #[Value.slice A n c, Value.slice B m d] 25) = W0 at *
  refine (awake2_any _).mono ?_
  rintro e w1 ⟨rfl, hb1⟩
  have hB1 := hB0.below hb1 hB0.lt
  obtain ⟨k0, k1⟩ := hB1.cells
  have hb01 := hb0.trans (hb1.mono hb0.size)
  go_wp2_with fail
  refine (Few1_no A B n c m d w1 hor (by omega) (by omega)).mono ?_
  rintro e w2 ⟨rfl, hb2⟩
  have HB2 := Lib.hid (hb01.trans (hb2.mono hb01.size))
  clear hb01 hb1 hb2 hB0 hB1 hb0 k0 k1
  go_wp2_with fail
  refine (awake2_any _).mono ?_
  rintro e w3 ⟨rfl, hb3⟩
  have HC := Lib.hid (HB2.out.trans (hb3.mono HB2.out.size))
  clear hb3
  go_wp2
  go_ret
  exact ⟨rfl, HC.out⟩

set_option maxRecDepth 100000 in
set_option maxHeartbeats 3200000 in
theorem rforms_zero (A B : Option Addr) (n c m d P : Nat) (xs ys : List Nat) (w : World) (ha : Rd w A n c xs) (hb : Rd w B m d ys) (f1 : n ≤ 24) (f2 : m ≤ 24) (hP : P < 18446744073709551616) :
    Calls Try.prog 3 #[.agg #[.slice A n c, .slice B m d], .int .u64 P, .int .u64 0] w fun e w' => e = .returned (.bool true) ∧ Below w.heap.size w w' := by
  obtain ⟨us, vs, k, hR⟩ : ∃ us vs k, mkR xs ys = (us, vs, k) := ⟨_, _, _, rfl⟩
  have cD : ∀ W, Rd W A n c xs → Rd W B m d ys → Calls Try.prog 10 #[.slice A n c, .slice B m d] W (OutR2 W us vs k) := fun W g1 g2 => by
    have := make_any A B n c m d xs ys W g1 g2
    rw [hR] at this; exact this
  have cR : ∀ W, Rd W A n c xs → Rd W B m d ys → Calls Try.prog 11 #[.slice A n c, .slice B m d] W (OutR2 W us vs k) := fun W g1 g2 => by
    have := rmake_any A B n c m d xs ys W g1 g2
    rw [hR] at this; exact this
  have cO : ∀ W, Calls Try.prog 12 #[.int .u64 P, .int .u64 0] W (OutR2 W [] [] 5) := fun W => by
    have := qof_any P 0 W hP (by omega)
    have e : mkR (digs P) (digs 0) = ([], [], 5) := by
      unfold mkR
      rw [fm_digs (Nat.le_trans (len64 hP) (by omega)), digs_zero, fmB_nil]; rfl
    rw [e] at this; exact this
  have HcD := Lib.hid cD
  have HcR := Lib.hid cR
  have HcO := Lib.hid cO
  clear cD cR cO hR
  have hB0 := Bs.new w 25 (.slice A n c) (.slice B m d)
  have hb0 : Below w.heap.size w (w.alloc (.cells #[.slice A n c, .slice B m d] 25)) := (Below.refl _ _).alloc (Nat.le_refl _) _
  go_enter Try.func3, Try.ntmps3
  go_wp2_with fail
  generalize w.alloc (Obj.cells #[Value.slice A n c, Value.slice B m d] 25) = W0 at *
  refine (awake2_any _).mono ?_
  rintro e w1 ⟨rfl, hb1⟩
  have hB1 := hB0.below hb1 hB0.lt
  obtain ⟨k0, k1⟩ := hB1.cells
  have hb01 := hb0.trans (hb1.mono hb0.size)
  go_wp2_with fail
  refine (Few1_yes A B n c m d w1 f1 f2).mono ?_
  rintro e w2 ⟨rfl, hb2⟩
  have hb02 := hb01.trans (hb2.mono hb01.size)
  have hB2 := hB1.below hb2 hB1.lt
  clear hb01 hb1 hb2 hB0 hB1 hb0 k0 k1
  obtain ⟨k0, k1⟩ := hB2.cells
  go_wp2_with fail
  refine (HcD.out _ (ha.below hb02) (hb.below hb02)).mono ?_
  rintro e w3 ⟨X, xn, xc, X', xn', xc', rfl, hX, hX', hb3⟩
  have hBx := Bs.new w3 31 (.slice X xn xc) (.slice X' xn' xc')
  have hb3' := hb3.alloc hb3.size (.cells #[.slice X xn xc, .slice X' xn' xc'] 31)
  have hXx := hX.1.alloc (.cells #[.slice X xn xc, .slice X' xn' xc'] 31)
  have hXy := hX'.1.alloc (.cells #[.slice X xn xc, .slice X' xn' xc'] 31)
  have hB3 := hB2.below hb3' hB2.lt
  have hb03 := hb02.trans (hb3'.mono hb02.size)
  clear k0 k1 hb02 hb3 hX hX' hB2
  obtain ⟨k0, k1⟩ := hB3.cells
  go_wp2_with fail
  generalize w3.alloc (Obj.cells #[Value.slice X xn xc, Value.slice X' xn' xc'] 31) = W3 at *
  refine (HcR.out _ (ha.below hb03) (hb.below hb03)).mono ?_
  rintro e w4 ⟨Y, yn, yc, Y', yn', yc', rfl, hY, hY', hb4⟩
  have hBy := Bs.new w4 25 (.slice Y yn yc) (.slice Y' yn' yc')
  have hb4' := hb4.alloc hb4.size (.cells #[.slice Y yn yc, .slice Y' yn' yc'] 25)
  have hYx := hY.1.alloc (.cells #[.slice Y yn yc, .slice Y' yn' yc'] 25)
  have hYy := hY'.1.alloc (.cells #[.slice Y yn yc, .slice Y' yn' yc'] 25)
  have hBx4 := hBx.below hb4' hBx.lt
  have hXx4 := hXx.below hb4'
  have hXy4 := hXy.below hb4'
  have hb04 := hb03.trans (hb4'.mono hb03.size)
  clear k0 k1 hb03 hb4 hY hY' hB3 hBx hXx hXy hb3'
  go_wp2_with fail
  generalize w4.alloc (Obj.cells #[Value.slice Y yn yc, Value.slice Y' yn' yc'] 25) = W4 at *
  refine (HcO.out _).mono ?_
  rintro e w5 ⟨U, un, uc, U', un', uc', rfl, hU, hU', hb5⟩
  have hb5' := hb5.alloc hb5.size (.cells #[.slice U un uc, .slice U' un' uc'] 31)
  have hBx5 := hBx4.below hb5' hBx4.lt
  have hBy5 := hBy.below hb5' hBy.lt
  have hXx5 := hXx4.below hb5'
  have hXy5 := hXy4.below hb5'
  have hYx5 := hYx.below hb5'
  have hYy5 := hYy.below hb5'
  have hb05 := hb04.trans (hb5'.mono hb04.size)
  clear hU hU' hb5 hb5' hBx4 hBy hXx4 hXy4 hYx hYy hb04 hb4'
  obtain ⟨k0, k1⟩ := hBx5.cells
  obtain ⟨k2, k3⟩ := hBy5.cells
  go_wp2_with fail
  generalize w5.alloc (Obj.cells #[Value.slice U un uc, Value.slice U' un' uc'] 31) = W5 at *
  refine (same2_yes _ _ _ _ _ _ _ _ _ _ _ _ us vs _ hXx5 hXy5 hYx5 hYy5).mono ?_
  rintro e w6 ⟨rfl, hb6⟩
  have HF := Lib.hid (hb05.trans (hb6.mono hb05.size))
  clear hb05 hb6 hXx5 hXy5 hYx5 hYy5 hBx5 hBy5 k0 k1 k2 k3
  go_wp2
  go_ret
  exact ⟨rfl, HF.out⟩
set_option maxRecDepth 100000 in
set_option maxHeartbeats 3200000 in
theorem rforms_pos (A B : Option Addr) (n c m d P Q : Nat) (xs ys : List Nat) (w : World) (ha : Rd w A n c xs) (hb : Rd w B m d ys) (f1 : n ≤ 24) (f2 : m ≤ 24) (hP : P < 18446744073709551616) (hQ : Q < 18446744073709551616) (hQ0 : Q ≠ 0) :
    Calls Try.prog 3 #[.agg #[.slice A n c, .slice B m d], .int .u64 P, .int .u64 Q] w fun e w' => e = .returned (.bool true) ∧ Below w.heap.size w w' := by
  obtain ⟨us, vs, k, hR⟩ : ∃ us vs k, mkR xs ys = (us, vs, k) := ⟨_, _, _, rfl⟩
  have cD : ∀ W, Rd W A n c xs → Rd W B m d ys → Calls Try.prog 10 #[.slice A n c, .slice B m d] W (OutR2 W us vs k) := fun W g1 g2 => by
    have := make_any A B n c m d xs ys W g1 g2
    rw [hR] at this; exact this
  have cR : ∀ W, Rd W A n c xs → Rd W B m d ys → Calls Try.prog 11 #[.slice A n c, .slice B m d] W (OutR2 W us vs k) := fun W g1 g2 => by
    have := rmake_any A B n c m d xs ys W g1 g2
    rw [hR] at this; exact this
  have cO : ∀ W, Calls Try.prog 12 #[.int .u64 P, .int .u64 Q] W (OutR2 W (digs (P / Nat.gcd P Q)) (digs (Q / Nat.gcd P Q)) 0) := fun W => by
    have := qof_any P Q W hP hQ
    rw [mkR_digs (Nat.le_trans (len64 hP) (by omega)) (Nat.le_trans (len64 hQ) (by omega)) hQ0] at this; exact this
  have hq1 : ((Q : Int) == 0) = false := by simp; omega
  have HcD := Lib.hid cD
  have HcR := Lib.hid cR
  have HcO := Lib.hid cO
  clear cD cR cO hR
  have hB0 := Bs.new w 25 (.slice A n c) (.slice B m d)
  have hb0 : Below w.heap.size w (w.alloc (.cells #[.slice A n c, .slice B m d] 25)) := (Below.refl _ _).alloc (Nat.le_refl _) _
  go_enter Try.func3, Try.ntmps3
  go_wp2_with fail
  generalize w.alloc (Obj.cells #[Value.slice A n c, Value.slice B m d] 25) = W0 at *
  refine (awake2_any _).mono ?_
  rintro e w1 ⟨rfl, hb1⟩
  have hB1 := hB0.below hb1 hB0.lt
  obtain ⟨k0, k1⟩ := hB1.cells
  have hb01 := hb0.trans (hb1.mono hb0.size)
  go_wp2_with fail
  refine (Few1_yes A B n c m d w1 f1 f2).mono ?_
  rintro e w2 ⟨rfl, hb2⟩
  have hb02 := hb01.trans (hb2.mono hb01.size)
  have hB2 := hB1.below hb2 hB1.lt
  clear hb01 hb1 hb2 hB0 hB1 hb0 k0 k1
  obtain ⟨k0, k1⟩ := hB2.cells
  go_wp2_with fail
  refine (HcD.out _ (ha.below hb02) (hb.below hb02)).mono ?_
  rintro e w3 ⟨X, xn, xc, X', xn', xc', rfl, hX, hX', hb3⟩
  have hBx := Bs.new w3 31 (.slice X xn xc) (.slice X' xn' xc')
  have hb3' := hb3.alloc hb3.size (.cells #[.slice X xn xc, .slice X' xn' xc'] 31)
  have hXx := hX.1.alloc (.cells #[.slice X xn xc, .slice X' xn' xc'] 31)
  have hXy := hX'.1.alloc (.cells #[.slice X xn xc, .slice X' xn' xc'] 31)
  have hB3 := hB2.below hb3' hB2.lt
  have hb03 := hb02.trans (hb3'.mono hb02.size)
  clear k0 k1 hb02 hb3 hX hX' hB2
  obtain ⟨k0, k1⟩ := hB3.cells
  go_wp2_with fail
  generalize w3.alloc (Obj.cells #[Value.slice X xn xc, Value.slice X' xn' xc'] 31) = W3 at *
  refine (HcR.out _ (ha.below hb03) (hb.below hb03)).mono ?_
  rintro e w4 ⟨Y, yn, yc, Y', yn', yc', rfl, hY, hY', hb4⟩
  have hBy := Bs.new w4 25 (.slice Y yn yc) (.slice Y' yn' yc')
  have hb4' := hb4.alloc hb4.size (.cells #[.slice Y yn yc, .slice Y' yn' yc'] 25)
  have hYx := hY.1.alloc (.cells #[.slice Y yn yc, .slice Y' yn' yc'] 25)
  have hYy := hY'.1.alloc (.cells #[.slice Y yn yc, .slice Y' yn' yc'] 25)
  have hBx4 := hBx.below hb4' hBx.lt
  have hXx4 := hXx.below hb4'
  have hXy4 := hXy.below hb4'
  have hb04 := hb03.trans (hb4'.mono hb03.size)
  have hB4 := hB3.below hb4' hB3.lt
  clear k0 k1 hb03 hb4 hY hY' hB3 hBx hXx hXy hb3'
  go_wp2_with fail
  generalize w4.alloc (Obj.cells #[Value.slice Y yn yc, Value.slice Y' yn' yc'] 25) = W4 at *
  refine (HcO.out _).mono ?_
  rintro e w5 ⟨U, un, uc, U', un', uc', rfl, hU, hU', hb5⟩
  have hBu := Bs.new w5 31 (.slice U un uc) (.slice U' un' uc')
  have hUx := hU.1.alloc (.cells #[.slice U un uc, .slice U' un' uc'] 31)
  have hUy := hU'.1.alloc (.cells #[.slice U un uc, .slice U' un' uc'] 31)
  have hb5' := hb5.alloc hb5.size (.cells #[.slice U un uc, .slice U' un' uc'] 31)
  have hB5 := hB4.below hb5' hB4.lt
  have hBx5 := hBx4.below hb5' hBx4.lt
  have hBy5 := hBy.below hb5' hBy.lt
  have hXx5 := hXx4.below hb5'
  have hXy5 := hXy4.below hb5'
  have hYx5 := hYx.below hb5'
  have hYy5 := hYy.below hb5'
  have hb05 := hb04.trans (hb5'.mono hb04.size)
  clear hU hU' hb5 hb5' hB4 hBx4 hBy hXx4 hXy4 hYx hYy hb04 hb4'
  go_wp2
  generalize w5.alloc (Obj.cells #[Value.slice U un uc, Value.slice U' un' uc'] 31) = W5 at *
  have haW := ha.below hb05
  have hbW := hb.below hb05
  have hcur := below_drew' (Below.refl W5.heap.size W5)
  have K := cells4 hB5 hBx5 hBy5 hBu hcur
  have K' := cells4 hB5 hBx5 hBy5 hBu (Below.refl W5.heap.size W5)
  go_region_held3 (fun W => W.cell? ⟨w.heap.size, 0, none⟩ = some (.slice A n c) ∧ W.cell? ⟨w.heap.size, 1, none⟩ = some (.slice B m d) ∧ W.cell? ⟨w3.heap.size, 0, none⟩ = some (.slice X xn xc) ∧ W.cell? ⟨w3.heap.size, 1, none⟩ = some (.slice X' xn' xc') ∧ W.cell? ⟨w4.heap.size, 0, none⟩ = some (.slice Y yn yc) ∧ W.cell? ⟨w4.heap.size, 1, none⟩ = some (.slice Y' yn' yc') ∧ W.cell? ⟨w5.heap.size, 0, none⟩ = some (.slice U un uc) ∧ W.cell? ⟨w5.heap.size, 1, none⟩ = some (.slice U' un' uc'))
    (first | exact K | exact K')
    (first
      | (go_at_call 13; (with_reducible refine (same2_yes X X' Y Y' xn xc xn' xc' yn yc yn' yc' us vs _ ?_ ?_ ?_ ?_).mono ?_); exact hXx5.below hcur; exact hXy5.below hcur; exact hYx5.below hcur; exact hYy5.below hcur; rintro e w6 ⟨rfl, hb6⟩; replace hcur := hcur.trans (hb6.mono hcur.size); replace K := cells4 hB5 hBx5 hBy5 hBu hcur; clear hb6)
      | (go_at_call 14; (with_reducible refine (frac_any P Q _ hP hQ hQ0).mono ?_); rintro e w7 ⟨Z, zn, zc, Z', zn', zc', rfl, hZ, hZ', hb7⟩; replace hcur := hcur.trans (hb7.mono hcur.size); replace K := cells4 hB5 hBx5 hBy5 hBu hcur; clear hb7)
      | (go_at_call 13; (with_reducible refine (same2_yes U U' Z Z' un uc un' uc' zn zc zn' zc' (digs (P / Nat.gcd P Q)) (digs (Q / Nat.gcd P Q)) _ ?_ ?_ ?_ ?_).mono ?_); exact hUx.below hcur; exact hUy.below hcur; exact hZ.1; exact hZ'.1; rintro e w8 ⟨rfl, hb8⟩; replace hcur := hcur.trans (hb8.mono hcur.size); replace K := cells4 hB5 hBx5 hBy5 hBu hcur; clear hb8)
      | (go_at_call 16; (with_reducible refine (theirs_any _ _ _ _ _ _ _).mono ?_); rintro e w9 ⟨rfl, hb9⟩; replace hcur := hcur.trans (hb9.mono hcur.size); replace K := cells4 hB5 hBx5 hBy5 hBu hcur; clear hb9)
      | (go_at_call 15; (with_reducible refine (frmd_any _ _ _ _ _ _ xs ys _ ?_ ?_).mono ?_); exact haW.below hcur; exact hbW.below hcur; rintro e w10 ⟨rfl, hb10⟩; replace hcur := hcur.trans (hb10.mono hcur.size); replace K := cells4 hB5 hBx5 hBy5 hBu hcur; clear hb10)
      | (go_at_call 17; (with_reducible refine (rfr_any _ _ _ _ _ _ xs ys _ ?_ ?_).mono ?_); exact haW.below hcur; exact hbW.below hcur; rintro e w11 ⟨rfl, hb11⟩; replace hcur := hcur.trans (hb11.mono hcur.size); replace K := cells4 hB5 hBx5 hBy5 hBu hcur; clear hb11))
  all_goals
    have HF := Lib.hid (hb05.trans (hcur.mono hb05.size))
    clear K K'
    go_wp2
    go_ret
    exact ⟨rfl, HF.out⟩
theorem rforms_walk (A B : Option Addr) (n c m d P Q : Nat) (xs ys : List Nat) (w : World) (ha : Rd w A n c xs) (hb : Rd w B m d ys) (hP : P < 18446744073709551616) (hQ : Q < 18446744073709551616) :
    Calls Try.prog 3 #[.agg #[.slice A n c, .slice B m d], .int .u64 P, .int .u64 Q] w fun e w' => e = .returned (.bool true) ∧ Below w.heap.size w w' := by
  by_cases h0 : 24 < n ∨ 24 < m
  · exact rforms_few A B n c m d P Q xs ys w ha hb h0
  by_cases hQ0 : Q = 0
  · subst hQ0; exact rforms_zero A B n c m d P xs ys w ha hb (by omega) (by omega) hP
  exact rforms_pos A B n c m d P Q xs ys w ha hb (by omega) (by omega) hP hQ hQ0
end Go.Proofs.Yteicihaigkgbnaa
