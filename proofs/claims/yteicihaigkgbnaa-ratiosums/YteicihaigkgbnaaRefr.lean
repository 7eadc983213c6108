/-
  What the reference's lowest, Make, Frac, FormedRatio, cross, CmpRatio, AddRatio, SubRatio, MulRatio, DivRatio, Floor, Min and SameRatio do. For every fraction that can be read; the results of cross and of sums, differences, products and quotients where nothing is too long.
-/
import Derived.Test.YteicihaigkgbnaaRatj
namespace Go.Proofs.Yteicihaigkgbnaa
open Go.RowKit

section
variable (A B : Option Addr) (n c m d a b : Nat) (w : World)
theorem rdm_nat (ha : Rd w A n c (digs a)) (hb : Rd w B m d (digs b)) (la : (digs a).length ≤ 400) (lb : (digs b).length ≤ 400) (h : b ≠ 0) :
    Calls Try.prog 60 #[.slice A n c, .slice B m d] w (OutQ w (a / b) (a % b)) := by
  have := rdm_any A B n c m d (digs a) (digs b) w ha hb (by rw [← ha.len]; omega) (by rw [← hb.len]; omega) (by rw [val_digs]; exact h)
  rw [val_digs, val_digs] at this; exact this
theorem rmul_nat (ha : Rd w A n c (digs a)) (hb : Rd w B m d (digs b)) (la : (digs a).length ≤ 400) (lb : (digs b).length ≤ 400) :
    Calls Try.prog 49 #[.slice A n c, .slice B m d] w (Out w (digs (a * b))) := by
  have := rmul_any A B n c m d (digs a) (digs b) w ha hb (by rw [← ha.len]; omega) (by rw [← hb.len]; omega)
  rw [val_digs, val_digs] at this; exact this
theorem radd_nat (ha : Rd w A n c (digs a)) (hb : Rd w B m d (digs b)) (la : (digs a).length ≤ 400) (lb : (digs b).length ≤ 400) :
    Calls Try.prog 50 #[.slice A n c, .slice B m d] w (Out w (digs (a + b))) := by
  have := radd_any A B n c m d (digs a) (digs b) w ha hb (by rw [← ha.len]; omega) (by rw [← hb.len]; omega)
  rw [val_digs, val_digs] at this; exact this
theorem rsub_nat (ha : Rd w A n c (digs a)) (hb : Rd w B m d (digs b)) (la : (digs a).length ≤ 400) (h : b ≤ a) :
    Calls Try.prog 53 #[.slice A n c, .slice B m d] w (Out w (digs (a - b))) := by
  have := rsub_any A B n c m d (digs a) (digs b) w ha hb (by rw [← ha.len]; omega) (by rw [← ha.len, ← hb.len]; exact len_digs_mono h) (by rw [val_digs, val_digs]; exact h)
  rw [val_digs, val_digs] at this; exact this
theorem rcmp_nat (ha : Rd w A n c (digs a)) (hb : Rd w B m d (digs b)) :
    Calls Try.prog 52 #[.slice A n c, .slice B m d] w (Quiet w (.int .i64 (cmpN a b))) := by
  have := rcmp_any A B n c m d (digs a) (digs b) w ha hb (Nrm_digs a) (Nrm_digs b)
  rw [val_digs, val_digs] at this; exact this
theorem bound_nat (ha : Rd w A n c (digs a)) (la : (digs a).length ≤ 400) :
    Calls Try.prog 48 #[.slice A n c] w fun e w' => e = .returned (.tuple #[.slice A n c, .int .i64 0]) ∧ w = w' :=
  bounded_yes A n c w (by rw [← ha.len]; exact la)
set_option maxHeartbeats 800000 in
theorem rSame_no (ha : Rd w A n c (digs a)) (hb : Rd w B m d (digs b)) (h : a ≠ b) :
    Calls Try.prog 32 #[.slice A n c, .slice B m d] w (Quiet w (.bool false)) := by
  by_cases hnm : n = m
  · subst hnm
    have hz : ((cmpN a b) == 0) = false := by unfold cmpN; rw [if_neg h]; split <;> rfl
    go_enter Try.func32, Try.ntmps32
    go_wp2_with fail
    refine (rcmp_nat _ _ _ _ _ _ a b _ ha hb).mono ?_
    rintro e w1 ⟨rfl, q, rfl⟩
    go_wp2
    go_ret
    exact ⟨rfl, q, rfl⟩
  · have hz : ((n : Int) == (m : Int)) = false := by simp; omega
    go_enter Try.func32, Try.ntmps32
    go_wp2
    go_ret
    exact ⟨rfl, 0, rfl⟩
end

set_option maxHeartbeats 1600000 in
/-- The reference's lowest. -/
theorem lowest_any (A B : Option Addr) (n c m d a b : Nat) (w : World) (ha : Rd w A n c (digs a)) (hb : Rd w B m d (digs b)) (la : (digs a).length ≤ 400) (lb : (digs b).length ≤ 400) (h : b ≠ 0) :
    Calls Try.prog 38 #[.slice A n c, .slice B m d] w (OutR w (digs (a / Nat.gcd a b)) (digs (b / Nat.gcd a b))) := by
  have hg : Nat.gcd a b ≠ 0 := fun e => h (Nat.gcd_eq_zero_iff.1 e).2
  have HG := Lib.hid hg
  have HL := Lib.hid (show (digs (Nat.gcd a b)).length ≤ 400 from Nat.le_trans (len_digs_mono (Nat.gcd_le_right a (by omega))) lb)
  have hB0 := Bs.new w 25 (.slice none 0 0) (.slice none 0 0)
  have hb0 : Below w.heap.size w (w.alloc (.cells #[.slice none 0 0, .slice none 0 0] 25)) := (Below.refl _ _).alloc (Nat.le_refl _) _
  have hn4 : n ≤ 400000 := by rw [← ha.len]; omega
  have hm4 : m ≤ 400000 := by rw [← hb.len]; omega
  go_enter Try.func38, Try.ntmps38
  go_wp2_with fail
  generalize w.alloc (Obj.cells #[Value.slice none 0 0, Value.slice none 0 0] 25) = W0 at *
  refine (rgcd_any _ _ _ _ _ _ a b _ (ha.below hb0) (hb.below hb0) hn4 hm4).mono ?_
  rintro e w1 ⟨A1, n1, c1, rfl, hN1, hb1⟩
  have hb01 := hb0.trans (hb1.mono hb0.size)
  have hB1 := hB0.below hb1 hB0.lt
  go_wp2_with fail
  refine (rdm_nat _ _ _ _ _ _ a (Nat.gcd a b) _ (ha.below hb01) hN1.1 la HL.out HG.out).mono ?_
  rintro e w2 ⟨A2, n2, c2, R2, rn2, rc2, rfl, hN2, _, hb2⟩
  have hb02 := hb01.trans (hb2.mono hb01.size)
  have hB2 := hB1.below hb2 hB1.lt
  have hN12 := hN1.below hb2
  go_wp2_with fail
  refine (rdm_nat _ _ _ _ _ _ b (Nat.gcd a b) _ (hb.below hb02) hN12.1 lb HL.out HG.out).mono ?_
  rintro e w3 ⟨A3, n3, c3, R3, rn3, rc3, rfl, hN3, _, hb3⟩
  have hb03 := hb02.trans (hb3.mono hb02.size)
  have hB3 := hB2.below hb3 hB2.lt
  have hlt := hB0.lt
  have hs1 := hb1.size
  have hs2 := hb2.size
  have hs3 := hb3.size
  have HF := Lib.hid (outR_end (g := w.heap.size) (lo := W0.heap.size) ((hN2.below hb3).mono hs1) (hN3.mono (Nat.le_trans hs1 hs2)) hb03 (Nat.le_refl _) hlt)
  obtain ⟨k0, k1⟩ := hB3.cells
  have f0 := hB3.frozen 0
  have f1 := hB3.frozen 1
  clear hB0 hB1 hB2 hB3 hN1 hN2 hN3 hN12 hb0 hb1 hb2 hb3 hb01 hb02 hb03
  go_wp2
  refine bodyPost_ret (v := .agg #[.slice A2 n2 c2, .slice A3 n3 c3]) (by simp [results, Try.results38, go_sem, k0, k1]) rfl ?_
  exact HF.out
set_option maxHeartbeats 800000 in
/-- The reference's Frac. -/
theorem frac_any (p q : Nat) (w : World) (hp : p < 18446744073709551616) (hq : q < 18446744073709551616) (h : q ≠ 0) :
    Calls Try.prog 14 #[.int .u64 p, .int .u64 q] w (OutR w (digs (p / Nat.gcd p q)) (digs (q / Nat.gcd p q))) := by
  have hb0 : Below w.heap.size w (w.alloc (.cells #[.slice none 0 0, .slice none 0 0] 25)) := (Below.refl _ _).alloc (Nat.le_refl _) _
  have hB0 := Bs.new w 25 (.slice none 0 0) (.slice none 0 0)
  go_enter Try.func14, Try.ntmps14
  go_wp2_with fail
  generalize w.alloc (Obj.cells #[Value.slice none 0 0, Value.slice none 0 0] 25) = W0 at *
  refine (rof_any p _ hp).mono ?_
  rintro e w1 ⟨A1, n1, c1, rfl, hN1, hb1⟩
  have hb01 := hb0.trans (hb1.mono hb0.size)
  have hB1 := hB0.below hb1 hB0.lt
  go_wp2_with fail
  refine (rof_any q _ hq).mono ?_
  rintro e w2 ⟨A2, n2, c2, rfl, hN2, hb2⟩
  have hb02 := hb01.trans (hb2.mono hb01.size)
  have hB2 := hB1.below hb2 hB1.lt
  have hR1 := hN1.1.below hb2
  go_wp2_with fail
  refine (lowest_any _ _ _ _ _ _ p q _ hR1 hN2.1 (Nat.le_trans (len64 hp) (by omega)) (Nat.le_trans (len64 hq) (by omega)) h).mono ?_
  rintro e w3 ⟨A3, n3, c3, B3, m3, d3, rfl, hN3, hM3, hb3⟩
  have hb03 := hb02.trans (hb3.mono hb02.size)
  have hB3 := hB2.below hb3 hB2.lt
  have hlt := hB2.lt
  obtain ⟨k0, k1⟩ := hB3.cells
  have f0 := hB3.frozen 0
  have f1 := hB3.frozen 1
  have HF := Lib.hid (outR_end (g := w.heap.size) hN3 hM3 hb03 (Nat.le_refl _) hlt)
  clear hB0 hB1 hB2 hB3 hN1 hN2 hN3 hM3 hb0 hb1 hb2 hb3 hb01 hb02 hb03 hR1
  go_wp2
  refine bodyPost_ret (v := .agg #[.slice A3 n3 c3, .slice B3 m3 d3]) (by simp [results, Try.results14, go_sem, k0, k1]) rfl ?_
  exact HF.out
set_option maxHeartbeats 800000 in
/-- the reference's Make. -/
theorem rmake_any (A B : Option Addr) (n c m d : Nat) (xs ys : List Nat) (w : World) (ha : Rd w A n c xs) (hb : Rd w B m d ys) :
    Calls Try.prog 11 #[.slice A n c, .slice B m d] w (OutR2 w (mkR xs ys).1 (mkR xs ys).2.1 (mkR xs ys).2.2) := by
  have hb0 : Below w.heap.size w (w.alloc (.cells #[.slice none 0 0, .slice none 0 0] 25)) := (Below.refl _ _).alloc (Nat.le_refl _) _
  have hB0 := Bs.new w 25 (.slice none 0 0) (.slice none 0 0)
  cases fa : fmB xs
  · have e : mkR xs ys = ([], [], 1) := by unfold mkR; rw [fa]; rfl
    rw [e]
    clear e
    go_enter Try.func11, Try.ntmps11
    go_wp2_with fail
    generalize w.alloc (Obj.cells #[Value.slice none 0 0, Value.slice none 0 0] 25) = W0 at *
    refine (rformed_any _ _ _ xs _ (ha.below hb0)).mono ?_
    rintro e w' ⟨rfl, rfl⟩
    obtain ⟨k0, k1⟩ := hB0.cells
    have f0 := hB0.frozen 0
    have f1 := hB0.frozen 1
    have HF := Lib.hid (outR2_nil 1 hb0 (Nat.le_refl _))
    go_wp2
    refine bodyPost_ret (v := .tuple #[.agg #[.slice none 0 0, .slice none 0 0], .int .i64 1]) (by simp [results, Try.results11, go_sem, k0, k1]) rfl ?_
    exact HF.out
  cases fb : fmB ys
  · have e : mkR xs ys = ([], [], 1) := by unfold mkR; rw [fa, fb]; rfl
    rw [e]
    clear e
    go_enter Try.func11, Try.ntmps11
    go_wp2_with fail
    generalize w.alloc (Obj.cells #[Value.slice none 0 0, Value.slice none 0 0] 25) = W0 at *
    refine (rformed_any _ _ _ xs _ (ha.below hb0)).mono ?_
    rintro e w' ⟨rfl, rfl⟩
    go_wp2_with fail
    refine (rformed_any _ _ _ ys _ (hb.below hb0)).mono ?_
    rintro e w' ⟨rfl, rfl⟩
    obtain ⟨k0, k1⟩ := hB0.cells
    have f0 := hB0.frozen 0
    have f1 := hB0.frozen 1
    have HF := Lib.hid (outR2_nil 1 hb0 (Nat.le_refl _))
    go_wp2
    refine bodyPost_ret (v := .tuple #[.agg #[.slice none 0 0, .slice none 0 0], .int .i64 1]) (by simp [results, Try.results11, go_sem, k0, k1]) rfl ?_
    exact HF.out
  by_cases hm : m = 0
  · subst hm
    have hy : ys = [] := List.length_eq_zero_iff.1 hb.len
    have e : mkR xs ys = ([], [], 5) := by unfold mkR; rw [fa, fb, hy]; rfl
    rw [e]
    clear e
    go_enter Try.func11, Try.ntmps11
    go_wp2_with fail
    generalize w.alloc (Obj.cells #[Value.slice none 0 0, Value.slice none 0 0] 25) = W0 at *
    refine (rformed_any _ _ _ xs _ (ha.below hb0)).mono ?_
    rintro e w' ⟨rfl, rfl⟩
    go_wp2_with fail
    refine (rformed_any _ _ _ ys _ (hb.below hb0)).mono ?_
    rintro e w' ⟨rfl, rfl⟩
    obtain ⟨k0, k1⟩ := hB0.cells
    have f0 := hB0.frozen 0
    have f1 := hB0.frozen 1
    have HF := Lib.hid (outR2_nil 5 hb0 (Nat.le_refl _))
    go_wp2
    refine bodyPost_ret (v := .tuple #[.agg #[.slice none 0 0, .slice none 0 0], .int .i64 5]) (by simp [results, Try.results11, go_sem, k0, k1]) rfl ?_
    exact HF.out
  have hm1 : ((m : Int) == 0) = false := by simp; omega
  obtain ⟨p, rfl, lp⟩ := digs_of ha.lim fa
  obtain ⟨q, rfl, lq⟩ := digs_of hb.lim fb
  have hq : q ≠ 0 := by
    rintro rfl
    have := hb.len
    rw [digs_zero] at this
    exact hm this.symm
  have e : mkR (digs p) (digs q) = (digs (p / Nat.gcd p q), digs (q / Nat.gcd p q), 0) := by
    have : (digs q).isEmpty = false := by
      cases e : digs q with
      | nil => exact absurd e (digs_ne hq)
      | cons x xs => rfl
    unfold mkR; rw [fa, fb, this, val_digs, val_digs]; rfl
  rw [e]
  clear e
  go_enter Try.func11, Try.ntmps11
  go_wp2_with fail
  generalize w.alloc (Obj.cells #[Value.slice none 0 0, Value.slice none 0 0] 25) = W0 at *
  refine (rformed_any _ _ _ (digs p) _ (ha.below hb0)).mono ?_
  rintro e w' ⟨rfl, rfl⟩
  go_wp2_with fail
  refine (rformed_any _ _ _ (digs q) _ (hb.below hb0)).mono ?_
  rintro e w' ⟨rfl, rfl⟩
  go_wp2_with fail
  refine (lowest_any _ _ _ _ _ _ p q _ (ha.below hb0) (hb.below hb0) lp lq hq).mono ?_
  rintro e w1 ⟨A1, n1, c1, B1, m1, d1, rfl, hN1, hM1, hb1⟩
  have hB1 := hB0.below hb1 hB0.lt
  have hlt := hB0.lt
  have hb01 := hb0.trans (hb1.mono hb0.size)
  obtain ⟨k0, k1⟩ := hB1.cells
  have f0 := hB1.frozen 0
  have f1 := hB1.frozen 1
  have HF := Lib.hid (outR2_end 0 (g := w.heap.size) hN1 hM1 hb01 (Nat.le_refl _) hlt)
  go_wp2
  refine bodyPost_ret (v := .tuple #[.agg #[.slice A1 n1 c1, .slice B1 m1 d1], .int .i64 0]) (by simp [results, Try.results11, go_sem, k0, k1]) rfl ?_
  exact HF.out
set_option maxHeartbeats 800000 in
/-- The reference's FormedRatio. -/
theorem rfr_any (A B : Option Addr) (n c m d : Nat) (xs ys : List Nat) (w : World) (ha : Rd w A n c xs) (hb : Rd w B m d ys) :
    Calls Try.prog 17 #[.agg #[.slice A n c, .slice B m d]] w fun e w' => e = .returned (.bool (frB xs ys)) ∧ Below w.heap.size w w' := by
  have hb0 : Below w.heap.size w (w.alloc (.cells #[.slice A n c, .slice B m d] 25)) := (Below.refl _ _).alloc (Nat.le_refl _) _
  have hB0 := Bs.new w 25 (.slice A n c) (.slice B m d)
  cases fa : fmB xs
  · have HV := Lib.hid (show false = frB xs ys by unfold frB; rw [fa]; rfl)
    go_enter Try.func17, Try.ntmps17
    go_wp2_with fail
    refine (rformed_any _ _ _ xs _ (ha.below hb0)).mono ?_
    rintro e w' ⟨rfl, rfl⟩
    go_wp2
    go_ret
    exact ⟨ret_b HV.out, hb0⟩
  cases fb : fmB ys
  · have HV := Lib.hid (show false = frB xs ys by unfold frB; rw [fa, fb]; rfl)
    go_enter Try.func17, Try.ntmps17
    go_wp2_with fail
    refine (rformed_any _ _ _ xs _ (ha.below hb0)).mono ?_
    rintro e w' ⟨rfl, rfl⟩
    go_wp2_with fail
    refine (rformed_any _ _ _ ys _ (hb.below hb0)).mono ?_
    rintro e w' ⟨rfl, rfl⟩
    go_wp2
    go_ret
    exact ⟨ret_b HV.out, hb0⟩
  by_cases hm : m = 0
  · subst hm
    have HV := Lib.hid (show false = frB xs ys by
      have : ys = [] := List.length_eq_zero_iff.1 hb.len
      unfold frB; rw [fa, fb, this]; rfl)
    go_enter Try.func17, Try.ntmps17
    go_wp2_with fail
    refine (rformed_any _ _ _ xs _ (ha.below hb0)).mono ?_
    rintro e w' ⟨rfl, rfl⟩
    go_wp2_with fail
    refine (rformed_any _ _ _ ys _ (hb.below hb0)).mono ?_
    rintro e w' ⟨rfl, rfl⟩
    go_wp2
    go_ret
    exact ⟨ret_b HV.out, hb0⟩
  obtain ⟨G, hG⟩ : ∃ G, Nat.gcd (val xs) (val ys) = G := ⟨_, rfl⟩
  have HV := Lib.hid (show (G == 1) = frB xs ys by
    have : ys.isEmpty = false := by
      cases e : ys with
      | nil => rw [e] at hb; exact absurd hb.len.symm hm
      | cons x xs => rfl
    unfold frB; rw [fa, fb, this, hG]; rfl)
  have hn4 : n ≤ 400000 := by rw [← ha.len]; have := fmB_len fa; omega
  have hm4 : m ≤ 400000 := by rw [← hb.len]; have := fmB_len fb; omega
  have hm1 : (0 : Int) < (m : Int) := by omega
  have hgc : ∀ W (_ : Rd W A n c xs) (_ : Rd W B m d ys), Calls Try.prog 44 #[.slice A n c, .slice B m d] W (Out W (digs G)) := fun W h1 h2 => by
    have := rgcd_any A B n c m d (val xs) (val ys) W (by rw [digs_val ha.lim (fmB_nrm fa)]; exact h1) (by rw [digs_val hb.lim (fmB_nrm fb)]; exact h2) hn4 hm4
    rw [hG] at this; exact this
  have HGC := Lib.hid hgc
  clear hgc hG
  by_cases hg1 : G = 1
  · subst hg1
    go_enter Try.func17, Try.ntmps17
    go_wp2_with fail
    refine (rformed_any _ _ _ xs _ (ha.below hb0)).mono ?_
    rintro e w' ⟨rfl, rfl⟩
    go_wp2_with fail
    refine (rformed_any _ _ _ ys _ (hb.below hb0)).mono ?_
    rintro e w' ⟨rfl, rfl⟩
    go_wp2_with fail
    refine (HGC.out _ (ha.below hb0) (hb.below hb0)).mono ?_
    rintro e w1 ⟨A1, n1, c1, rfl, hN1, hb1⟩
    have hb01 := Lib.hid (hb0.trans (hb1.mono hb0.size))
    go_wp2_with fail
    have hOne : Rd (w1.alloc (.cells #[.int .u32 1] 54)) (some ⟨w1.heap.size, 0, none⟩) 1 1 (digs 1) := by rw [digs_one]; exact rd_one w1 1 1 rfl (by omega)
    refine (rSame_yes _ _ _ _ _ _ (digs 1) _ (hN1.1.alloc _) hOne).mono ?_
    rintro e w' ⟨rfl, nq, rfl⟩
    go_wp2
    go_ret
    exact ⟨ret_b HV.out, below_drewN' (hb01.out.alloc hb01.out.size _) nq⟩
  · have hf : (G == 1) = false := by simpa using hg1
    rw [hf] at HV
    go_enter Try.func17, Try.ntmps17
    go_wp2_with fail
    refine (rformed_any _ _ _ xs _ (ha.below hb0)).mono ?_
    rintro e w' ⟨rfl, rfl⟩
    go_wp2_with fail
    refine (rformed_any _ _ _ ys _ (hb.below hb0)).mono ?_
    rintro e w' ⟨rfl, rfl⟩
    go_wp2_with fail
    refine (HGC.out _ (ha.below hb0) (hb.below hb0)).mono ?_
    rintro e w1 ⟨A1, n1, c1, rfl, hN1, hb1⟩
    have hb01 := Lib.hid (hb0.trans (hb1.mono hb0.size))
    go_wp2_with fail
    have hOne : Rd (w1.alloc (.cells #[.int .u32 1] 54)) (some ⟨w1.heap.size, 0, none⟩) 1 1 (digs 1) := by rw [digs_one]; exact rd_one w1 1 1 rfl (by omega)
    refine (rSame_no _ _ _ _ _ _ G 1 _ (hN1.1.alloc _) hOne hg1).mono ?_
    rintro e w' ⟨rfl, nq, rfl⟩
    go_wp2
    go_ret
    exact ⟨ret_b HV.out, below_drewN' (hb01.out.alloc hb01.out.size _) nq⟩

section
variable (A B C D : Option Addr) (n c m d n' c' m' d' : Nat) (xs ys us vs : List Nat) (p q r s : Nat) (w : World)
theorem rfr_nat (ha : Rd w A n c (digs p)) (hb : Rd w B m d (digs q)) (h : Fr p q) :
    Calls Try.prog 17 #[.agg #[.slice A n c, .slice B m d]] w fun e w' => e = .returned (.bool true) ∧ Below w.heap.size w w' := by
  have := rfr_any A B n c m d (digs p) (digs q) w ha hb
  rw [frB_digs h] at this; exact this
set_option maxHeartbeats 1600000 in
/-- The reference's cross. -/
theorem cross_yes (ha : Rd w A n c (digs p)) (hb : Rd w B m d (digs q)) (hc : Rd w C n' c' (digs r)) (hd : Rd w D m' d' (digs s)) (h1 : Fr p q) (h2 : Fr r s) (l1 : (digs (p * s)).length ≤ 400) (l2 : (digs (r * q)).length ≤ 400) :
    Calls Try.prog 47 #[.agg #[.slice A n c, .slice B m d], .agg #[.slice C n' c', .slice D m' d']] w (Out3 w (digs (p * s)) (digs (r * q)) 0) := by
  obtain ⟨hB1, hB2, hb0, hs0⟩ := boxes2 w 25 25 (.slice A n c) (.slice B m d) (.slice C n' c') (.slice D m' d')
  go_enter Try.func47, Try.ntmps47
  go_wp2_with fail
  generalize (w.alloc (Obj.cells #[Value.slice A n c, Value.slice B m d] 25)).alloc (Obj.cells #[Value.slice C n' c', Value.slice D m' d'] 25) = W0 at *
  obtain ⟨k0, k1⟩ := hB1.cells
  obtain ⟨k2, k3⟩ := hB2.cells
  refine (rmul_nat _ _ _ _ _ _ p s _ (ha.below hb0) (hd.below hb0) h1.1 h2.2.1).mono ?_
  rintro e w1 ⟨A1, n1, c1, rfl, hN1, hb1⟩
  have hb01 := hb0.trans (hb1.mono hb0.size)
  have hB1a := hB1.below hb1 (by omega)
  have hB2a := hB2.below hb1 (by omega)
  have hs1 := hb1.size
  clear hB1 hB2 k0 k1 k2 k3
  obtain ⟨k0, k1⟩ := hB1a.cells
  obtain ⟨k2, k3⟩ := hB2a.cells
  go_wp2_with fail
  refine (bound_nat _ _ _ (p * s) _ hN1.1 l1).mono ?_
  rintro e w' ⟨rfl, rfl⟩
  go_wp2_with fail
  refine (rmul_nat _ _ _ _ _ _ r q _ (hc.below hb01) (hb.below hb01) h2.1 h1.2.1).mono ?_
  rintro e w2 ⟨A2, n2, c2, rfl, hN2, hb2⟩
  go_wp2_with fail
  refine (bound_nat _ _ _ (r * q) _ hN2.1 l2).mono ?_
  rintro e w' ⟨rfl, rfl⟩
  have HF := Lib.hid (show Out3 w (digs (p * s)) (digs (r * q)) 0 (.returned (.tuple #[.slice A1 n1 c1, .slice A2 n2 c2, .int .i64 0])) w2 from
    ⟨_, _, _, _, _, _, rfl, (hN1.mono hb0.size).below hb2, hN2.mono hb01.size, hb01.trans (hb2.mono hb01.size)⟩)
  clear hN1 hN2 hb1 hb2 hb01 hb0 hB1a hB2a k0 k1 k2 k3
  go_wp2
  go_ret3
  exact HF.out
set_option maxHeartbeats 1600000 in
theorem xcmp_bad (ha : Rd w A n c xs) (hb : Rd w B m d ys) (hc : Rd w C n' c' us) (hd : Rd w D m' d' vs) (f : (frB xs ys && frB us vs) = false) :
    Calls Try.prog 25 #[.agg #[.slice A n c, .slice B m d], .agg #[.slice C n' c', .slice D m' d']] w (fun e w' => e = .returned (.int .i64 0) ∧ Below w.heap.size w w') := by
  obtain ⟨hB1, hB2, hb0, hs0⟩ := boxes2 w 25 25 (.slice A n c) (.slice B m d) (.slice C n' c') (.slice D m' d')
  go_enter Try.func25, Try.ntmps25
  go_wp2_with fail
  generalize (w.alloc (Obj.cells #[Value.slice A n c, Value.slice B m d] 25)).alloc (Obj.cells #[Value.slice C n' c', Value.slice D m' d'] 25) = W0 at *
  obtain ⟨k0, k1⟩ := hB1.cells
  obtain ⟨k2, k3⟩ := hB2.cells
  cases fa : frB xs ys
  · refine (rfr_any _ _ _ _ _ _ xs ys _ (ha.below hb0) (hb.below hb0)).mono ?_
    rw [fa]
    rintro e w1 ⟨rfl, hb1⟩
    have hb01 := hb0.trans (hb1.mono hb0.size)
    clear k0 k1 k2 k3
    have HF := Lib.hid (hb01)
    clear hB1 hB2 hb0 hb1 hb01
    go_wp2
    go_ret
    exact ⟨rfl, HF.out⟩
  · have fb : frB us vs = false := by rw [fa] at f; simpa using f
    refine (rfr_any _ _ _ _ _ _ xs ys _ (ha.below hb0) (hb.below hb0)).mono ?_
    rw [fa]
    rintro e w0 ⟨rfl, hbx⟩
    have hbA := hb0.trans (hbx.mono hb0.size)
    have hB1a := hB1.below hbx (by omega)
    have hB2a := hB2.below hbx (by omega)
    have hsx := hbx.size
    clear hB1 hB2 k0 k1 k2 k3
    obtain ⟨k0, k1⟩ := hB1a.cells
    obtain ⟨k2, k3⟩ := hB2a.cells
    go_wp2_with fail
    refine (rfr_any _ _ _ _ _ _ us vs _ (hc.below hbA) (hd.below hbA)).mono ?_
    rw [fb]
    rintro e w1 ⟨rfl, hb1⟩
    have hb01 := hbA.trans (hb1.mono hbA.size)
    clear k0 k1 k2 k3
    have HF := Lib.hid (hb01)
    clear hB1a hB2a hbx hbA hb0 hb1 hb01
    go_wp2
    go_ret
    exact ⟨rfl, HF.out⟩
set_option maxHeartbeats 1600000 in
theorem xcmp_yes (ha : Rd w A n c (digs p)) (hb : Rd w B m d (digs q)) (hc : Rd w C n' c' (digs r)) (hd : Rd w D m' d' (digs s)) (h1 : Fr p q) (h2 : Fr r s) (l1 : (digs (p * s)).length ≤ 400) (l2 : (digs (r * q)).length ≤ 400) :
    Calls Try.prog 25 #[.agg #[.slice A n c, .slice B m d], .agg #[.slice C n' c', .slice D m' d']] w fun e w' => e = .returned (.int .i64 (cmpN (p * s) (r * q))) ∧ Below w.heap.size w w' := by
  obtain ⟨hB1, hB2, hb0, hs0⟩ := boxes2 w 25 25 (.slice A n c) (.slice B m d) (.slice C n' c') (.slice D m' d')
  go_enter Try.func25, Try.ntmps25
  go_wp2_with fail
  generalize (w.alloc (Obj.cells #[Value.slice A n c, Value.slice B m d] 25)).alloc (Obj.cells #[Value.slice C n' c', Value.slice D m' d'] 25) = W0 at *
  obtain ⟨k0, k1⟩ := hB1.cells
  obtain ⟨k2, k3⟩ := hB2.cells
  refine (rfr_nat _ _ _ _ _ _ p q _ (ha.below hb0) (hb.below hb0) h1).mono ?_
  rintro e w1 ⟨rfl, hbx⟩
  have hbA := hb0.trans (hbx.mono hb0.size)
  have hB1a := hB1.below hbx (by omega)
  have hB2a := hB2.below hbx (by omega)
  have hsx := hbx.size
  clear hB1 hB2 k0 k1 k2 k3
  obtain ⟨k0, k1⟩ := hB1a.cells
  obtain ⟨k2, k3⟩ := hB2a.cells
  go_wp2_with fail
  refine (rfr_nat _ _ _ _ _ _ r s _ (hc.below hbA) (hd.below hbA) h2).mono ?_
  rintro e w2 ⟨rfl, hby⟩
  have hbB := hbA.trans (hby.mono hbA.size)
  have hB1b := hB1a.below hby (by omega)
  have hB2b := hB2a.below hby (by omega)
  have hsy := hby.size
  clear hB1a hB2a k0 k1 k2 k3 hbA hb0 hbx hby
  obtain ⟨k0, k1⟩ := hB1b.cells
  obtain ⟨k2, k3⟩ := hB2b.cells
  go_wp2_with fail
  refine (cross_yes _ _ _ _ _ _ _ _ _ _ _ _ p q r s _ (ha.below hbB) (hb.below hbB) (hc.below hbB) (hd.below hbB) h1 h2 l1 l2).mono ?_
  rintro e w3 ⟨A3, n3, c3, B3, m3, d3, rfl, hN3, hM3, hb3⟩
  have HF := Lib.hid (hbB.trans (hb3.mono hbB.size))
  go_wp2_with fail
  refine (rcmp_nat _ _ _ _ _ _ (p * s) (r * q) _ hN3.1 hM3.1).mono ?_
  rintro e w4 ⟨rfl, nq, rfl⟩
  clear hN3 hM3 hb3 hbB hB1b hB2b k0 k1 k2 k3
  go_wp2
  go_ret
  exact ⟨rfl, below_drewN' HF.out nq⟩
set_option maxHeartbeats 1600000 in
theorem xadd_bad (ha : Rd w A n c xs) (hb : Rd w B m d ys) (hc : Rd w C n' c' us) (hd : Rd w D m' d' vs) (f : (frB xs ys && frB us vs) = false) :
    Calls Try.prog 19 #[.agg #[.slice A n c, .slice B m d], .agg #[.slice C n' c', .slice D m' d']] w (OutR2 w [] [] 1) := by
  obtain ⟨hB1, hB2, hB3, hb0, hs0⟩ := boxes3 w 25 25 25 (.slice A n c) (.slice B m d) (.slice C n' c') (.slice D m' d') (.slice none 0 0) (.slice none 0 0)
  go_enter Try.func19, Try.ntmps19
  go_wp2_with fail
  generalize ((w.alloc (Obj.cells #[Value.slice A n c, Value.slice B m d] 25)).alloc (Obj.cells #[Value.slice C n' c', Value.slice D m' d'] 25)).alloc (Obj.cells #[Value.slice none 0 0, Value.slice none 0 0] 25) = W0 at *
  obtain ⟨k0, k1⟩ := hB1.cells
  obtain ⟨k2, k3⟩ := hB2.cells
  cases fa : frB xs ys
  · refine (rfr_any _ _ _ _ _ _ xs ys _ (ha.below hb0) (hb.below hb0)).mono ?_
    rw [fa]
    rintro e w1 ⟨rfl, hb1⟩
    have hb01 := hb0.trans (hb1.mono hb0.size)
    clear k0 k1 k2 k3
    have hB3' := hB3.below hb1 (by omega)
    obtain ⟨k0, k1⟩ := hB3'.cells
    have f0 := hB3'.frozen 0
    have f1 := hB3'.frozen 1
    have HF := Lib.hid (outR2_nil (g := w.heap.size + 2) 1 hb01 (by omega))
    clear hB1 hB2 hB3 hB3' hb0 hb1 hb01
    go_wp2
    refine bodyPost_ret (v := .tuple #[.agg #[.slice none 0 0, .slice none 0 0], .int .i64 1]) (by simp [results, Try.results19, go_sem, k0, k1]) rfl ?_
    exact HF.out
  · have fb : frB us vs = false := by rw [fa] at f; simpa using f
    refine (rfr_any _ _ _ _ _ _ xs ys _ (ha.below hb0) (hb.below hb0)).mono ?_
    rw [fa]
    rintro e w0 ⟨rfl, hbx⟩
    have hbA := hb0.trans (hbx.mono hb0.size)
    have hB1a := hB1.below hbx (by omega)
    have hB2a := hB2.below hbx (by omega)
    have hB3a := hB3.below hbx (by omega)
    have hsx := hbx.size
    clear hB1 hB2 k0 k1 k2 k3
    obtain ⟨k0, k1⟩ := hB1a.cells
    obtain ⟨k2, k3⟩ := hB2a.cells
    go_wp2_with fail
    refine (rfr_any _ _ _ _ _ _ us vs _ (hc.below hbA) (hd.below hbA)).mono ?_
    rw [fb]
    rintro e w1 ⟨rfl, hb1⟩
    have hb01 := hbA.trans (hb1.mono hbA.size)
    clear k0 k1 k2 k3
    have hB3' := hB3a.below hb1 (by omega)
    obtain ⟨k0, k1⟩ := hB3'.cells
    have f0 := hB3'.frozen 0
    have f1 := hB3'.frozen 1
    have HF := Lib.hid (outR2_nil (g := w.heap.size + 2) 1 hb01 (by omega))
    clear hB1a hB2a hB3a hbx hbA hB3 hB3' hb0 hb1 hb01
    go_wp2
    refine bodyPost_ret (v := .tuple #[.agg #[.slice none 0 0, .slice none 0 0], .int .i64 1]) (by simp [results, Try.results19, go_sem, k0, k1]) rfl ?_
    exact HF.out
set_option maxHeartbeats 1600000 in
theorem xsub_bad (ha : Rd w A n c xs) (hb : Rd w B m d ys) (hc : Rd w C n' c' us) (hd : Rd w D m' d' vs) (f : (frB xs ys && frB us vs) = false) :
    Calls Try.prog 21 #[.agg #[.slice A n c, .slice B m d], .agg #[.slice C n' c', .slice D m' d']] w (OutR2 w [] [] 1) := by
  obtain ⟨hB1, hB2, hB3, hb0, hs0⟩ := boxes3 w 25 25 25 (.slice A n c) (.slice B m d) (.slice C n' c') (.slice D m' d') (.slice none 0 0) (.slice none 0 0)
  go_enter Try.func21, Try.ntmps21
  go_wp2_with fail
  generalize ((w.alloc (Obj.cells #[Value.slice A n c, Value.slice B m d] 25)).alloc (Obj.cells #[Value.slice C n' c', Value.slice D m' d'] 25)).alloc (Obj.cells #[Value.slice none 0 0, Value.slice none 0 0] 25) = W0 at *
  obtain ⟨k0, k1⟩ := hB1.cells
  obtain ⟨k2, k3⟩ := hB2.cells
  cases fa : frB xs ys
  · refine (rfr_any _ _ _ _ _ _ xs ys _ (ha.below hb0) (hb.below hb0)).mono ?_
    rw [fa]
    rintro e w1 ⟨rfl, hb1⟩
    have hb01 := hb0.trans (hb1.mono hb0.size)
    clear k0 k1 k2 k3
    have hB3' := hB3.below hb1 (by omega)
    obtain ⟨k0, k1⟩ := hB3'.cells
    have f0 := hB3'.frozen 0
    have f1 := hB3'.frozen 1
    have HF := Lib.hid (outR2_nil (g := w.heap.size + 2) 1 hb01 (by omega))
    clear hB1 hB2 hB3 hB3' hb0 hb1 hb01
    go_wp2
    refine bodyPost_ret (v := .tuple #[.agg #[.slice none 0 0, .slice none 0 0], .int .i64 1]) (by simp [results, Try.results21, go_sem, k0, k1]) rfl ?_
    exact HF.out
  · have fb : frB us vs = false := by rw [fa] at f; simpa using f
    refine (rfr_any _ _ _ _ _ _ xs ys _ (ha.below hb0) (hb.below hb0)).mono ?_
    rw [fa]
    rintro e w0 ⟨rfl, hbx⟩
    have hbA := hb0.trans (hbx.mono hb0.size)
    have hB1a := hB1.below hbx (by omega)
    have hB2a := hB2.below hbx (by omega)
    have hB3a := hB3.below hbx (by omega)
    have hsx := hbx.size
    clear hB1 hB2 k0 k1 k2 k3
    obtain ⟨k0, k1⟩ := hB1a.cells
    obtain ⟨k2, k3⟩ := hB2a.cells
    go_wp2_with fail
    refine (rfr_any _ _ _ _ _ _ us vs _ (hc.below hbA) (hd.below hbA)).mono ?_
    rw [fb]
    rintro e w1 ⟨rfl, hb1⟩
    have hb01 := hbA.trans (hb1.mono hbA.size)
    clear k0 k1 k2 k3
    have hB3' := hB3a.below hb1 (by omega)
    obtain ⟨k0, k1⟩ := hB3'.cells
    have f0 := hB3'.frozen 0
    have f1 := hB3'.frozen 1
    have HF := Lib.hid (outR2_nil (g := w.heap.size + 2) 1 hb01 (by omega))
    clear hB1a hB2a hB3a hbx hbA hB3 hB3' hb0 hb1 hb01
    go_wp2
    refine bodyPost_ret (v := .tuple #[.agg #[.slice none 0 0, .slice none 0 0], .int .i64 1]) (by simp [results, Try.results21, go_sem, k0, k1]) rfl ?_
    exact HF.out
set_option maxHeartbeats 1600000 in
theorem xmul_bad (ha : Rd w A n c xs) (hb : Rd w B m d ys) (hc : Rd w C n' c' us) (hd : Rd w D m' d' vs) (f : (frB xs ys && frB us vs) = false) :
    Calls Try.prog 27 #[.agg #[.slice A n c, .slice B m d], .agg #[.slice C n' c', .slice D m' d']] w (OutR2 w [] [] 1) := by
  obtain ⟨hB1, hB2, hB3, hb0, hs0⟩ := boxes3 w 25 25 25 (.slice A n c) (.slice B m d) (.slice C n' c') (.slice D m' d') (.slice none 0 0) (.slice none 0 0)
  go_enter Try.func27, Try.ntmps27
  go_wp2_with fail
  generalize ((w.alloc (Obj.cells #[Value.slice A n c, Value.slice B m d] 25)).alloc (Obj.cells #[Value.slice C n' c', Value.slice D m' d'] 25)).alloc (Obj.cells #[Value.slice none 0 0, Value.slice none 0 0] 25) = W0 at *
  obtain ⟨k0, k1⟩ := hB1.cells
  obtain ⟨k2, k3⟩ := hB2.cells
  cases fa : frB xs ys
  · refine (rfr_any _ _ _ _ _ _ xs ys _ (ha.below hb0) (hb.below hb0)).mono ?_
    rw [fa]
    rintro e w1 ⟨rfl, hb1⟩
    have hb01 := hb0.trans (hb1.mono hb0.size)
    clear k0 k1 k2 k3
    have hB3' := hB3.below hb1 (by omega)
    obtain ⟨k0, k1⟩ := hB3'.cells
    have f0 := hB3'.frozen 0
    have f1 := hB3'.frozen 1
    have HF := Lib.hid (outR2_nil (g := w.heap.size + 2) 1 hb01 (by omega))
    clear hB1 hB2 hB3 hB3' hb0 hb1 hb01
    go_wp2
    refine bodyPost_ret (v := .tuple #[.agg #[.slice none 0 0, .slice none 0 0], .int .i64 1]) (by simp [results, Try.results27, go_sem, k0, k1]) rfl ?_
    exact HF.out
  · have fb : frB us vs = false := by rw [fa] at f; simpa using f
    refine (rfr_any _ _ _ _ _ _ xs ys _ (ha.below hb0) (hb.below hb0)).mono ?_
    rw [fa]
    rintro e w0 ⟨rfl, hbx⟩
    have hbA := hb0.trans (hbx.mono hb0.size)
    have hB1a := hB1.below hbx (by omega)
    have hB2a := hB2.below hbx (by omega)
    have hB3a := hB3.below hbx (by omega)
    have hsx := hbx.size
    clear hB1 hB2 k0 k1 k2 k3
    obtain ⟨k0, k1⟩ := hB1a.cells
    obtain ⟨k2, k3⟩ := hB2a.cells
    go_wp2_with fail
    refine (rfr_any _ _ _ _ _ _ us vs _ (hc.below hbA) (hd.below hbA)).mono ?_
    rw [fb]
    rintro e w1 ⟨rfl, hb1⟩
    have hb01 := hbA.trans (hb1.mono hbA.size)
    clear k0 k1 k2 k3
    have hB3' := hB3a.below hb1 (by omega)
    obtain ⟨k0, k1⟩ := hB3'.cells
    have f0 := hB3'.frozen 0
    have f1 := hB3'.frozen 1
    have HF := Lib.hid (outR2_nil (g := w.heap.size + 2) 1 hb01 (by omega))
    clear hB1a hB2a hB3a hbx hbA hB3 hB3' hb0 hb1 hb01
    go_wp2
    refine bodyPost_ret (v := .tuple #[.agg #[.slice none 0 0, .slice none 0 0], .int .i64 1]) (by simp [results, Try.results27, go_sem, k0, k1]) rfl ?_
    exact HF.out
set_option maxHeartbeats 1600000 in
theorem xdiv_bad (ha : Rd w A n c xs) (hb : Rd w B m d ys) (hc : Rd w C n' c' us) (hd : Rd w D m' d' vs) (f : (frB xs ys && frB us vs) = false) :
    Calls Try.prog 29 #[.agg #[.slice A n c, .slice B m d], .agg #[.slice C n' c', .slice D m' d']] w (OutR2 w [] [] 1) := by
  obtain ⟨hB1, hB2, hB3, hb0, hs0⟩ := boxes3 w 25 25 25 (.slice A n c) (.slice B m d) (.slice C n' c') (.slice D m' d') (.slice none 0 0) (.slice none 0 0)
  go_enter Try.func29, Try.ntmps29
  go_wp2_with fail
  generalize ((w.alloc (Obj.cells #[Value.slice A n c, Value.slice B m d] 25)).alloc (Obj.cells #[Value.slice C n' c', Value.slice D m' d'] 25)).alloc (Obj.cells #[Value.slice none 0 0, Value.slice none 0 0] 25) = W0 at *
  obtain ⟨k0, k1⟩ := hB1.cells
  obtain ⟨k2, k3⟩ := hB2.cells
  cases fa : frB xs ys
  · refine (rfr_any _ _ _ _ _ _ xs ys _ (ha.below hb0) (hb.below hb0)).mono ?_
    rw [fa]
    rintro e w1 ⟨rfl, hb1⟩
    have hb01 := hb0.trans (hb1.mono hb0.size)
    clear k0 k1 k2 k3
    have hB3' := hB3.below hb1 (by omega)
    obtain ⟨k0, k1⟩ := hB3'.cells
    have f0 := hB3'.frozen 0
    have f1 := hB3'.frozen 1
    have HF := Lib.hid (outR2_nil (g := w.heap.size + 2) 1 hb01 (by omega))
    clear hB1 hB2 hB3 hB3' hb0 hb1 hb01
    go_wp2
    refine bodyPost_ret (v := .tuple #[.agg #[.slice none 0 0, .slice none 0 0], .int .i64 1]) (by simp [results, Try.results29, go_sem, k0, k1]) rfl ?_
    exact HF.out
  · have fb : frB us vs = false := by rw [fa] at f; simpa using f
    refine (rfr_any _ _ _ _ _ _ xs ys _ (ha.below hb0) (hb.below hb0)).mono ?_
    rw [fa]
    rintro e w0 ⟨rfl, hbx⟩
    have hbA := hb0.trans (hbx.mono hb0.size)
    have hB1a := hB1.below hbx (by omega)
    have hB2a := hB2.below hbx (by omega)
    have hB3a := hB3.below hbx (by omega)
    have hsx := hbx.size
    clear hB1 hB2 k0 k1 k2 k3
    obtain ⟨k0, k1⟩ := hB1a.cells
    obtain ⟨k2, k3⟩ := hB2a.cells
    go_wp2_with fail
    refine (rfr_any _ _ _ _ _ _ us vs _ (hc.below hbA) (hd.below hbA)).mono ?_
    rw [fb]
    rintro e w1 ⟨rfl, hb1⟩
    have hb01 := hbA.trans (hb1.mono hbA.size)
    clear k0 k1 k2 k3
    have hB3' := hB3a.below hb1 (by omega)
    obtain ⟨k0, k1⟩ := hB3'.cells
    have f0 := hB3'.frozen 0
    have f1 := hB3'.frozen 1
    have HF := Lib.hid (outR2_nil (g := w.heap.size + 2) 1 hb01 (by omega))
    clear hB1a hB2a hB3a hbx hbA hB3 hB3' hb0 hb1 hb01
    go_wp2
    refine bodyPost_ret (v := .tuple #[.agg #[.slice none 0 0, .slice none 0 0], .int .i64 1]) (by simp [results, Try.results29, go_sem, k0, k1]) rfl ?_
    exact HF.out
set_option maxHeartbeats 1600000 in
theorem xmin_bad (ha : Rd w A n c xs) (hb : Rd w B m d ys) (hc : Rd w C n' c' us) (hd : Rd w D m' d' vs) (f : (frB xs ys && frB us vs) = false) :
    Calls Try.prog 23 #[.agg #[.slice A n c, .slice B m d], .agg #[.slice C n' c', .slice D m' d']] w (OutR2 w [] [] 1) := by
  obtain ⟨hB1, hB2, hB3, hb0, hs0⟩ := boxes3 w 25 25 25 (.slice A n c) (.slice B m d) (.slice C n' c') (.slice D m' d') (.slice none 0 0) (.slice none 0 0)
  go_enter Try.func23, Try.ntmps23
  go_wp2_with fail
  generalize ((w.alloc (Obj.cells #[Value.slice A n c, Value.slice B m d] 25)).alloc (Obj.cells #[Value.slice C n' c', Value.slice D m' d'] 25)).alloc (Obj.cells #[Value.slice none 0 0, Value.slice none 0 0] 25) = W0 at *
  obtain ⟨k0, k1⟩ := hB1.cells
  obtain ⟨k2, k3⟩ := hB2.cells
  cases fa : frB xs ys
  · refine (rfr_any _ _ _ _ _ _ xs ys _ (ha.below hb0) (hb.below hb0)).mono ?_
    rw [fa]
    rintro e w1 ⟨rfl, hb1⟩
    have hb01 := hb0.trans (hb1.mono hb0.size)
    clear k0 k1 k2 k3
    have hB3' := hB3.below hb1 (by omega)
    obtain ⟨k0, k1⟩ := hB3'.cells
    have f0 := hB3'.frozen 0
    have f1 := hB3'.frozen 1
    have HF := Lib.hid (outR2_nil (g := w.heap.size + 2) 1 hb01 (by omega))
    clear hB1 hB2 hB3 hB3' hb0 hb1 hb01
    go_wp2
    refine bodyPost_ret (v := .tuple #[.agg #[.slice none 0 0, .slice none 0 0], .int .i64 1]) (by simp [results, Try.results23, go_sem, k0, k1]) rfl ?_
    exact HF.out
  · have fb : frB us vs = false := by rw [fa] at f; simpa using f
    refine (rfr_any _ _ _ _ _ _ xs ys _ (ha.below hb0) (hb.below hb0)).mono ?_
    rw [fa]
    rintro e w0 ⟨rfl, hbx⟩
    have hbA := hb0.trans (hbx.mono hb0.size)
    have hB1a := hB1.below hbx (by omega)
    have hB2a := hB2.below hbx (by omega)
    have hB3a := hB3.below hbx (by omega)
    have hsx := hbx.size
    clear hB1 hB2 k0 k1 k2 k3
    obtain ⟨k0, k1⟩ := hB1a.cells
    obtain ⟨k2, k3⟩ := hB2a.cells
    go_wp2_with fail
    refine (rfr_any _ _ _ _ _ _ us vs _ (hc.below hbA) (hd.below hbA)).mono ?_
    rw [fb]
    rintro e w1 ⟨rfl, hb1⟩
    have hb01 := hbA.trans (hb1.mono hbA.size)
    clear k0 k1 k2 k3
    have hB3' := hB3a.below hb1 (by omega)
    obtain ⟨k0, k1⟩ := hB3'.cells
    have f0 := hB3'.frozen 0
    have f1 := hB3'.frozen 1
    have HF := Lib.hid (outR2_nil (g := w.heap.size + 2) 1 hb01 (by omega))
    clear hB1a hB2a hB3a hbx hbA hB3 hB3' hb0 hb1 hb01
    go_wp2
    refine bodyPost_ret (v := .tuple #[.agg #[.slice none 0 0, .slice none 0 0], .int .i64 1]) (by simp [results, Try.results23, go_sem, k0, k1]) rfl ?_
    exact HF.out
set_option maxHeartbeats 3200000 in
theorem xadd_yes (ha : Rd w A n c (digs p)) (hb : Rd w B m d (digs q)) (hc : Rd w C n' c' (digs r)) (hd : Rd w D m' d' (digs s)) (h1 : Fr p q) (h2 : Fr r s) (l1 : (digs (p * s)).length ≤ 400) (l2 : (digs (r * q)).length ≤ 400) (l3 : (digs (q * s)).length ≤ 400) (l4 : (digs (p * s + r * q)).length ≤ 400) :
    Calls Try.prog 19 #[.agg #[.slice A n c, .slice B m d], .agg #[.slice C n' c', .slice D m' d']] w (OutR2 w (digs ((p * s + r * q) / Nat.gcd (p * s + r * q) (q * s))) (digs ((q * s) / Nat.gcd (p * s + r * q) (q * s))) 0) := by
  have hD : q * s ≠ 0 := Nat.mul_ne_zero h1.2.2.1 h2.2.2.1
  obtain ⟨hB1, hB2, hB3, hb0, hs0⟩ := boxes3 w 25 25 25 (.slice A n c) (.slice B m d) (.slice C n' c') (.slice D m' d') (.slice none 0 0) (.slice none 0 0)
  go_enter Try.func19, Try.ntmps19
  go_wp2_with fail
  generalize ((w.alloc (Obj.cells #[Value.slice A n c, Value.slice B m d] 25)).alloc (Obj.cells #[Value.slice C n' c', Value.slice D m' d'] 25)).alloc (Obj.cells #[Value.slice none 0 0, Value.slice none 0 0] 25) = W0 at *
  obtain ⟨k0, k1⟩ := hB1.cells
  obtain ⟨k2, k3⟩ := hB2.cells
  refine (rfr_nat _ _ _ _ _ _ p q _ (ha.below hb0) (hb.below hb0) h1).mono ?_
  rintro e w1 ⟨rfl, hbx⟩
  have hbA := hb0.trans (hbx.mono hb0.size)
  have hB1a := hB1.below hbx (by omega)
  have hB2a := hB2.below hbx (by omega)
  have hB3a := hB3.below hbx (by omega)
  have hsx := hbx.size
  clear hB1 hB2 hB3 k0 k1 k2 k3
  obtain ⟨k0, k1⟩ := hB1a.cells
  obtain ⟨k2, k3⟩ := hB2a.cells
  go_wp2_with fail
  refine (rfr_nat _ _ _ _ _ _ r s _ (hc.below hbA) (hd.below hbA) h2).mono ?_
  rintro e w2 ⟨rfl, hby⟩
  have hbB := hbA.trans (hby.mono hbA.size)
  have hB1b := hB1a.below hby (by omega)
  have hB2b := hB2a.below hby (by omega)
  have hB3b := hB3a.below hby (by omega)
  have hsy := hby.size
  clear hB1a hB2a hB3a k0 k1 k2 k3 hbA hb0 hbx hby
  obtain ⟨k0, k1⟩ := hB1b.cells
  obtain ⟨k2, k3⟩ := hB2b.cells
  go_wp2_with fail
  refine (cross_yes _ _ _ _ _ _ _ _ _ _ _ _ p q r s _ (ha.below hbB) (hb.below hbB) (hc.below hbB) (hd.below hbB) h1 h2 l1 l2).mono ?_
  rintro e w3 ⟨A3, n3, c3, B3, m3, d3, rfl, hN3, hM3, hb3⟩
  have hbC := hbB.trans (hb3.mono hbB.size)
  have hB1c := hB1b.below hb3 (by omega)
  have hB2c := hB2b.below hb3 (by omega)
  have hB3c := hB3b.below hb3 (by omega)
  have hs3 := hb3.size
  clear hB1b hB2b hB3b k0 k1 k2 k3
  obtain ⟨k0, k1⟩ := hB1c.cells
  obtain ⟨k2, k3⟩ := hB2c.cells
  go_wp2_with fail
  refine (rmul_nat _ _ _ _ _ _ q s _ (hb.below hbC) (hd.below hbC) h1.2.1 h2.2.1).mono ?_
  rintro e w4 ⟨A4, n4, c4, rfl, hN4, hb4⟩
  have hbD := hbC.trans (hb4.mono hbC.size)
  have hB3d := hB3c.below hb4 (by omega)
  have hs4 := hb4.size
  have hN3d := hN3.below hb4
  have hM3d := hM3.below hb4
  clear hB1c hB2c
  go_wp2_with fail
  refine (bound_nat _ _ _ (q * s) _ hN4.1 l3).mono ?_
  rintro e w' ⟨rfl, rfl⟩
  go_wp2_with fail
  refine (radd_nat _ _ _ _ _ _ (p * s) (r * q) _ hN3d.1 hM3d.1 l1 l2).mono ?_
  rintro e w5 ⟨A5, n5, c5, rfl, hN5, hb5⟩
  have hbE := hbD.trans (hb5.mono hbD.size)
  have hB3e := hB3d.below hb5 (by omega)
  have hs5 := hb5.size
  have hN4e := hN4.below hb5
  go_wp2_with fail
  refine (bound_nat _ _ _ (p * s + r * q) _ hN5.1 l4).mono ?_
  rintro e w' ⟨rfl, rfl⟩
  go_wp2_with fail
  refine (lowest_any _ _ _ _ _ _ (p * s + r * q) (q * s) _ hN5.1 hN4e.1 l4 l3 hD).mono ?_
  rintro e w6 ⟨A6, n6, c6, B6, m6, d6, rfl, hN6, hM6, hb6⟩
  have hbF := hbE.trans (hb6.mono hbE.size)
  have hB3f := hB3e.below hb6 (by omega)
  clear k0 k1 k2 k3
  obtain ⟨k0, k1⟩ := hB3f.cells
  have f0 := hB3f.frozen 0
  have f1 := hB3f.frozen 1
  have HF := Lib.hid (outR2_end 0 (g := w.heap.size + 2) hN6 hM6 hbF (by omega) (by omega))
  clear hB3c hB3d hB3e hB3f hbB hbC hbD hbE hbF hb3 hb4 hb5 hb6 hN3 hM3 hN3d hM3d hN4 hN4e hN5 hN6 hM6
  go_wp2
  refine bodyPost_ret (v := .tuple #[.agg #[.slice A6 n6 c6, .slice B6 m6 d6], .int .i64 0]) (by simp [results, Try.results19, go_sem, k0, k1]) rfl ?_
  exact HF.out
set_option maxHeartbeats 3200000 in
theorem xsub_yes (ha : Rd w A n c (digs p)) (hb : Rd w B m d (digs q)) (hc : Rd w C n' c' (digs r)) (hd : Rd w D m' d' (digs s)) (h1 : Fr p q) (h2 : Fr r s) (l1 : (digs (p * s)).length ≤ 400) (l2 : (digs (r * q)).length ≤ 400) (l3 : (digs (q * s)).length ≤ 400) (hle : r * q ≤ p * s) :
    Calls Try.prog 21 #[.agg #[.slice A n c, .slice B m d], .agg #[.slice C n' c', .slice D m' d']] w (OutR2 w (digs ((p * s - r * q) / Nat.gcd (p * s - r * q) (q * s))) (digs ((q * s) / Nat.gcd (p * s - r * q) (q * s))) 0) := by
  have hD : q * s ≠ 0 := Nat.mul_ne_zero h1.2.2.1 h2.2.2.1
  obtain ⟨hB1, hB2, hB3, hb0, hs0⟩ := boxes3 w 25 25 25 (.slice A n c) (.slice B m d) (.slice C n' c') (.slice D m' d') (.slice none 0 0) (.slice none 0 0)
  go_enter Try.func21, Try.ntmps21
  go_wp2_with fail
  generalize ((w.alloc (Obj.cells #[Value.slice A n c, Value.slice B m d] 25)).alloc (Obj.cells #[Value.slice C n' c', Value.slice D m' d'] 25)).alloc (Obj.cells #[Value.slice none 0 0, Value.slice none 0 0] 25) = W0 at *
  obtain ⟨k0, k1⟩ := hB1.cells
  obtain ⟨k2, k3⟩ := hB2.cells
  refine (rfr_nat _ _ _ _ _ _ p q _ (ha.below hb0) (hb.below hb0) h1).mono ?_
  rintro e w1 ⟨rfl, hbx⟩
  have hbA := hb0.trans (hbx.mono hb0.size)
  have hB1a := hB1.below hbx (by omega)
  have hB2a := hB2.below hbx (by omega)
  have hB3a := hB3.below hbx (by omega)
  have hsx := hbx.size
  clear hB1 hB2 hB3 k0 k1 k2 k3
  obtain ⟨k0, k1⟩ := hB1a.cells
  obtain ⟨k2, k3⟩ := hB2a.cells
  go_wp2_with fail
  refine (rfr_nat _ _ _ _ _ _ r s _ (hc.below hbA) (hd.below hbA) h2).mono ?_
  rintro e w2 ⟨rfl, hby⟩
  have hbB := hbA.trans (hby.mono hbA.size)
  have hB1b := hB1a.below hby (by omega)
  have hB2b := hB2a.below hby (by omega)
  have hB3b := hB3a.below hby (by omega)
  have hsy := hby.size
  clear hB1a hB2a hB3a k0 k1 k2 k3 hbA hb0 hbx hby
  obtain ⟨k0, k1⟩ := hB1b.cells
  obtain ⟨k2, k3⟩ := hB2b.cells
  go_wp2_with fail
  refine (cross_yes _ _ _ _ _ _ _ _ _ _ _ _ p q r s _ (ha.below hbB) (hb.below hbB) (hc.below hbB) (hd.below hbB) h1 h2 l1 l2).mono ?_
  rintro e w3 ⟨A3, n3, c3, B3, m3, d3, rfl, hN3, hM3, hb3⟩
  have hbC := hbB.trans (hb3.mono hbB.size)
  have hB1c := hB1b.below hb3 (by omega)
  have hB2c := hB2b.below hb3 (by omega)
  have hB3c := hB3b.below hb3 (by omega)
  have hs3 := hb3.size
  clear hB1b hB2b hB3b k0 k1 k2 k3
  obtain ⟨k0, k1⟩ := hB1c.cells
  obtain ⟨k2, k3⟩ := hB2c.cells
  go_wp2_with fail
  refine (rmul_nat _ _ _ _ _ _ q s _ (hb.below hbC) (hd.below hbC) h1.2.1 h2.2.1).mono ?_
  rintro e w4 ⟨A4, n4, c4, rfl, hN4, hb4⟩
  have hbD := hbC.trans (hb4.mono hbC.size)
  have hB3d := hB3c.below hb4 (by omega)
  have hs4 := hb4.size
  have hN3d := hN3.below hb4
  have hM3d := hM3.below hb4
  clear hB1c hB2c
  go_wp2_with fail
  refine (bound_nat _ _ _ (q * s) _ hN4.1 l3).mono ?_
  rintro e w' ⟨rfl, rfl⟩
  go_wp2_with fail
  refine (rcmp_nat _ _ _ _ _ _ (p * s) (r * q) _ hN3d.1 hM3d.1).mono ?_
  have hcn : decide (cmpN (p * s) (r * q) < 0) = false := by unfold cmpN; rw [if_neg (by omega)]; split <;> rfl
  rintro e w5 ⟨rfl, nq, rfl⟩
  have hbE := below_drewN' hbD nq
  have hB3e := hB3d.drewN nq
  go_wp2_with fail
  refine (rsub_nat _ _ _ _ _ _ (p * s) (r * q) _ (hN3d.1.drewN nq) (hM3d.1.drewN nq) l1 hle).mono ?_
  rintro e w6 ⟨A5, n5, c5, rfl, hN5, hb5⟩
  have hbG := hbE.trans (hb5.mono hbE.size)
  have hB3g := hB3e.below hb5 (by show w.heap.size + 2 < w4.heap.size; omega)
  have hs5 : w4.heap.size ≤ w6.heap.size := hb5.size
  have hN4e := (hN4.1.drewN nq).below hb5
  go_wp2_with fail
  refine (lowest_any _ _ _ _ _ _ (p * s - r * q) (q * s) _ hN5.1 hN4e (Nat.le_trans (len_digs_mono (Nat.sub_le _ _)) l1) l3 hD).mono ?_
  rintro e w7 ⟨A6, n6, c6, B6, m6, d6, rfl, hN6, hM6, hb6⟩
  have hbF := hbG.trans (hb6.mono hbG.size)
  have hB3f := hB3g.below hb6 (by omega)
  clear k0 k1 k2 k3
  obtain ⟨k0, k1⟩ := hB3f.cells
  have f0 := hB3f.frozen 0
  have f1 := hB3f.frozen 1
  have HF := Lib.hid (outR2_end 0 (g := w.heap.size + 2) hN6 hM6 hbF (by omega) (by omega))
  clear hB3c hB3d hB3e hB3f hB3g hbB hbC hbD hbE hbF hbG hb3 hb4 hb5 hb6 hN3 hM3 hN3d hM3d hN4 hN4e hN5 hN6 hM6
  go_wp2
  refine bodyPost_ret (v := .tuple #[.agg #[.slice A6 n6 c6, .slice B6 m6 d6], .int .i64 0]) (by simp [results, Try.results21, go_sem, k0, k1]) rfl ?_
  exact HF.out
set_option maxHeartbeats 3200000 in
theorem xsub_less (ha : Rd w A n c (digs p)) (hb : Rd w B m d (digs q)) (hc : Rd w C n' c' (digs r)) (hd : Rd w D m' d' (digs s)) (h1 : Fr p q) (h2 : Fr r s) (l1 : (digs (p * s)).length ≤ 400) (l2 : (digs (r * q)).length ≤ 400) (l3 : (digs (q * s)).length ≤ 400) (hlt : p * s < r * q) :
    Calls Try.prog 21 #[.agg #[.slice A n c, .slice B m d], .agg #[.slice C n' c', .slice D m' d']] w (OutR2 w [] [] 3) := by
  obtain ⟨hB1, hB2, hB3, hb0, hs0⟩ := boxes3 w 25 25 25 (.slice A n c) (.slice B m d) (.slice C n' c') (.slice D m' d') (.slice none 0 0) (.slice none 0 0)
  go_enter Try.func21, Try.ntmps21
  go_wp2_with fail
  generalize ((w.alloc (Obj.cells #[Value.slice A n c, Value.slice B m d] 25)).alloc (Obj.cells #[Value.slice C n' c', Value.slice D m' d'] 25)).alloc (Obj.cells #[Value.slice none 0 0, Value.slice none 0 0] 25) = W0 at *
  obtain ⟨k0, k1⟩ := hB1.cells
  obtain ⟨k2, k3⟩ := hB2.cells
  refine (rfr_nat _ _ _ _ _ _ p q _ (ha.below hb0) (hb.below hb0) h1).mono ?_
  rintro e w1 ⟨rfl, hbx⟩
  have hbA := hb0.trans (hbx.mono hb0.size)
  have hB1a := hB1.below hbx (by omega)
  have hB2a := hB2.below hbx (by omega)
  have hB3a := hB3.below hbx (by omega)
  have hsx := hbx.size
  clear hB1 hB2 hB3 k0 k1 k2 k3
  obtain ⟨k0, k1⟩ := hB1a.cells
  obtain ⟨k2, k3⟩ := hB2a.cells
  go_wp2_with fail
  refine (rfr_nat _ _ _ _ _ _ r s _ (hc.below hbA) (hd.below hbA) h2).mono ?_
  rintro e w2 ⟨rfl, hby⟩
  have hbB := hbA.trans (hby.mono hbA.size)
  have hB1b := hB1a.below hby (by omega)
  have hB2b := hB2a.below hby (by omega)
  have hB3b := hB3a.below hby (by omega)
  have hsy := hby.size
  clear hB1a hB2a hB3a k0 k1 k2 k3 hbA hb0 hbx hby
  obtain ⟨k0, k1⟩ := hB1b.cells
  obtain ⟨k2, k3⟩ := hB2b.cells
  go_wp2_with fail
  refine (cross_yes _ _ _ _ _ _ _ _ _ _ _ _ p q r s _ (ha.below hbB) (hb.below hbB) (hc.below hbB) (hd.below hbB) h1 h2 l1 l2).mono ?_
  rintro e w3 ⟨A3, n3, c3, B3, m3, d3, rfl, hN3, hM3, hb3⟩
  have hbC := hbB.trans (hb3.mono hbB.size)
  have hB1c := hB1b.below hb3 (by omega)
  have hB2c := hB2b.below hb3 (by omega)
  have hB3c := hB3b.below hb3 (by omega)
  have hs3 := hb3.size
  clear hB1b hB2b hB3b k0 k1 k2 k3
  obtain ⟨k0, k1⟩ := hB1c.cells
  obtain ⟨k2, k3⟩ := hB2c.cells
  go_wp2_with fail
  refine (rmul_nat _ _ _ _ _ _ q s _ (hb.below hbC) (hd.below hbC) h1.2.1 h2.2.1).mono ?_
  rintro e w4 ⟨A4, n4, c4, rfl, hN4, hb4⟩
  have hbD := hbC.trans (hb4.mono hbC.size)
  have hB3d := hB3c.below hb4 (by omega)
  have hs4 := hb4.size
  have hN3d := hN3.below hb4
  have hM3d := hM3.below hb4
  clear hB1c hB2c
  go_wp2_with fail
  refine (bound_nat _ _ _ (q * s) _ hN4.1 l3).mono ?_
  rintro e w' ⟨rfl, rfl⟩
  go_wp2_with fail
  refine (rcmp_nat _ _ _ _ _ _ (p * s) (r * q) _ hN3d.1 hM3d.1).mono ?_
  rw [cmpN_lt hlt]
  rintro e w5 ⟨rfl, nq, rfl⟩
  have hbE := below_drewN' hbD nq
  have hB3e := hB3d.drewN nq
  clear k0 k1 k2 k3
  obtain ⟨k0, k1⟩ := hB3e.cells
  have f0 := hB3e.frozen 0
  have f1 := hB3e.frozen 1
  have HF := Lib.hid (outR2_nil (g := w.heap.size + 2) 3 hbE (by omega))
  clear hB3c hB3d hB3e hbB hbC hbD hbE hb3 hb4 hN3 hM3 hN3d hM3d hN4
  go_wp2
  refine bodyPost_ret (v := .tuple #[.agg #[.slice none 0 0, .slice none 0 0], .int .i64 3]) (by simp [results, Try.results21, go_sem, k0, k1]) rfl ?_
  exact HF.out
set_option maxHeartbeats 3200000 in
theorem xmul_yes (ha : Rd w A n c (digs p)) (hb : Rd w B m d (digs q)) (hc : Rd w C n' c' (digs r)) (hd : Rd w D m' d' (digs s)) (h1 : Fr p q) (h2 : Fr r s) (l1 : (digs (p * r)).length ≤ 400) (l2 : (digs (q * s)).length ≤ 400) :
    Calls Try.prog 27 #[.agg #[.slice A n c, .slice B m d], .agg #[.slice C n' c', .slice D m' d']] w (OutR2 w (digs ((p * r) / Nat.gcd (p * r) (q * s))) (digs ((q * s) / Nat.gcd (p * r) (q * s))) 0) := by
  have hD : q * s ≠ 0 := Nat.mul_ne_zero h1.2.2.1 h2.2.2.1
  obtain ⟨hB1, hB2, hB3, hb0, hs0⟩ := boxes3 w 25 25 25 (.slice A n c) (.slice B m d) (.slice C n' c') (.slice D m' d') (.slice none 0 0) (.slice none 0 0)
  go_enter Try.func27, Try.ntmps27
  go_wp2_with fail
  generalize ((w.alloc (Obj.cells #[Value.slice A n c, Value.slice B m d] 25)).alloc (Obj.cells #[Value.slice C n' c', Value.slice D m' d'] 25)).alloc (Obj.cells #[Value.slice none 0 0, Value.slice none 0 0] 25) = W0 at *
  obtain ⟨k0, k1⟩ := hB1.cells
  obtain ⟨k2, k3⟩ := hB2.cells
  refine (rfr_nat _ _ _ _ _ _ p q _ (ha.below hb0) (hb.below hb0) h1).mono ?_
  rintro e w1 ⟨rfl, hbx⟩
  have hbA := hb0.trans (hbx.mono hb0.size)
  have hB1a := hB1.below hbx (by omega)
  have hB2a := hB2.below hbx (by omega)
  have hB3a := hB3.below hbx (by omega)
  have hsx := hbx.size
  clear hB1 hB2 hB3 k0 k1 k2 k3
  obtain ⟨k0, k1⟩ := hB1a.cells
  obtain ⟨k2, k3⟩ := hB2a.cells
  go_wp2_with fail
  refine (rfr_nat _ _ _ _ _ _ r s _ (hc.below hbA) (hd.below hbA) h2).mono ?_
  rintro e w2 ⟨rfl, hby⟩
  have hbB := hbA.trans (hby.mono hbA.size)
  have hB1b := hB1a.below hby (by omega)
  have hB2b := hB2a.below hby (by omega)
  have hB3b := hB3a.below hby (by omega)
  have hsy := hby.size
  clear hB1a hB2a hB3a k0 k1 k2 k3 hbA hb0 hbx hby
  obtain ⟨k0, k1⟩ := hB1b.cells
  obtain ⟨k2, k3⟩ := hB2b.cells
  go_wp2_with fail
  refine (rmul_nat _ _ _ _ _ _ p r _ (ha.below hbB) (hc.below hbB) h1.1 h2.1).mono ?_
  rintro e w3 ⟨A3, n3, c3, rfl, hN3, hb3⟩
  have hbC := hbB.trans (hb3.mono hbB.size)
  have hB1c := hB1b.below hb3 (by omega)
  have hB2c := hB2b.below hb3 (by omega)
  have hB3c := hB3b.below hb3 (by omega)
  have hs3 := hb3.size
  clear hB1b hB2b hB3b k0 k1 k2 k3
  obtain ⟨k0, k1⟩ := hB1c.cells
  obtain ⟨k2, k3⟩ := hB2c.cells
  go_wp2_with fail
  refine (bound_nat _ _ _ (p * r) _ hN3.1 l1).mono ?_
  rintro e w' ⟨rfl, rfl⟩
  go_wp2_with fail
  refine (rmul_nat _ _ _ _ _ _ q s _ (hb.below hbC) (hd.below hbC) h1.2.1 h2.2.1).mono ?_
  rintro e w4 ⟨A4, n4, c4, rfl, hN4, hb4⟩
  have hbD := hbC.trans (hb4.mono hbC.size)
  have hB3d := hB3c.below hb4 (by omega)
  have hs4 := hb4.size
  have hN3d := hN3.below hb4
  go_wp2_with fail
  refine (bound_nat _ _ _ (q * s) _ hN4.1 l2).mono ?_
  rintro e w' ⟨rfl, rfl⟩
  go_wp2_with fail
  refine (lowest_any _ _ _ _ _ _ (p * r) (q * s) _ hN3d.1 hN4.1 l1 l2 hD).mono ?_
  rintro e w6 ⟨A6, n6, c6, B6, m6, d6, rfl, hN6, hM6, hb6⟩
  have hbF := hbD.trans (hb6.mono hbD.size)
  have hB3f := hB3d.below hb6 (by omega)
  clear k0 k1 k2 k3
  obtain ⟨k0, k1⟩ := hB3f.cells
  have f0 := hB3f.frozen 0
  have f1 := hB3f.frozen 1
  have HF := Lib.hid (outR2_end 0 (g := w.heap.size + 2) hN6 hM6 hbF (by omega) (by omega))
  clear hB1c hB2c hB3c hB3d hB3f hbB hbC hbD hbF hb3 hb4 hb6 hN3 hN3d hN4 hN6 hM6
  go_wp2
  refine bodyPost_ret (v := .tuple #[.agg #[.slice A6 n6 c6, .slice B6 m6 d6], .int .i64 0]) (by simp [results, Try.results27, go_sem, k0, k1]) rfl ?_
  exact HF.out
set_option maxHeartbeats 1600000 in
theorem xdiv_none (ha : Rd w A n c (digs p)) (hb : Rd w B m d (digs q)) (hc : Rd w C 0 c' (digs r)) (hd : Rd w D m' d' (digs s)) (h1 : Fr p q) (h2 : Fr r s) :
    Calls Try.prog 29 #[.agg #[.slice A n c, .slice B m d], .agg #[.slice C 0 c', .slice D m' d']] w (OutR2 w [] [] 5) := by
  obtain ⟨hB1, hB2, hB3, hb0, hs0⟩ := boxes3 w 25 25 25 (.slice A n c) (.slice B m d) (.slice C 0 c') (.slice D m' d') (.slice none 0 0) (.slice none 0 0)
  go_enter Try.func29, Try.ntmps29
  go_wp2_with fail
  generalize ((w.alloc (Obj.cells #[Value.slice A n c, Value.slice B m d] 25)).alloc (Obj.cells #[Value.slice C 0 c', Value.slice D m' d'] 25)).alloc (Obj.cells #[Value.slice none 0 0, Value.slice none 0 0] 25) = W0 at *
  obtain ⟨k0, k1⟩ := hB1.cells
  obtain ⟨k2, k3⟩ := hB2.cells
  refine (rfr_nat _ _ _ _ _ _ p q _ (ha.below hb0) (hb.below hb0) h1).mono ?_
  rintro e w1 ⟨rfl, hbx⟩
  have hbA := hb0.trans (hbx.mono hb0.size)
  have hB1a := hB1.below hbx (by omega)
  have hB2a := hB2.below hbx (by omega)
  have hB3a := hB3.below hbx (by omega)
  have hsx := hbx.size
  clear hB1 hB2 hB3 k0 k1 k2 k3
  obtain ⟨k0, k1⟩ := hB1a.cells
  obtain ⟨k2, k3⟩ := hB2a.cells
  go_wp2_with fail
  refine (rfr_nat _ _ _ _ _ _ r s _ (hc.below hbA) (hd.below hbA) h2).mono ?_
  rintro e w2 ⟨rfl, hby⟩
  have hbB := hbA.trans (hby.mono hbA.size)
  have hB1b := hB1a.below hby (by omega)
  have hB2b := hB2a.below hby (by omega)
  have hB3b := hB3a.below hby (by omega)
  have hsy := hby.size
  clear hB1a hB2a hB3a k0 k1 k2 k3 hbA hb0 hbx hby
  obtain ⟨k0, k1⟩ := hB1b.cells
  obtain ⟨k2, k3⟩ := hB2b.cells
  clear k0 k1
  obtain ⟨y0, y1⟩ := hB3b.cells
  have f0 := hB3b.frozen 0
  have f1 := hB3b.frozen 1
  have HF := Lib.hid (outR2_nil (g := w.heap.size + 2) 5 hbB (by omega))
  clear hbB hB1b hB2b hB3b
  go_wp2
  refine bodyPost_ret (v := .tuple #[.agg #[.slice none 0 0, .slice none 0 0], .int .i64 5]) (by simp [results, Try.results29, go_sem, y0, y1]) rfl ?_
  exact HF.out
set_option maxHeartbeats 1600000 in
theorem xdiv_yes (ha : Rd w A n c (digs p)) (hb : Rd w B m d (digs q)) (hc : Rd w C n' c' (digs r)) (hd : Rd w D m' d' (digs s)) (h1 : Fr p q) (h2 : Fr r s) (hr : r ≠ 0) (l1 : (digs (p * s)).length ≤ 400) (l2 : (digs (q * r)).length ≤ 400) :
    Calls Try.prog 29 #[.agg #[.slice A n c, .slice B m d], .agg #[.slice C n' c', .slice D m' d']] w (OutR2 w (digs ((p * s) / Nat.gcd (p * s) (q * r))) (digs ((q * r) / Nat.gcd (p * s) (q * r))) 0) := by
  have hn0 : n' ≠ 0 := by rw [← hc.len]; exact fun e => hr (len_digs_eq_zero.1 e)
  have hn1 : ((n' : Int) == 0) = false := by simp; omega
  have h2' : Fr s r := ⟨h2.2.1, h2.1, hr, by rw [Nat.gcd_comm]; exact h2.2.2.2⟩
  obtain ⟨hB1, hB2, hB3, hb0, hs0⟩ := boxes3 w 25 25 25 (.slice A n c) (.slice B m d) (.slice C n' c') (.slice D m' d') (.slice none 0 0) (.slice none 0 0)
  go_enter Try.func29, Try.ntmps29
  go_wp2_with fail
  generalize ((w.alloc (Obj.cells #[Value.slice A n c, Value.slice B m d] 25)).alloc (Obj.cells #[Value.slice C n' c', Value.slice D m' d'] 25)).alloc (Obj.cells #[Value.slice none 0 0, Value.slice none 0 0] 25) = W0 at *
  obtain ⟨k0, k1⟩ := hB1.cells
  obtain ⟨k2, k3⟩ := hB2.cells
  refine (rfr_nat _ _ _ _ _ _ p q _ (ha.below hb0) (hb.below hb0) h1).mono ?_
  rintro e w1 ⟨rfl, hbx⟩
  have hbA := hb0.trans (hbx.mono hb0.size)
  have hB1a := hB1.below hbx (by omega)
  have hB2a := hB2.below hbx (by omega)
  have hB3a := hB3.below hbx (by omega)
  have hsx := hbx.size
  clear hB1 hB2 hB3 k0 k1 k2 k3
  obtain ⟨k0, k1⟩ := hB1a.cells
  obtain ⟨k2, k3⟩ := hB2a.cells
  go_wp2_with fail
  refine (rfr_nat _ _ _ _ _ _ r s _ (hc.below hbA) (hd.below hbA) h2).mono ?_
  rintro e w2 ⟨rfl, hby⟩
  have hbB := hbA.trans (hby.mono hbA.size)
  have hB1b := hB1a.below hby (by omega)
  have hB2b := hB2a.below hby (by omega)
  have hB3b := hB3a.below hby (by omega)
  have hsy := hby.size
  clear hB1a hB2a hB3a k0 k1 k2 k3 hbA hb0 hbx hby
  obtain ⟨k0, k1⟩ := hB1b.cells
  obtain ⟨k2, k3⟩ := hB2b.cells
  go_wp2_with fail
  refine (xmul_yes _ _ _ _ _ _ _ _ _ _ _ _ p q s r _ (ha.below hbB) (hb.below hbB) (hd.below hbB) (hc.below hbB) h1 h2' l1 l2).mono ?_
  rintro e w3 ⟨A6, n6, c6, B6, m6, d6, rfl, hN6, hM6, hb6⟩
  have hbF := hbB.trans (hb6.mono hbB.size)
  have hB3f := hB3b.below hb6 (by omega)
  clear k0 k1 k2 k3
  obtain ⟨k0, k1⟩ := hB3f.cells
  have f0 := hB3f.frozen 0
  have f1 := hB3f.frozen 1
  have HF := Lib.hid (outR2_end 0 (g := w.heap.size + 2) hN6 hM6 hbF (by omega) (by omega))
  clear hB1b hB2b hB3b hB3f hbB hbF hb6 hN6 hM6
  go_wp2
  refine bodyPost_ret (v := .tuple #[.agg #[.slice A6 n6 c6, .slice B6 m6 d6], .int .i64 0]) (by simp [results, Try.results29, go_sem, k0, k1]) rfl ?_
  exact HF.out
set_option maxHeartbeats 1600000 in
/-- The reference's Floor. -/
theorem xfloor_yes (ha : Rd w A n c (digs p)) (hb : Rd w B m d (digs q)) (h1 : Fr p q) :
    Calls Try.prog 31 #[.agg #[.slice A n c, .slice B m d]] w (Out2 w (digs (p / q)) 0) := by
  have hb0 : Below w.heap.size w (w.alloc (.cells #[.slice A n c, .slice B m d] 25)) := (Below.refl _ _).alloc (Nat.le_refl _) _
  have hB0 := Bs.new w 25 (.slice A n c) (.slice B m d)
  go_enter Try.func31, Try.ntmps31
  go_wp2_with fail
  generalize w.alloc (Obj.cells #[Value.slice A n c, Value.slice B m d] 25) = W0 at *
  refine (rfr_nat _ _ _ _ _ _ p q _ (ha.below hb0) (hb.below hb0) h1).mono ?_
  rintro e w1 ⟨rfl, hb1⟩
  have hb01 := hb0.trans (hb1.mono hb0.size)
  have hB1 := hB0.below hb1 hB0.lt
  obtain ⟨k0, k1⟩ := hB1.cells
  go_wp2_with fail
  refine (rdm_nat _ _ _ _ _ _ p q _ (ha.below hb01) (hb.below hb01) h1.1 h1.2.1 h1.2.2.1).mono ?_
  rintro e w2 ⟨A2, n2, c2, R2, rn2, rc2, rfl, hN2, _, hb2⟩
  have HF := Lib.hid (show Out2 w (digs (p / q)) 0 (.returned (.tuple #[.slice A2 n2 c2, .int .i64 0])) w2 from ⟨_, _, _, rfl, hN2.mono hb01.size, hb01.trans (hb2.mono hb01.size)⟩)
  clear hN2 hb2 hb01 hB1 hB0 hb0 hb1 k0 k1
  go_wp2
  go_ret2
  exact HF.out
set_option maxHeartbeats 1600000 in
theorem xfloor_bad (ha : Rd w A n c xs) (hb : Rd w B m d ys) (f : frB xs ys = false) :
    Calls Try.prog 31 #[.agg #[.slice A n c, .slice B m d]] w (Out2 w [] 1) := by
  have hb0 : Below w.heap.size w (w.alloc (.cells #[.slice A n c, .slice B m d] 25)) := (Below.refl _ _).alloc (Nat.le_refl _) _
  go_enter Try.func31, Try.ntmps31
  go_wp2_with fail
  refine (rfr_any _ _ _ _ _ _ xs ys _ (ha.below hb0) (hb.below hb0)).mono ?_
  rw [f]
  rintro e w1 ⟨rfl, hb1⟩
  have HF := Lib.hid (hb0.trans (hb1.mono hb0.size))
  go_wp2
  go_ret2
  exact ⟨_, _, _, rfl, Nw.nil _ _, HF.out⟩
/-- The end of a call that gives a fraction that can be read, and an error number. -/
def RdR2 (w : World) (xs ys : List Nat) (k : Int) (e : Ending) (w' : World) : Prop :=
  ∃ A n c B m d, e = .returned (.tuple #[.agg #[.slice A n c, .slice B m d], .int .i64 k]) ∧ Rd w' A n c xs ∧ Rd w' B m d ys ∧ Below w.heap.size w w'
theorem OutR2.rd {w w' : World} {xs ys : List Nat} {k : Int} {e : Ending} (h : OutR2 w xs ys k e w') : RdR2 w xs ys k e w' := by
  obtain ⟨A, n, c, B, m, d, h1, h2, h3, h4⟩ := h
  exact ⟨A, n, c, B, m, d, h1, h2.1, h3.1, h4⟩
set_option maxHeartbeats 1600000 in
theorem xmin_b (ha : Rd w A n c (digs p)) (hb : Rd w B m d (digs q)) (hc : Rd w C n' c' (digs r)) (hd : Rd w D m' d' (digs s)) (h1 : Fr p q) (h2 : Fr r s) (l1 : (digs (p * s)).length ≤ 400) (l2 : (digs (r * q)).length ≤ 400) (hlt : r * q < p * s) :
    Calls Try.prog 23 #[.agg #[.slice A n c, .slice B m d], .agg #[.slice C n' c', .slice D m' d']] w (RdR2 w (digs r) (digs s) 0) := by
  obtain ⟨hB1, hB2, hB3, hb0, hs0⟩ := boxes3 w 25 25 25 (.slice A n c) (.slice B m d) (.slice C n' c') (.slice D m' d') (.slice none 0 0) (.slice none 0 0)
  go_enter Try.func23, Try.ntmps23
  go_wp2_with fail
  generalize ((w.alloc (Obj.cells #[Value.slice A n c, Value.slice B m d] 25)).alloc (Obj.cells #[Value.slice C n' c', Value.slice D m' d'] 25)).alloc (Obj.cells #[Value.slice none 0 0, Value.slice none 0 0] 25) = W0 at *
  obtain ⟨k0, k1⟩ := hB1.cells
  obtain ⟨k2, k3⟩ := hB2.cells
  refine (rfr_nat _ _ _ _ _ _ p q _ (ha.below hb0) (hb.below hb0) h1).mono ?_
  rintro e w1 ⟨rfl, hbx⟩
  have hbA := hb0.trans (hbx.mono hb0.size)
  have hB1a := hB1.below hbx (by omega)
  have hB2a := hB2.below hbx (by omega)
  have hB3a := hB3.below hbx (by omega)
  have hsx := hbx.size
  clear hB1 hB2 hB3 k0 k1 k2 k3
  obtain ⟨k0, k1⟩ := hB1a.cells
  obtain ⟨k2, k3⟩ := hB2a.cells
  go_wp2_with fail
  refine (rfr_nat _ _ _ _ _ _ r s _ (hc.below hbA) (hd.below hbA) h2).mono ?_
  rintro e w2 ⟨rfl, hby⟩
  have hbB := hbA.trans (hby.mono hbA.size)
  have hB1b := hB1a.below hby (by omega)
  have hB2b := hB2a.below hby (by omega)
  have hB3b := hB3a.below hby (by omega)
  have hsy := hby.size
  clear hB1a hB2a hB3a k0 k1 k2 k3 hbA hb0 hbx hby
  obtain ⟨k0, k1⟩ := hB1b.cells
  obtain ⟨k2, k3⟩ := hB2b.cells
  go_wp2_with fail
  refine (xcmp_yes _ _ _ _ _ _ _ _ _ _ _ _ r s p q _ (hc.below hbB) (hd.below hbB) (ha.below hbB) (hb.below hbB) h2 h1 l2 l1).mono ?_
  rw [cmpN_lt hlt]
  rintro e w3 ⟨rfl, hb3⟩
  have hbC := hbB.trans (hb3.mono hbB.size)
  have hB1c := hB1b.below hb3 (by omega)
  have hB2c := hB2b.below hb3 (by omega)
  have hB3c := hB3b.below hb3 (by omega)
  have hs3 := hb3.size
  clear hB1b hB2b hB3b k0 k1 k2 k3
  obtain ⟨k0, k1⟩ := hB1c.cells
  obtain ⟨k2, k3⟩ := hB2c.cells
  obtain ⟨y0, y1⟩ := hB3c.cells
  have f0 := hB3c.frozen 0
  have f1 := hB3c.frozen 1
  have hbP : Below w.heap.size w (put2 w3 (w.heap.size + 2) (.slice C n' c') (.slice D m' d')) := put2_below hbC (by omega)
  have HF := Lib.hid (show RdR2 w (digs r) (digs s) 0 (.returned (.tuple #[.agg #[.slice C n' c', .slice D m' d'], .int .i64 0])) (put2 w3 (w.heap.size + 2) (.slice C n' c') (.slice D m' d')) from
    ⟨_, _, _, _, _, _, rfl, hc.below hbP, hd.below hbP, hbP⟩)
  clear hbB hbC hb3 hB1c hB2c hB3c hbP
  go_wp2
  refine bodyPost_ret (v := .tuple #[.agg #[.slice C n' c', .slice D m' d'], .int .i64 0]) (by simp [results, Try.results23, go_sem, y0, y1]) rfl ?_
  exact HF.out
set_option maxHeartbeats 1600000 in
theorem xmin_a (ha : Rd w A n c (digs p)) (hb : Rd w B m d (digs q)) (hc : Rd w C n' c' (digs r)) (hd : Rd w D m' d' (digs s)) (h1 : Fr p q) (h2 : Fr r s) (l1 : (digs (p * s)).length ≤ 400) (l2 : (digs (r * q)).length ≤ 400) (hle : p * s ≤ r * q) :
    Calls Try.prog 23 #[.agg #[.slice A n c, .slice B m d], .agg #[.slice C n' c', .slice D m' d']] w (RdR2 w (digs p) (digs q) 0) := by
  obtain ⟨hB1, hB2, hB3, hb0, hs0⟩ := boxes3 w 25 25 25 (.slice A n c) (.slice B m d) (.slice C n' c') (.slice D m' d') (.slice none 0 0) (.slice none 0 0)
  go_enter Try.func23, Try.ntmps23
  go_wp2_with fail
  generalize ((w.alloc (Obj.cells #[Value.slice A n c, Value.slice B m d] 25)).alloc (Obj.cells #[Value.slice C n' c', Value.slice D m' d'] 25)).alloc (Obj.cells #[Value.slice none 0 0, Value.slice none 0 0] 25) = W0 at *
  obtain ⟨k0, k1⟩ := hB1.cells
  obtain ⟨k2, k3⟩ := hB2.cells
  refine (rfr_nat _ _ _ _ _ _ p q _ (ha.below hb0) (hb.below hb0) h1).mono ?_
  rintro e w1 ⟨rfl, hbx⟩
  have hbA := hb0.trans (hbx.mono hb0.size)
  have hB1a := hB1.below hbx (by omega)
  have hB2a := hB2.below hbx (by omega)
  have hB3a := hB3.below hbx (by omega)
  have hsx := hbx.size
  clear hB1 hB2 hB3 k0 k1 k2 k3
  obtain ⟨k0, k1⟩ := hB1a.cells
  obtain ⟨k2, k3⟩ := hB2a.cells
  go_wp2_with fail
  refine (rfr_nat _ _ _ _ _ _ r s _ (hc.below hbA) (hd.below hbA) h2).mono ?_
  rintro e w2 ⟨rfl, hby⟩
  have hbB := hbA.trans (hby.mono hbA.size)
  have hB1b := hB1a.below hby (by omega)
  have hB2b := hB2a.below hby (by omega)
  have hB3b := hB3a.below hby (by omega)
  have hsy := hby.size
  clear hB1a hB2a hB3a k0 k1 k2 k3 hbA hb0 hbx hby
  obtain ⟨k0, k1⟩ := hB1b.cells
  obtain ⟨k2, k3⟩ := hB2b.cells
  go_wp2_with fail
  refine (xcmp_yes _ _ _ _ _ _ _ _ _ _ _ _ r s p q _ (hc.below hbB) (hd.below hbB) (ha.below hbB) (hb.below hbB) h2 h1 l2 l1).mono ?_
  have hcn : decide (cmpN (r * q) (p * s) < 0) = false := by unfold cmpN; rw [if_neg (by omega)]; split <;> rfl
  rintro e w3 ⟨rfl, hb3⟩
  have hbC := hbB.trans (hb3.mono hbB.size)
  have hB1c := hB1b.below hb3 (by omega)
  have hB2c := hB2b.below hb3 (by omega)
  have hB3c := hB3b.below hb3 (by omega)
  have hs3 := hb3.size
  clear hB1b hB2b hB3b k0 k1 k2 k3
  obtain ⟨k0, k1⟩ := hB1c.cells
  obtain ⟨k2, k3⟩ := hB2c.cells
  obtain ⟨y0, y1⟩ := hB3c.cells
  have f0 := hB3c.frozen 0
  have f1 := hB3c.frozen 1
  have hbP : Below w.heap.size w (put2 w3 (w.heap.size + 2) (.slice A n c) (.slice B m d)) := put2_below hbC (by omega)
  have HF := Lib.hid (show RdR2 w (digs p) (digs q) 0 (.returned (.tuple #[.agg #[.slice A n c, .slice B m d], .int .i64 0])) (put2 w3 (w.heap.size + 2) (.slice A n c) (.slice B m d)) from
    ⟨_, _, _, _, _, _, rfl, ha.below hbP, hb.below hbP, hbP⟩)
  clear hbB hbC hb3 hB1c hB2c hB3c hbP
  go_wp2
  refine bodyPost_ret (v := .tuple #[.agg #[.slice A n c, .slice B m d], .int .i64 0]) (by simp [results, Try.results23, go_sem, y0, y1]) rfl ?_
  exact HF.out
set_option maxHeartbeats 1600000 in
/-- The reference's SameRatio. -/
theorem sameR_yes (ha : Rd w A n c xs) (hb : Rd w B m d ys) (hc : Rd w C n' c' xs) (hd : Rd w D m' d' ys) :
    Calls Try.prog 39 #[.agg #[.slice A n c, .slice B m d], .agg #[.slice C n' c', .slice D m' d']] w fun e w' => e = .returned (.bool true) ∧ Below w.heap.size w w' := by
  obtain ⟨hB1, hB2, hb0, hs0⟩ := boxes2 w 25 25 (.slice A n c) (.slice B m d) (.slice C n' c') (.slice D m' d')
  go_enter Try.func39, Try.ntmps39
  go_wp2_with fail
  generalize (w.alloc (Obj.cells #[Value.slice A n c, Value.slice B m d] 25)).alloc (Obj.cells #[Value.slice C n' c', Value.slice D m' d'] 25) = W0 at *
  obtain ⟨k0, k1⟩ := hB1.cells
  obtain ⟨k2, k3⟩ := hB2.cells
  refine (rSame_yes _ _ _ _ _ _ xs _ (ha.below hb0) (hc.below hb0)).mono ?_
  rintro e w1 ⟨rfl, q1, rfl⟩
  go_wp2_with fail
  refine (rSame_yes _ _ _ _ _ _ ys _ ((hb.below hb0).drewN q1) ((hd.below hb0).drewN q1)).mono ?_
  rintro e w2 ⟨rfl, q2, rfl⟩
  have HF := Lib.hid (below_drewN' hb0 (q1 + q2))
  clear hb0 hB1 hB2 k0 k1 k2 k3
  go_wp2
  go_ret
  exact ⟨rfl, HF.out⟩
end
end Go.Proofs.Yteicihaigkgbnaa
