/-
  What the reference's lowest, Make, Frac, FormedRatio, cross, CmpRatio, AddRatio, SubRatio, MulRatio, DivRatio, Floor, Min and SameRatio do. For every fraction that can be read; the results of cross and of sums, differences, products and quotients where nothing is too long.
  Fractions of up to 150 limbs in memory, as rational numbers: what ratio.Cmp, Add, Sub, Mul, Div answer, and the reference's AddRatio and CmpRatio.
-/
import Derived.Test.YtehekjlakegkpaaGreatX17
import Derived.Test.YtehekjlakegkpaaGreatX18
section
namespace Go.Proofs.YtehekjlakegkpaaGreat
open Go.RowKit

section
variable (A B : Option Addr) (n c m d a b : Nat) (w : World)
theorem rdm_nat (ha : Rd w A n c (digs a)) (hb : Rd w B m d (digs b)) (la : (digs a).length ≤ 400) (lb : (digs b).length ≤ 400) (h : b ≠ 0) :
    Calls Tryz.prog 107 #[.slice A n c, .slice B m d] w (OutQ w (a / b) (a % b)) := by
  have := rdm_any A B n c m d (digs a) (digs b) w ha hb (by rw [← ha.len]; omega) (by rw [← hb.len]; omega) (by rw [val_digs]; exact h)
  rw [val_digs, val_digs] at this; exact this
theorem rmul_nat (ha : Rd w A n c (digs a)) (hb : Rd w B m d (digs b)) (la : (digs a).length ≤ 400) (lb : (digs b).length ≤ 400) :
    Calls Tryz.prog 111 #[.slice A n c, .slice B m d] w (Out w (digs (a * b))) := by
  have := rmul_any A B n c m d (digs a) (digs b) w ha hb (by rw [← ha.len]; omega) (by rw [← hb.len]; omega)
  rw [val_digs, val_digs] at this; exact this
theorem radd_nat (ha : Rd w A n c (digs a)) (hb : Rd w B m d (digs b)) (la : (digs a).length ≤ 400) (lb : (digs b).length ≤ 400) :
    Calls Tryz.prog 116 #[.slice A n c, .slice B m d] w (Out w (digs (a + b))) := by
  have := radd_any A B n c m d (digs a) (digs b) w ha hb (by rw [← ha.len]; omega) (by rw [← hb.len]; omega)
  rw [val_digs, val_digs] at this; exact this
theorem rsub_nat (ha : Rd w A n c (digs a)) (hb : Rd w B m d (digs b)) (la : (digs a).length ≤ 400) (h : b ≤ a) :
    Calls Tryz.prog 152 #[.slice A n c, .slice B m d] w (Out w (digs (a - b))) := by
  have := rsub_any A B n c m d (digs a) (digs b) w ha hb (by rw [← ha.len]; omega) (by rw [← ha.len, ← hb.len]; exact len_digs_mono h) (by rw [val_digs, val_digs]; exact h)
  rw [val_digs, val_digs] at this; exact this
theorem rcmp_nat (ha : Rd w A n c (digs a)) (hb : Rd w B m d (digs b)) :
    Calls Tryz.prog 112 #[.slice A n c, .slice B m d] w (Quiet w (.int .i64 (cmpN a b))) := by
  have := rcmp_any A B n c m d (digs a) (digs b) w ha hb (Nrm_digs a) (Nrm_digs b)
  rw [val_digs, val_digs] at this; exact this
theorem bound_nat (ha : Rd w A n c (digs a)) (la : (digs a).length ≤ 400) :
    Calls Tryz.prog 110 #[.slice A n c] w fun e w' => e = .returned (.tuple #[.slice A n c, .int .i64 0]) ∧ w = w' :=
  bounded_yes A n c w (by rw [← ha.len]; exact la)
set_option maxHeartbeats 800000 in
theorem rSame_no (ha : Rd w A n c (digs a)) (hb : Rd w B m d (digs b)) (h : a ≠ b) :
    Calls Tryz.prog 105 #[.slice A n c, .slice B m d] w (Quiet w (.bool false)) := by
  by_cases hnm : n = m
  · subst hnm
    have hz : ((cmpN a b) == 0) = false := by unfold cmpN; rw [if_neg h]; split <;> rfl
    go_enter Tryz.func105, Tryz.ntmps105
    go_wp2_with fail
    refine (rcmp_nat _ _ _ _ _ _ a b _ ha hb).mono ?_
    rintro e w1 ⟨rfl, q, rfl⟩
    go_wp2
    go_ret
    exact ⟨rfl, q, rfl⟩
  · have hz : ((n : Int) == (m : Int)) = false := by simp; omega
    go_enter Tryz.func105, Tryz.ntmps105
    go_wp2
    go_ret
    exact ⟨rfl, 0, rfl⟩
end

set_option maxHeartbeats 1600000 in
/-- The reference's lowest. -/
theorem lowest_any (A B : Option Addr) (n c m d a b : Nat) (w : World) (ha : Rd w A n c (digs a)) (hb : Rd w B m d (digs b)) (la : (digs a).length ≤ 400) (lb : (digs b).length ≤ 400) (h : b ≠ 0) :
    Calls Tryz.prog 52 #[.slice A n c, .slice B m d] w (OutR w (digs (a / Nat.gcd a b)) (digs (b / Nat.gcd a b))) := by
  have hg : Nat.gcd a b ≠ 0 := fun e => h (Nat.gcd_eq_zero_iff.1 e).2
  have HG := Lib.hid hg
  have HL := Lib.hid (show (digs (Nat.gcd a b)).length ≤ 400 from Nat.le_trans (len_digs_mono (Nat.gcd_le_right a (by omega))) lb)
  have hB0 := Bs.new w 52 (.slice none 0 0) (.slice none 0 0)
  have hb0 : Below w.heap.size w (w.alloc (.cells #[.slice none 0 0, .slice none 0 0] 52)) := (Below.refl _ _).alloc (Nat.le_refl _) _
  have hn4 : n ≤ 400000 := by rw [← ha.len]; omega
  have hm4 : m ≤ 400000 := by rw [← hb.len]; omega
  go_enter Tryz.func52, Tryz.ntmps52
  go_wp2_with fail
  generalize w.alloc (Obj.cells #[Value.slice none 0 0, Value.slice none 0 0] 52) = W0 at *
  refine (rgcd_any _ _ _ _ _ _ a b _ (ha.below hb0) (hb.below hb0) hn4 hm4).mono ?_
  rintro e w1 ⟨A1, n1, c1, rfl, hN1, hb1⟩
  have hb01 := hb0.trans (hb1.mono hb0.size)
  have hB1 := hB0.below hb1 hB0.lt
  go_wp2_with fail
  refine (rdm_nat _ _ _ _ _ _ a (Nat.gcd a b) _ (ha.below hb01) hN1.1 la HL.out HG.out).mono ?_
  rintro e w2 ⟨A2, n2, c2, R2, rn2, rc2, rfl, hN2, _, hb2⟩
  have hb02 := hb01.trans (hb2.mono hb01.size)
  have hB2 := hB1.below hb2 hB1.lt
  have hN12 := hN1.below hb2
  go_wp2_with fail
  refine (rdm_nat _ _ _ _ _ _ b (Nat.gcd a b) _ (hb.below hb02) hN12.1 lb HL.out HG.out).mono ?_
  rintro e w3 ⟨A3, n3, c3, R3, rn3, rc3, rfl, hN3, _, hb3⟩
  have hb03 := hb02.trans (hb3.mono hb02.size)
  have hB3 := hB2.below hb3 hB2.lt
  have hlt := hB0.lt
  have hs1 := hb1.size
  have hs2 := hb2.size
  have hs3 := hb3.size
  have HF := Lib.hid (outR_end (g := w.heap.size) (lo := W0.heap.size) ((hN2.below hb3).mono hs1) (hN3.mono (Nat.le_trans hs1 hs2)) hb03 (Nat.le_refl _) hlt)
  obtain ⟨k0, k1⟩ := hB3.cells
  have f0 := hB3.frozen 0
  have f1 := hB3.frozen 1
  clear hB0 hB1 hB2 hB3 hN1 hN2 hN3 hN12 hb0 hb1 hb2 hb3 hb01 hb02 hb03
  go_wp2
  refine bodyPost_ret (v := .agg #[.slice A2 n2 c2, .slice A3 n3 c3]) (by simp [results, Tryz.results52, go_sem, k0, k1]) rfl ?_
  exact HF.out
set_option maxHeartbeats 800000 in
/-- The reference's Frac. -/
theorem frac_any (p q : Nat) (w : World) (hp : p < 18446744073709551616) (hq : q < 18446744073709551616) (h : q ≠ 0) :
    Calls Tryz.prog 19 #[.int .u64 p, .int .u64 q] w (OutR w (digs (p / Nat.gcd p q)) (digs (q / Nat.gcd p q))) := by
  have hb0 : Below w.heap.size w (w.alloc (.cells #[.slice none 0 0, .slice none 0 0] 52)) := (Below.refl _ _).alloc (Nat.le_refl _) _
  have hB0 := Bs.new w 52 (.slice none 0 0) (.slice none 0 0)
  go_enter Tryz.func19, Tryz.ntmps19
  go_wp2_with fail
  generalize w.alloc (Obj.cells #[Value.slice none 0 0, Value.slice none 0 0] 52) = W0 at *
  refine (rof_any p _ hp).mono ?_
  rintro e w1 ⟨A1, n1, c1, rfl, hN1, hb1⟩
  have hb01 := hb0.trans (hb1.mono hb0.size)
  have hB1 := hB0.below hb1 hB0.lt
  go_wp2_with fail
  refine (rof_any q _ hq).mono ?_
  rintro e w2 ⟨A2, n2, c2, rfl, hN2, hb2⟩
  have hb02 := hb01.trans (hb2.mono hb01.size)
  have hB2 := hB1.below hb2 hB1.lt
  have hR1 := hN1.1.below hb2
  go_wp2_with fail
  refine (lowest_any _ _ _ _ _ _ p q _ hR1 hN2.1 (Nat.le_trans (len64 hp) (by omega)) (Nat.le_trans (len64 hq) (by omega)) h).mono ?_
  rintro e w3 ⟨A3, n3, c3, B3, m3, d3, rfl, hN3, hM3, hb3⟩
  have hb03 := hb02.trans (hb3.mono hb02.size)
  have hB3 := hB2.below hb3 hB2.lt
  have hlt := hB2.lt
  obtain ⟨k0, k1⟩ := hB3.cells
  have f0 := hB3.frozen 0
  have f1 := hB3.frozen 1
  have HF := Lib.hid (outR_end (g := w.heap.size) hN3 hM3 hb03 (Nat.le_refl _) hlt)
  clear hB0 hB1 hB2 hB3 hN1 hN2 hN3 hM3 hb0 hb1 hb2 hb3 hb01 hb02 hb03 hR1
  go_wp2
  refine bodyPost_ret (v := .agg #[.slice A3 n3 c3, .slice B3 m3 d3]) (by simp [results, Tryz.results19, go_sem, k0, k1]) rfl ?_
  exact HF.out
set_option maxHeartbeats 800000 in
/-- the reference's Make. -/
theorem rmake_any (A B : Option Addr) (n c m d : Nat) (xs ys : List Nat) (w : World) (ha : Rd w A n c xs) (hb : Rd w B m d ys) :
    Calls Tryz.prog 75 #[.slice A n c, .slice B m d] w (OutR2 w (mkR xs ys).1 (mkR xs ys).2.1 (mkR xs ys).2.2) := by
  have hb0 : Below w.heap.size w (w.alloc (.cells #[.slice none 0 0, .slice none 0 0] 52)) := (Below.refl _ _).alloc (Nat.le_refl _) _
  have hB0 := Bs.new w 52 (.slice none 0 0) (.slice none 0 0)
  cases fa : fmB xs
  · have e : mkR xs ys = ([], [], 1) := by unfold mkR; rw [fa]; rfl
    rw [e]
    clear e
    go_enter Tryz.func75, Tryz.ntmps75
    go_wp2_with fail
    generalize w.alloc (Obj.cells #[Value.slice none 0 0, Value.slice none 0 0] 52) = W0 at *
    refine (rformed_any _ _ _ xs _ (ha.below hb0)).mono ?_
    rintro e w' ⟨rfl, rfl⟩
    obtain ⟨k0, k1⟩ := hB0.cells
    have f0 := hB0.frozen 0
    have f1 := hB0.frozen 1
    have HF := Lib.hid (outR2_nil 1 hb0 (Nat.le_refl _))
    go_wp2
    refine bodyPost_ret (v := .tuple #[.agg #[.slice none 0 0, .slice none 0 0], .int .i64 1]) (by simp [results, Tryz.results75, go_sem, k0, k1]) rfl ?_
    exact HF.out
  cases fb : fmB ys
  · have e : mkR xs ys = ([], [], 1) := by unfold mkR; rw [fa, fb]; rfl
    rw [e]
    clear e
    go_enter Tryz.func75, Tryz.ntmps75
    go_wp2_with fail
    generalize w.alloc (Obj.cells #[Value.slice none 0 0, Value.slice none 0 0] 52) = W0 at *
    refine (rformed_any _ _ _ xs _ (ha.below hb0)).mono ?_
    rintro e w' ⟨rfl, rfl⟩
    go_wp2_with fail
    refine (rformed_any _ _ _ ys _ (hb.below hb0)).mono ?_
    rintro e w' ⟨rfl, rfl⟩
    obtain ⟨k0, k1⟩ := hB0.cells
    have f0 := hB0.frozen 0
    have f1 := hB0.frozen 1
    have HF := Lib.hid (outR2_nil 1 hb0 (Nat.le_refl _))
    go_wp2
    refine bodyPost_ret (v := .tuple #[.agg #[.slice none 0 0, .slice none 0 0], .int .i64 1]) (by simp [results, Tryz.results75, go_sem, k0, k1]) rfl ?_
    exact HF.out
  by_cases hm : m = 0
  · subst hm
    have hy : ys = [] := List.length_eq_zero_iff.1 hb.len
    have e : mkR xs ys = ([], [], 5) := by unfold mkR; rw [fa, fb, hy]; rfl
    rw [e]
    clear e
    go_enter Tryz.func75, Tryz.ntmps75
    go_wp2_with fail
    generalize w.alloc (Obj.cells #[Value.slice none 0 0, Value.slice none 0 0] 52) = W0 at *
    refine (rformed_any _ _ _ xs _ (ha.below hb0)).mono ?_
    rintro e w' ⟨rfl, rfl⟩
    go_wp2_with fail
    refine (rformed_any _ _ _ ys _ (hb.below hb0)).mono ?_
    rintro e w' ⟨rfl, rfl⟩
    obtain ⟨k0, k1⟩ := hB0.cells
    have f0 := hB0.frozen 0
    have f1 := hB0.frozen 1
    have HF := Lib.hid (outR2_nil 5 hb0 (Nat.le_refl _))
    go_wp2
    refine bodyPost_ret (v := .tuple #[.agg #[.slice none 0 0, .slice none 0 0], .int .i64 5]) (by simp [results, Tryz.results75, go_sem, k0, k1]) rfl ?_
    exact HF.out
  have hm1 : ((m : Int) == 0) = false := by simp; omega
  obtain ⟨p, rfl, lp⟩ := digs_of ha.lim fa
  obtain ⟨q, rfl, lq⟩ := digs_of hb.lim fb
  have hq : q ≠ 0 := by
    rintro rfl
    have := hb.len
    rw [digs_zero] at this
    exact hm this.symm
  have e : mkR (digs p) (digs q) = (digs (p / Nat.gcd p q), digs (q / Nat.gcd p q), 0) := by
    have : (digs q).isEmpty = false := by
      cases e : digs q with
      | nil => exact absurd e (digs_ne hq)
      | cons x xs => rfl
    unfold mkR; rw [fa, fb, this, val_digs, val_digs]; rfl
  rw [e]
  clear e
  go_enter Tryz.func75, Tryz.ntmps75
  go_wp2_with fail
  generalize w.alloc (Obj.cells #[Value.slice none 0 0, Value.slice none 0 0] 52) = W0 at *
  refine (rformed_any _ _ _ (digs p) _ (ha.below hb0)).mono ?_
  rintro e w' ⟨rfl, rfl⟩
  go_wp2_with fail
  refine (rformed_any _ _ _ (digs q) _ (hb.below hb0)).mono ?_
  rintro e w' ⟨rfl, rfl⟩
  go_wp2_with fail
  refine (lowest_any _ _ _ _ _ _ p q _ (ha.below hb0) (hb.below hb0) lp lq hq).mono ?_
  rintro e w1 ⟨A1, n1, c1, B1, m1, d1, rfl, hN1, hM1, hb1⟩
  have hB1 := hB0.below hb1 hB0.lt
  have hlt := hB0.lt
  have hb01 := hb0.trans (hb1.mono hb0.size)
  obtain ⟨k0, k1⟩ := hB1.cells
  have f0 := hB1.frozen 0
  have f1 := hB1.frozen 1
  have HF := Lib.hid (outR2_end 0 (g := w.heap.size) hN1 hM1 hb01 (Nat.le_refl _) hlt)
  go_wp2
  refine bodyPost_ret (v := .tuple #[.agg #[.slice A1 n1 c1, .slice B1 m1 d1], .int .i64 0]) (by simp [results, Tryz.results75, go_sem, k0, k1]) rfl ?_
  exact HF.out
set_option maxHeartbeats 800000 in
/-- The reference's FormedRatio. -/
theorem rfr_any (A B : Option Addr) (n c m d : Nat) (xs ys : List Nat) (w : World) (ha : Rd w A n c xs) (hb : Rd w B m d ys) :
    Calls Tryz.prog 61 #[.agg #[.slice A n c, .slice B m d]] w fun e w' => e = .returned (.bool (frB xs ys)) ∧ Below w.heap.size w w' := by
  have hb0 : Below w.heap.size w (w.alloc (.cells #[.slice A n c, .slice B m d] 52)) := (Below.refl _ _).alloc (Nat.le_refl _) _
  have hB0 := Bs.new w 52 (.slice A n c) (.slice B m d)
  cases fa : fmB xs
  · have HV := Lib.hid (show false = frB xs ys by unfold frB; rw [fa]; rfl)
    go_enter Tryz.func61, Tryz.ntmps61
    go_wp2_with fail
    refine (rformed_any _ _ _ xs _ (ha.below hb0)).mono ?_
    rintro e w' ⟨rfl, rfl⟩
    go_wp2
    go_ret
    exact ⟨ret_b HV.out, hb0⟩
  cases fb : fmB ys
  · have HV := Lib.hid (show false = frB xs ys by unfold frB; rw [fa, fb]; rfl)
    go_enter Tryz.func61, Tryz.ntmps61
    go_wp2_with fail
    refine (rformed_any _ _ _ xs _ (ha.below hb0)).mono ?_
    rintro e w' ⟨rfl, rfl⟩
    go_wp2_with fail
    refine (rformed_any _ _ _ ys _ (hb.below hb0)).mono ?_
    rintro e w' ⟨rfl, rfl⟩
    go_wp2
    go_ret
    exact ⟨ret_b HV.out, hb0⟩
  by_cases hm : m = 0
  · subst hm
    have HV := Lib.hid (show false = frB xs ys by
      have : ys = [] := List.length_eq_zero_iff.1 hb.len
      unfold frB; rw [fa, fb, this]; rfl)
    go_enter Tryz.func61, Tryz.ntmps61
    go_wp2_with fail
    refine (rformed_any _ _ _ xs _ (ha.below hb0)).mono ?_
    rintro e w' ⟨rfl, rfl⟩
    go_wp2_with fail
    refine (rformed_any _ _ _ ys _ (hb.below hb0)).mono ?_
    rintro e w' ⟨rfl, rfl⟩
    go_wp2
    go_ret
    exact ⟨ret_b HV.out, hb0⟩
  obtain ⟨G, hG⟩ : ∃ G, Nat.gcd (val xs) (val ys) = G := ⟨_, rfl⟩
  have HV := Lib.hid (show (G == 1) = frB xs ys by
    have : ys.isEmpty = false := by
      cases e : ys with
      | nil => rw [e] at hb; exact absurd hb.len.symm hm
      | cons x xs => rfl
    unfold frB; rw [fa, fb, this, hG]; rfl)
  have hn4 : n ≤ 400000 := by rw [← ha.len]; have := fmB_len fa; omega
  have hm4 : m ≤ 400000 := by rw [← hb.len]; have := fmB_len fb; omega
  have hm1 : (0 : Int) < (m : Int) := by omega
  have hgc : ∀ W (_ : Rd W A n c xs) (_ : Rd W B m d ys), Calls Tryz.prog 106 #[.slice A n c, .slice B m d] W (Out W (digs G)) := fun W h1 h2 => by
    have := rgcd_any A B n c m d (val xs) (val ys) W (by rw [digs_val ha.lim (fmB_nrm fa)]; exact h1) (by rw [digs_val hb.lim (fmB_nrm fb)]; exact h2) hn4 hm4
    rw [hG] at this; exact this
  have HGC := Lib.hid hgc
  clear hgc hG
  by_cases hg1 : G = 1
  · subst hg1
    go_enter Tryz.func61, Tryz.ntmps61
    go_wp2_with fail
    refine (rformed_any _ _ _ xs _ (ha.below hb0)).mono ?_
    rintro e w' ⟨rfl, rfl⟩
    go_wp2_with fail
    refine (rformed_any _ _ _ ys _ (hb.below hb0)).mono ?_
    rintro e w' ⟨rfl, rfl⟩
    go_wp2_with fail
    refine (HGC.out _ (ha.below hb0) (hb.below hb0)).mono ?_
    rintro e w1 ⟨A1, n1, c1, rfl, hN1, hb1⟩
    have hb01 := Lib.hid (hb0.trans (hb1.mono hb0.size))
    go_wp2_with fail
    have hOne : Rd (w1.alloc (.cells #[.int .u32 1] 69)) (some ⟨w1.heap.size, 0, none⟩) 1 1 (digs 1) := by rw [digs_one]; exact rd_one w1 1 1 rfl (by omega)
    refine (rSame_yes _ _ _ _ _ _ (digs 1) _ (hN1.1.alloc _) hOne).mono ?_
    rintro e w' ⟨rfl, nq, rfl⟩
    go_wp2
    go_ret
    exact ⟨ret_b HV.out, below_drewN' (hb01.out.alloc hb01.out.size _) nq⟩
  · have hf : (G == 1) = false := by simpa using hg1
    rw [hf] at HV
    go_enter Tryz.func61, Tryz.ntmps61
    go_wp2_with fail
    refine (rformed_any _ _ _ xs _ (ha.below hb0)).mono ?_
    rintro e w' ⟨rfl, rfl⟩
    go_wp2_with fail
    refine (rformed_any _ _ _ ys _ (hb.below hb0)).mono ?_
    rintro e w' ⟨rfl, rfl⟩
    go_wp2_with fail
    refine (HGC.out _ (ha.below hb0) (hb.below hb0)).mono ?_
    rintro e w1 ⟨A1, n1, c1, rfl, hN1, hb1⟩
    have hb01 := Lib.hid (hb0.trans (hb1.mono hb0.size))
    go_wp2_with fail
    have hOne : Rd (w1.alloc (.cells #[.int .u32 1] 69)) (some ⟨w1.heap.size, 0, none⟩) 1 1 (digs 1) := by rw [digs_one]; exact rd_one w1 1 1 rfl (by omega)
    refine (rSame_no _ _ _ _ _ _ G 1 _ (hN1.1.alloc _) hOne hg1).mono ?_
    rintro e w' ⟨rfl, nq, rfl⟩
    go_wp2
    go_ret
    exact ⟨ret_b HV.out, below_drewN' (hb01.out.alloc hb01.out.size _) nq⟩

section
variable (A B C D : Option Addr) (n c m d n' c' m' d' : Nat) (xs ys us vs : List Nat) (p q r s : Nat) (w : World)
theorem rfr_nat (ha : Rd w A n c (digs p)) (hb : Rd w B m d (digs q)) (h : Fr p q) :
    Calls Tryz.prog 61 #[.agg #[.slice A n c, .slice B m d]] w fun e w' => e = .returned (.bool true) ∧ Below w.heap.size w w' := by
  have := rfr_any A B n c m d (digs p) (digs q) w ha hb
  rw [frB_digs h] at this; exact this
set_option maxHeartbeats 1600000 in
/-- The reference's cross. -/
theorem cross_yes (ha : Rd w A n c (digs p)) (hb : Rd w B m d (digs q)) (hc : Rd w C n' c' (digs r)) (hd : Rd w D m' d' (digs s)) (h1 : Fr p q) (h2 : Fr r s) (l1 : (digs (p * s)).length ≤ 400) (l2 : (digs (r * q)).length ≤ 400) :
    Calls Tryz.prog 115 #[.agg #[.slice A n c, .slice B m d], .agg #[.slice C n' c', .slice D m' d']] w (Out3 w (digs (p * s)) (digs (r * q)) 0) := by
  obtain ⟨hB1, hB2, hb0, hs0⟩ := boxes2 w 52 52 (.slice A n c) (.slice B m d) (.slice C n' c') (.slice D m' d')
  go_enter Tryz.func115, Tryz.ntmps115
  go_wp2_with fail
  generalize (w.alloc (Obj.cells #[Value.slice A n c, Value.slice B m d] 52)).alloc (Obj.cells #[Value.slice C n' c', Value.slice D m' d'] 52) = W0 at *
  obtain ⟨k0, k1⟩ := hB1.cells
  obtain ⟨k2, k3⟩ := hB2.cells
  refine (rmul_nat _ _ _ _ _ _ p s _ (ha.below hb0) (hd.below hb0) h1.1 h2.2.1).mono ?_
  rintro e w1 ⟨A1, n1, c1, rfl, hN1, hb1⟩
  have hb01 := hb0.trans (hb1.mono hb0.size)
  have hB1a := hB1.below hb1 (by omega)
  have hB2a := hB2.below hb1 (by omega)
  have hs1 := hb1.size
  clear hB1 hB2 k0 k1 k2 k3
  obtain ⟨k0, k1⟩ := hB1a.cells
  obtain ⟨k2, k3⟩ := hB2a.cells
  go_wp2_with fail
  refine (bound_nat _ _ _ (p * s) _ hN1.1 l1).mono ?_
  rintro e w' ⟨rfl, rfl⟩
  go_wp2_with fail
  refine (rmul_nat _ _ _ _ _ _ r q _ (hc.below hb01) (hb.below hb01) h2.1 h1.2.1).mono ?_
  rintro e w2 ⟨A2, n2, c2, rfl, hN2, hb2⟩
  go_wp2_with fail
  refine (bound_nat _ _ _ (r * q) _ hN2.1 l2).mono ?_
  rintro e w' ⟨rfl, rfl⟩
  have HF := Lib.hid (show Out3 w (digs (p * s)) (digs (r * q)) 0 (.returned (.tuple #[.slice A1 n1 c1, .slice A2 n2 c2, .int .i64 0])) w2 from
    ⟨_, _, _, _, _, _, rfl, (hN1.mono hb0.size).below hb2, hN2.mono hb01.size, hb01.trans (hb2.mono hb01.size)⟩)
  clear hN1 hN2 hb1 hb2 hb01 hb0 hB1a hB2a k0 k1 k2 k3
  go_wp2
  go_ret3
  exact HF.out
set_option maxHeartbeats 1600000 in
theorem xcmp_bad (ha : Rd w A n c xs) (hb : Rd w B m d ys) (hc : Rd w C n' c' us) (hd : Rd w D m' d' vs) (f : (frB xs ys && frB us vs) = false) :
    Calls Tryz.prog 69 #[.agg #[.slice A n c, .slice B m d], .agg #[.slice C n' c', .slice D m' d']] w (fun e w' => e = .returned (.int .i64 0) ∧ Below w.heap.size w w') := by
  obtain ⟨hB1, hB2, hb0, hs0⟩ := boxes2 w 52 52 (.slice A n c) (.slice B m d) (.slice C n' c') (.slice D m' d')
  go_enter Tryz.func69, Tryz.ntmps69
  go_wp2_with fail
  generalize (w.alloc (Obj.cells #[Value.slice A n c, Value.slice B m d] 52)).alloc (Obj.cells #[Value.slice C n' c', Value.slice D m' d'] 52) = W0 at *
  obtain ⟨k0, k1⟩ := hB1.cells
  obtain ⟨k2, k3⟩ := hB2.cells
  cases fa : frB xs ys
  · refine (rfr_any _ _ _ _ _ _ xs ys _ (ha.below hb0) (hb.below hb0)).mono ?_
    rw [fa]
    rintro e w1 ⟨rfl, hb1⟩
    have hb01 := hb0.trans (hb1.mono hb0.size)
    clear k0 k1 k2 k3
    have HF := Lib.hid (hb01)
    clear hB1 hB2 hb0 hb1 hb01
    go_wp2
    go_ret
    exact ⟨rfl, HF.out⟩
  · have fb : frB us vs = false := by rw [fa] at f; simpa using f
    refine (rfr_any _ _ _ _ _ _ xs ys _ (ha.below hb0) (hb.below hb0)).mono ?_
    rw [fa]
    rintro e w0 ⟨rfl, hbx⟩
    have hbA := hb0.trans (hbx.mono hb0.size)
    have hB1a := hB1.below hbx (by omega)
    have hB2a := hB2.below hbx (by omega)
    have hsx := hbx.size
    clear hB1 hB2 k0 k1 k2 k3
    obtain ⟨k0, k1⟩ := hB1a.cells
    obtain ⟨k2, k3⟩ := hB2a.cells
    go_wp2_with fail
    refine (rfr_any _ _ _ _ _ _ us vs _ (hc.below hbA) (hd.below hbA)).mono ?_
    rw [fb]
    rintro e w1 ⟨rfl, hb1⟩
    have hb01 := hbA.trans (hb1.mono hbA.size)
    clear k0 k1 k2 k3
    have HF := Lib.hid (hb01)
    clear hB1a hB2a hbx hbA hb0 hb1 hb01
    go_wp2
    go_ret
    exact ⟨rfl, HF.out⟩
set_option maxHeartbeats 1600000 in
theorem xcmp_yes (ha : Rd w A n c (digs p)) (hb : Rd w B m d (digs q)) (hc : Rd w C n' c' (digs r)) (hd : Rd w D m' d' (digs s)) (h1 : Fr p q) (h2 : Fr r s) (l1 : (digs (p * s)).length ≤ 400) (l2 : (digs (r * q)).length ≤ 400) :
    Calls Tryz.prog 69 #[.agg #[.slice A n c, .slice B m d], .agg #[.slice C n' c', .slice D m' d']] w fun e w' => e = .returned (.int .i64 (cmpN (p * s) (r * q))) ∧ Below w.heap.size w w' := by
  obtain ⟨hB1, hB2, hb0, hs0⟩ := boxes2 w 52 52 (.slice A n c) (.slice B m d) (.slice C n' c') (.slice D m' d')
  go_enter Tryz.func69, Tryz.ntmps69
  go_wp2_with fail
  generalize (w.alloc (Obj.cells #[Value.slice A n c, Value.slice B m d] 52)).alloc (Obj.cells #[Value.slice C n' c', Value.slice D m' d'] 52) = W0 at *
  obtain ⟨k0, k1⟩ := hB1.cells
  obtain ⟨k2, k3⟩ := hB2.cells
  refine (rfr_nat _ _ _ _ _ _ p q _ (ha.below hb0) (hb.below hb0) h1).mono ?_
  rintro e w1 ⟨rfl, hbx⟩
  have hbA := hb0.trans (hbx.mono hb0.size)
  have hB1a := hB1.below hbx (by omega)
  have hB2a := hB2.below hbx (by omega)
  have hsx := hbx.size
  clear hB1 hB2 k0 k1 k2 k3
  obtain ⟨k0, k1⟩ := hB1a.cells
  obtain ⟨k2, k3⟩ := hB2a.cells
  go_wp2_with fail
  refine (rfr_nat _ _ _ _ _ _ r s _ (hc.below hbA) (hd.below hbA) h2).mono ?_
  rintro e w2 ⟨rfl, hby⟩
  have hbB := hbA.trans (hby.mono hbA.size)
  have hB1b := hB1a.below hby (by omega)
  have hB2b := hB2a.below hby (by omega)
  have hsy := hby.size
  clear hB1a hB2a k0 k1 k2 k3 hbA hb0 hbx hby
  obtain ⟨k0, k1⟩ := hB1b.cells
  obtain ⟨k2, k3⟩ := hB2b.cells
  go_wp2_with fail
  refine (cross_yes _ _ _ _ _ _ _ _ _ _ _ _ p q r s _ (ha.below hbB) (hb.below hbB) (hc.below hbB) (hd.below hbB) h1 h2 l1 l2).mono ?_
  rintro e w3 ⟨A3, n3, c3, B3, m3, d3, rfl, hN3, hM3, hb3⟩
  have HF := Lib.hid (hbB.trans (hb3.mono hbB.size))
  go_wp2_with fail
  refine (rcmp_nat _ _ _ _ _ _ (p * s) (r * q) _ hN3.1 hM3.1).mono ?_
  rintro e w4 ⟨rfl, nq, rfl⟩
  clear hN3 hM3 hb3 hbB hB1b hB2b k0 k1 k2 k3
  go_wp2
  go_ret
  exact ⟨rfl, below_drewN' HF.out nq⟩
set_option maxHeartbeats 1600000 in
theorem xadd_bad (ha : Rd w A n c xs) (hb : Rd w B m d ys) (hc : Rd w C n' c' us) (hd : Rd w D m' d' vs) (f : (frB xs ys && frB us vs) = false) :
    Calls Tryz.prog 63 #[.agg #[.slice A n c, .slice B m d], .agg #[.slice C n' c', .slice D m' d']] w (OutR2 w [] [] 1) := by
  obtain ⟨hB1, hB2, hB3, hb0, hs0⟩ := boxes3 w 52 52 52 (.slice A n c) (.slice B m d) (.slice C n' c') (.slice D m' d') (.slice none 0 0) (.slice none 0 0)
  go_enter Tryz.func63, Tryz.ntmps63
  go_wp2_with fail
  generalize ((w.alloc (Obj.cells #[Value.slice A n c, Value.slice B m d] 52)).alloc (Obj.cells #[Value.slice C n' c', Value.slice D m' d'] 52)).alloc (Obj.cells #[Value.slice none 0 0, Value.slice none 0 0] 52) = W0 at *
  obtain ⟨k0, k1⟩ := hB1.cells
  obtain ⟨k2, k3⟩ := hB2.cells
  cases fa : frB xs ys
  · refine (rfr_any _ _ _ _ _ _ xs ys _ (ha.below hb0) (hb.below hb0)).mono ?_
    rw [fa]
    rintro e w1 ⟨rfl, hb1⟩
    have hb01 := hb0.trans (hb1.mono hb0.size)
    clear k0 k1 k2 k3
    have hB3' := hB3.below hb1 (by omega)
    obtain ⟨k0, k1⟩ := hB3'.cells
    have f0 := hB3'.frozen 0
    have f1 := hB3'.frozen 1
    have HF := Lib.hid (outR2_nil (g := w.heap.size + 2) 1 hb01 (by omega))
    clear hB1 hB2 hB3 hB3' hb0 hb1 hb01
    go_wp2
    refine bodyPost_ret (v := .tuple #[.agg #[.slice none 0 0, .slice none 0 0], .int .i64 1]) (by simp [results, Tryz.results63, go_sem, k0, k1]) rfl ?_
    exact HF.out
  · have fb : frB us vs = false := by rw [fa] at f; simpa using f
    refine (rfr_any _ _ _ _ _ _ xs ys _ (ha.below hb0) (hb.below hb0)).mono ?_
    rw [fa]
    rintro e w0 ⟨rfl, hbx⟩
    have hbA := hb0.trans (hbx.mono hb0.size)
    have hB1a := hB1.below hbx (by omega)
    have hB2a := hB2.below hbx (by omega)
    have hB3a := hB3.below hbx (by omega)
    have hsx := hbx.size
    clear hB1 hB2 k0 k1 k2 k3
    obtain ⟨k0, k1⟩ := hB1a.cells
    obtain ⟨k2, k3⟩ := hB2a.cells
    go_wp2_with fail
    refine (rfr_any _ _ _ _ _ _ us vs _ (hc.below hbA) (hd.below hbA)).mono ?_
    rw [fb]
    rintro e w1 ⟨rfl, hb1⟩
    have hb01 := hbA.trans (hb1.mono hbA.size)
    clear k0 k1 k2 k3
    have hB3' := hB3a.below hb1 (by omega)
    obtain ⟨k0, k1⟩ := hB3'.cells
    have f0 := hB3'.frozen 0
    have f1 := hB3'.frozen 1
    have HF := Lib.hid (outR2_nil (g := w.heap.size + 2) 1 hb01 (by omega))
    clear hB1a hB2a hB3a hbx hbA hB3 hB3' hb0 hb1 hb01
    go_wp2
    refine bodyPost_ret (v := .tuple #[.agg #[.slice none 0 0, .slice none 0 0], .int .i64 1]) (by simp [results, Tryz.results63, go_sem, k0, k1]) rfl ?_
    exact HF.out
set_option maxHeartbeats 3200000 in
theorem xadd_yes (ha : Rd w A n c (digs p)) (hb : Rd w B m d (digs q)) (hc : Rd w C n' c' (digs r)) (hd : Rd w D m' d' (digs s)) (h1 : Fr p q) (h2 : Fr r s) (l1 : (digs (p * s)).length ≤ 400) (l2 : (digs (r * q)).length ≤ 400) (l3 : (digs (q * s)).length ≤ 400) (l4 : (digs (p * s + r * q)).length ≤ 400) :
    Calls Tryz.prog 63 #[.agg #[.slice A n c, .slice B m d], .agg #[.slice C n' c', .slice D m' d']] w (OutR2 w (digs ((p * s + r * q) / Nat.gcd (p * s + r * q) (q * s))) (digs ((q * s) / Nat.gcd (p * s + r * q) (q * s))) 0) := by
  have hD : q * s ≠ 0 := Nat.mul_ne_zero h1.2.2.1 h2.2.2.1
  obtain ⟨hB1, hB2, hB3, hb0, hs0⟩ := boxes3 w 52 52 52 (.slice A n c) (.slice B m d) (.slice C n' c') (.slice D m' d') (.slice none 0 0) (.slice none 0 0)
  go_enter Tryz.func63, Tryz.ntmps63
  go_wp2_with fail
  generalize ((w.alloc (Obj.cells #[Value.slice A n c, Value.slice B m d] 52)).alloc (Obj.cells #[Value.slice C n' c', Value.slice D m' d'] 52)).alloc (Obj.cells #[Value.slice none 0 0, Value.slice none 0 0] 52) = W0 at *
  obtain ⟨k0, k1⟩ := hB1.cells
  obtain ⟨k2, k3⟩ := hB2.cells
  refine (rfr_nat _ _ _ _ _ _ p q _ (ha.below hb0) (hb.below hb0) h1).mono ?_
  rintro e w1 ⟨rfl, hbx⟩
  have hbA := hb0.trans (hbx.mono hb0.size)
  have hB1a := hB1.below hbx (by omega)
  have hB2a := hB2.below hbx (by omega)
  have hB3a := hB3.below hbx (by omega)
  have hsx := hbx.size
  clear hB1 hB2 hB3 k0 k1 k2 k3
  obtain ⟨k0, k1⟩ := hB1a.cells
  obtain ⟨k2, k3⟩ := hB2a.cells
  go_wp2_with fail
  refine (rfr_nat _ _ _ _ _ _ r s _ (hc.below hbA) (hd.below hbA) h2).mono ?_
  rintro e w2 ⟨rfl, hby⟩
  have hbB := hbA.trans (hby.mono hbA.size)
  have hB1b := hB1a.below hby (by omega)
  have hB2b := hB2a.below hby (by omega)
  have hB3b := hB3a.below hby (by omega)
  have hsy := hby.size
  clear hB1a hB2a hB3a k0 k1 k2 k3 hbA hb0 hbx hby
  obtain ⟨k0, k1⟩ := hB1b.cells
  obtain ⟨k2, k3⟩ := hB2b.cells
  go_wp2_with fail
  refine (cross_yes _ _ _ _ _ _ _ _ _ _ _ _ p q r s _ (ha.below hbB) (hb.below hbB) (hc.below hbB) (hd.below hbB) h1 h2 l1 l2).mono ?_
  rintro e w3 ⟨A3, n3, c3, B3, m3, d3, rfl, hN3, hM3, hb3⟩
  have hbC := hbB.trans (hb3.mono hbB.size)
  have hB1c := hB1b.below hb3 (by omega)
  have hB2c := hB2b.below hb3 (by omega)
  have hB3c := hB3b.below hb3 (by omega)
  have hs3 := hb3.size
  clear hB1b hB2b hB3b k0 k1 k2 k3
  obtain ⟨k0, k1⟩ := hB1c.cells
  obtain ⟨k2, k3⟩ := hB2c.cells
  go_wp2_with fail
  refine (rmul_nat _ _ _ _ _ _ q s _ (hb.below hbC) (hd.below hbC) h1.2.1 h2.2.1).mono ?_
  rintro e w4 ⟨A4, n4, c4, rfl, hN4, hb4⟩
  have hbD := hbC.trans (hb4.mono hbC.size)
  have hB3d := hB3c.below hb4 (by omega)
  have hs4 := hb4.size
  have hN3d := hN3.below hb4
  have hM3d := hM3.below hb4
  clear hB1c hB2c
  go_wp2_with fail
  refine (bound_nat _ _ _ (q * s) _ hN4.1 l3).mono ?_
  rintro e w' ⟨rfl, rfl⟩
  go_wp2_with fail
  refine (radd_nat _ _ _ _ _ _ (p * s) (r * q) _ hN3d.1 hM3d.1 l1 l2).mono ?_
  rintro e w5 ⟨A5, n5, c5, rfl, hN5, hb5⟩
  have hbE := hbD.trans (hb5.mono hbD.size)
  have hB3e := hB3d.below hb5 (by omega)
  have hs5 := hb5.size
  have hN4e := hN4.below hb5
  go_wp2_with fail
  refine (bound_nat _ _ _ (p * s + r * q) _ hN5.1 l4).mono ?_
  rintro e w' ⟨rfl, rfl⟩
  go_wp2_with fail
  refine (lowest_any _ _ _ _ _ _ (p * s + r * q) (q * s) _ hN5.1 hN4e.1 l4 l3 hD).mono ?_
  rintro e w6 ⟨A6, n6, c6, B6, m6, d6, rfl, hN6, hM6, hb6⟩
  have hbF := hbE.trans (hb6.mono hbE.size)
  have hB3f := hB3e.below hb6 (by omega)
  clear k0 k1 k2 k3
  obtain ⟨k0, k1⟩ := hB3f.cells
  have f0 := hB3f.frozen 0
  have f1 := hB3f.frozen 1
  have HF := Lib.hid (outR2_end 0 (g := w.heap.size + 2) hN6 hM6 hbF (by omega) (by omega))
  clear hB3c hB3d hB3e hB3f hbB hbC hbD hbE hbF hb3 hb4 hb5 hb6 hN3 hM3 hN3d hM3d hN4 hN4e hN5 hN6 hM6
  go_wp2
  refine bodyPost_ret (v := .tuple #[.agg #[.slice A6 n6 c6, .slice B6 m6 d6], .int .i64 0]) (by simp [results, Tryz.results63, go_sem, k0, k1]) rfl ?_
  exact HF.out
/-- The end of a call that gives a fraction that can be read, and an error number. -/
def RdR2 (w : World) (xs ys : List Nat) (k : Int) (e : Ending) (w' : World) : Prop :=
  ∃ A n c B m d, e = .returned (.tuple #[.agg #[.slice A n c, .slice B m d], .int .i64 k]) ∧ Rd w' A n c xs ∧ Rd w' B m d ys ∧ Below w.heap.size w w'
theorem OutR2.rd {w w' : World} {xs ys : List Nat} {k : Int} {e : Ending} (h : OutR2 w xs ys k e w') : RdR2 w xs ys k e w' := by
  obtain ⟨A, n, c, B, m, d, h1, h2, h3, h4⟩ := h
  exact ⟨A, n, c, B, m, d, h1, h2.1, h3.1, h4⟩
set_option maxHeartbeats 1600000 in
/-- The reference's SameRatio. -/
theorem sameR_yes (ha : Rd w A n c xs) (hb : Rd w B m d ys) (hc : Rd w C n' c' xs) (hd : Rd w D m' d' ys) :
    Calls Tryz.prog 50 #[.agg #[.slice A n c, .slice B m d], .agg #[.slice C n' c', .slice D m' d']] w fun e w' => e = .returned (.bool true) ∧ Below w.heap.size w w' := by
  obtain ⟨hB1, hB2, hb0, hs0⟩ := boxes2 w 52 52 (.slice A n c) (.slice B m d) (.slice C n' c') (.slice D m' d')
  go_enter Tryz.func50, Tryz.ntmps50
  go_wp2_with fail
  generalize (w.alloc (Obj.cells #[Value.slice A n c, Value.slice B m d] 52)).alloc (Obj.cells #[Value.slice C n' c', Value.slice D m' d'] 52) = W0 at *
  obtain ⟨k0, k1⟩ := hB1.cells
  obtain ⟨k2, k3⟩ := hB2.cells
  refine (rSame_yes _ _ _ _ _ _ xs _ (ha.below hb0) (hc.below hb0)).mono ?_
  rintro e w1 ⟨rfl, q1, rfl⟩
  go_wp2_with fail
  refine (rSame_yes _ _ _ _ _ _ ys _ ((hb.below hb0).drewN q1) ((hd.below hb0).drewN q1)).mono ?_
  rintro e w2 ⟨rfl, q2, rfl⟩
  have HF := Lib.hid (below_drewN' hb0 (q1 + q2))
  clear hb0 hB1 hB2 k0 k1 k2 k3
  go_wp2
  go_ret
  exact ⟨rfl, HF.out⟩
end
end Go.Proofs.YtehekjlakegkpaaGreat
end
section
namespace Go.Proofs.YtehekjlakegkpaaGreat
open Go.RowKit
set_option linter.unusedVariables false

/-- Not negative, and of at most 150 limbs. -/
def Sb (x : Rat) : Prop := 0 ≤ x ∧ x.num.toNat < pw 150 ∧ x.den < pw 150
theorem Sm.sb {x : Rat} (h : Sm x) : Sb x := ⟨h.1, Nat.lt_of_lt_of_le h.2.1 (pw_le (by omega)), Nat.lt_of_lt_of_le h.2.2 (pw_le (by omega))⟩
theorem Den.sb {D : Nat} {x : Rat} (h : Den D x) (hD : 0 < D) (i j : Nat) (hd : D ≤ pw i) (b : Nat) (hb : x ≤ (b : Rat)) (hb2 : b ≤ pw j) (hij : j + i < 150) : Sb x := by
  have h1 := h.den_le hD
  have h2 := h.num_le hD b hb
  have h3 : b * D ≤ pw (j + i) := by rw [pw_add]; exact Nat.mul_le_mul hb2 hd
  have h4 := pw_lt hij
  have h5 : pw i ≤ pw (j + i) := pw_le (by omega)
  exact ⟨h.1, by omega, by omega⟩
theorem Sb.fr {x : Rat} (h : Sb x) : Fr x.num.toNat x.den := by
  have h1 := len_digs_lt h.2.1
  have h2 := len_digs_lt h.2.2
  refine ⟨by omega, by omega, x.den_nz, ?_⟩
  have := x.reduced
  unfold Nat.Coprime at this
  rw [← this]
  congr 1
  have h0 := Rat.num_nonneg.2 h.1
  omega
theorem len_prodb {a b : Nat} (ha : a < pw 150) (hb : b < pw 150) : (digs (a * b)).length ≤ 400 := by
  have : a * b < pw 300 := by
    rw [show 300 = 150 + 150 from rfl, pw_add]
    exact Nat.mul_lt_mul_of_lt_of_le ha (Nat.le_of_lt hb) (pw_pos 150)
  have := len_digs_lt this
  omega
theorem len_sumb {a b c d : Nat} (ha : a < pw 150) (hb : b < pw 150) (hc : c < pw 150) (hd : d < pw 150) : (digs (a * b + c * d)).length ≤ 400 := by
  have h1 : a * b < pw 300 := by
    rw [show 300 = 150 + 150 from rfl, pw_add]
    exact Nat.mul_lt_mul_of_lt_of_le ha (Nat.le_of_lt hb) (pw_pos 150)
  have h2 : c * d < pw 300 := by
    rw [show 300 = 150 + 150 from rfl, pw_add]
    exact Nat.mul_lt_mul_of_lt_of_le hc (Nat.le_of_lt hd) (pw_pos 150)
  have h3 : pw 301 = 4294967296 * pw 300 := (pw_add 1 300).trans (congrArg (· * pw 300) (show pw 1 = 4294967296 from rfl))
  have := len_digs_lt (n := a * b + c * d) (k := 301) (by omega)
  omega
section
variable {x y : Rat} {w : World} {f g : Fp}
theorem addF_sb (hx : Sb x) (hy : Sb y) : addF x.num.toNat x.den y.num.toNat y.den = (digs (x + y).num.toNat, digs (x + y).den, 0) := by
  have h1 := ratX hx.1
  have h2 := ratX hy.1
  unfold addF
  rw [if_pos ⟨len_prodb hx.2.1 hy.2.2, len_prodb hy.2.1 hx.2.2, len_prodb hx.2.2 hy.2.2⟩, if_pos (len_sumb hx.2.1 hy.2.2 hy.2.1 hx.2.2)]
  obtain ⟨e1, e2⟩ := ratN (x.num.toNat * y.den + y.num.toNat * x.den) (x.den * y.den) (Nat.mul_ne_zero x.den_nz y.den_nz) (x + y) (by
    simp only [Rat.natCast_mul, Rat.natCast_add]; rw [← h1, ← h2]; grind)
  rw [e1, e2]
theorem subF_sb (hx : Sb x) (hy : Sb y) (hl : y ≤ x) : subF x.num.toNat x.den y.num.toNat y.den = (digs (x - y).num.toNat, digs (x - y).den, 0) := by
  have h1 := ratX hx.1
  have h2 := ratX hy.1
  have hle : y.num.toNat * x.den ≤ x.num.toNat * y.den := by
    have : ((y.num.toNat * x.den : Nat) : Rat) ≤ ((x.num.toNat * y.den : Nat) : Rat) := by
      simp only [Rat.natCast_mul]; rw [← h1, ← h2]
      have a := Rat.mul_le_mul_of_nonneg_right hl (Rat.mul_nonneg (st_nonneg x.den) (st_nonneg y.den))
      grind
    exact_mod_cast this
  unfold subF
  rw [if_pos ⟨len_prodb hx.2.1 hy.2.2, len_prodb hy.2.1 hx.2.2, len_prodb hx.2.2 hy.2.2⟩, if_neg (by omega)]
  obtain ⟨e1, e2⟩ := ratN (x.num.toNat * y.den - y.num.toNat * x.den) (x.den * y.den) (Nat.mul_ne_zero x.den_nz y.den_nz) (x - y) (by
    have : ((x.num.toNat * y.den - y.num.toNat * x.den : Nat) : Rat) + ((y.num.toNat * x.den : Nat) : Rat) = ((x.num.toNat * y.den : Nat) : Rat) := by rw [← Rat.natCast_add, Nat.sub_add_cancel hle]
    simp only [Rat.natCast_mul] at this ⊢; rw [← h1, ← h2] at this; grind)
  rw [e1, e2]
theorem badd_any (hf : RX w f x) (hg : RX w g y) (hx : Sb x) (hy : Sb y) : Calls Tryz.prog 17 #[f.val, g.val] w (OutX2 w (x + y)) := by
  refine (radd_any2 _ _ _ _ _ _ _ _ _ _ _ _ _ _ _ _ _ hf.1 hf.2 hg.1 hg.2 hx.fr hy.fr).mono fun e w' h => ?_
  rw [addF_sb hx hy] at h
  exact outX2_of rfl rfl h
theorem bsub_any (hf : RX w f x) (hg : RX w g y) (hx : Sb x) (hy : Sb y) (hl : y ≤ x) : Calls Tryz.prog 143 #[f.val, g.val] w (OutX2 w (x - y)) := by
  refine (rsub_any2 _ _ _ _ _ _ _ _ _ _ _ _ _ _ _ _ _ hf.1 hf.2 hg.1 hg.2 hx.fr hy.fr).mono fun e w' h => ?_
  rw [subF_sb hx hy hl] at h
  exact outX2_of rfl rfl h
theorem bmul_any (hf : RX w f x) (hg : RX w g y) (hx : Sb x) (hy : Sb y) : Calls Tryz.prog 26 #[f.val, g.val] w (OutX2 w (x * y)) := by
  have h1 := ratX hx.1
  have h2 := ratX hy.1
  obtain ⟨e1, e2⟩ := ratN (x.num.toNat * y.num.toNat) (x.den * y.den) (Nat.mul_ne_zero x.den_nz y.den_nz) (x * y) (by
    simp only [Rat.natCast_mul]; rw [← h1, ← h2]; grind)
  refine (rmul_yes _ _ _ _ _ _ _ _ _ _ _ _ _ _ _ _ _ hf.1 hf.2 hg.1 hg.2 hx.fr hy.fr (len_prodb hx.2.1 hy.2.1) (len_prodb hx.2.2 hy.2.2)).mono fun e w' h => ?_
  exact outX2_of (by rw [e1]) (by rw [e2]) h
theorem bdiv_any (hf : RX w f x) (hg : RX w g y) (hx : Sb x) (hy : Sb y) (hp : 0 < y) : Calls Tryz.prog 144 #[f.val, g.val] w (OutX2 w (x / y)) := by
  have h1 := ratX hx.1
  have h2 := ratX hy.1
  have hn := num_ne hp
  obtain ⟨e1, e2⟩ := ratN (x.num.toNat * y.den) (x.den * y.num.toNat) (Nat.mul_ne_zero x.den_nz hn) (x / y) (by
    simp only [Rat.natCast_mul]; rw [← h1, ← h2]
    have := Rat.div_mul_cancel (a := x) (b := y) (by grind)
    grind)
  refine (rdiv_yes _ _ _ _ _ _ _ _ _ _ _ _ _ _ _ _ _ hf.1 hf.2 hg.1 hg.2 hx.fr hy.fr hn (len_prodb hx.2.1 hy.2.2) (len_prodb hx.2.2 hy.2.1)).mono fun e w' h => ?_
  exact outX2_of (by rw [e1]) (by rw [e2]) h
theorem bcmp_any (hf : RX w f x) (hg : RX w g y) (hx : Sb x) (hy : Sb y) : Calls Tryz.prog 15 #[f.val, g.val] w fun e w' => e = .returned (.int .i64 (cmpX x y)) ∧ Below w.heap.size w w' := by
  have h1 := ratX hx.1
  have h2 := ratX hy.1
  have hp : 0 < (x.den : Rat) * (y.den : Rat) := Rat.mul_pos (by exact_mod_cast x.den_pos) (by exact_mod_cast y.den_pos)
  have el : ((x.num.toNat * y.den : Nat) : Rat) = x * ((x.den : Rat) * (y.den : Rat)) := by rw [Rat.natCast_mul, ← h1]; grind
  have er : ((y.num.toNat * x.den : Nat) : Rat) = y * ((x.den : Rat) * (y.den : Rat)) := by rw [Rat.natCast_mul, ← h2]; grind
  have hlt : x.num.toNat * y.den < y.num.toNat * x.den ↔ x < y := by
    rw [← Rat.natCast_lt_natCast, el, er]
    exact ⟨fun h => Rat.lt_of_mul_lt_mul_right h (Rat.le_of_lt hp), fun h => Rat.mul_lt_mul_of_pos_right h hp⟩
  have heq : x.num.toNat * y.den = y.num.toNat * x.den ↔ x = y := by
    constructor
    · intro h
      have := congrArg (fun n : Nat => (n : Rat)) h
      rw [el, er] at this
      have a : x ≤ y := Rat.le_of_mul_le_mul_right (by rw [this]; exact Rat.le_refl) hp
      have b : y ≤ x := Rat.le_of_mul_le_mul_right (by rw [this]; exact Rat.le_refl) hp
      grind
    · intro h; rw [h]
  have e : cmpX x y = cmpN (x.num.toNat * y.den) (y.num.toNat * x.den) := by
    unfold cmpX cmpN
    by_cases a : x < y
    · rw [if_pos a, if_pos (hlt.2 a)]
    · rw [if_neg a, if_neg (fun h => a (hlt.1 h))]
      by_cases b : x = y
      · rw [if_pos b, if_pos (heq.2 b)]
      · rw [if_neg b, if_neg (fun h => b (heq.1 h))]
  rw [e]
  exact rcmp_yes2 _ _ _ _ _ _ _ _ _ _ _ _ _ _ _ _ _ hf.1 hf.2 hg.1 hg.2 hx.fr hy.fr (len_prodb hx.2.1 hy.2.2) (len_prodb hy.2.1 hx.2.2)
theorem zadd_any (hf : RX w f x) (hg : RX w g y) (hx : Sb x) (hy : Sb y) : Calls Tryz.prog 63 #[f.val, g.val] w (OutX2 w (x + y)) := by
  have h1 := ratX hx.1
  have h2 := ratX hy.1
  obtain ⟨e1, e2⟩ := ratN (x.num.toNat * y.den + y.num.toNat * x.den) (x.den * y.den) (Nat.mul_ne_zero x.den_nz y.den_nz) (x + y) (by
    simp only [Rat.natCast_mul, Rat.natCast_add]; rw [← h1, ← h2]; grind)
  refine (xadd_yes _ _ _ _ _ _ _ _ _ _ _ _ _ _ _ _ _ hf.1 hf.2 hg.1 hg.2 hx.fr hy.fr (len_prodb hx.2.1 hy.2.2) (len_prodb hy.2.1 hx.2.2) (len_prodb hx.2.2 hy.2.2) (len_sumb hx.2.1 hy.2.2 hy.2.1 hx.2.2)).mono fun e w' h => ?_
  exact outX2_of (by rw [e1]) (by rw [e2]) h
theorem zcmp_any (hf : RX w f x) (hg : RX w g y) (hx : Sb x) (hy : Sb y) : Calls Tryz.prog 69 #[f.val, g.val] w fun e w' => e = .returned (.int .i64 (cmpX x y)) ∧ Below w.heap.size w w' := by
  have h1 := ratX hx.1
  have h2 := ratX hy.1
  have hp : 0 < (x.den : Rat) * (y.den : Rat) := Rat.mul_pos (by exact_mod_cast x.den_pos) (by exact_mod_cast y.den_pos)
  have el : ((x.num.toNat * y.den : Nat) : Rat) = x * ((x.den : Rat) * (y.den : Rat)) := by rw [Rat.natCast_mul, ← h1]; grind
  have er : ((y.num.toNat * x.den : Nat) : Rat) = y * ((x.den : Rat) * (y.den : Rat)) := by rw [Rat.natCast_mul, ← h2]; grind
  have hlt : x.num.toNat * y.den < y.num.toNat * x.den ↔ x < y := by
    rw [← Rat.natCast_lt_natCast, el, er]
    exact ⟨fun h => Rat.lt_of_mul_lt_mul_right h (Rat.le_of_lt hp), fun h => Rat.mul_lt_mul_of_pos_right h hp⟩
  have heq : x.num.toNat * y.den = y.num.toNat * x.den ↔ x = y := by
    constructor
    · intro h
      have := congrArg (fun n : Nat => (n : Rat)) h
      rw [el, er] at this
      have a : x ≤ y := Rat.le_of_mul_le_mul_right (by rw [this]; exact Rat.le_refl) hp
      have b : y ≤ x := Rat.le_of_mul_le_mul_right (by rw [this]; exact Rat.le_refl) hp
      grind
    · intro h; rw [h]
  have e : cmpX x y = cmpN (x.num.toNat * y.den) (y.num.toNat * x.den) := by
    unfold cmpX cmpN
    by_cases a : x < y
    · rw [if_pos a, if_pos (hlt.2 a)]
    · rw [if_neg a, if_neg (fun h => a (hlt.1 h))]
      by_cases b : x = y
      · rw [if_pos b, if_pos (heq.2 b)]
      · rw [if_neg b, if_neg (fun h => b (heq.1 h))]
  rw [e]
  exact xcmp_yes _ _ _ _ _ _ _ _ _ _ _ _ _ _ _ _ _ hf.1 hf.2 hg.1 hg.2 hx.fr hy.fr (len_prodb hx.2.1 hy.2.2) (len_prodb hy.2.1 hx.2.2)
end

end Go.Proofs.YtehekjlakegkpaaGreat
end
