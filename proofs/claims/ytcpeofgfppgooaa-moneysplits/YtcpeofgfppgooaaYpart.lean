/-
  What money.Part and the reference's Part answer: a times num, divided by den, rounded down; 5 where den is 0; 3 where that is too great. For all numbers below 2^64.
-/
import Derived.Test.YtcpeofgfppgooaaYdiv
import Derived.Test.YtcpeofgfppgooaaRdivs
namespace Go.Proofs.Ytcpeofgfppgooaa
open Go.RowKit

/-- The part, or error 5 or 3. -/
def partM (a n d : Nat) : Nat × Nat := if d = 0 then (0, 5) else if a * n / d < 18446744073709551616 then (a * n / d, 0) else (0, 3)
/-- The end of a call that gives a number and an error number, and leaves memory alone. -/
def OutNd (w : World) (p : Nat × Nat) (e : Ending) (w' : World) : Prop := e = .returned (.tuple #[.int .u64 (p.1 : Nat), .int .i64 (p.2 : Nat)]) ∧ ∃ k, w' = w.drewN k
/-- The same, and only new memory is made. -/
def OutNb (w : World) (p : Nat × Nat) (e : Ending) (w' : World) : Prop := e = .returned (.tuple #[.int .u64 (p.1 : Nat), .int .i64 (p.2 : Nat)]) ∧ Below w.heap.size w w'
theorem part_lt {P d : Nat} (h : P / 18446744073709551616 < d) : P / d < 18446744073709551616 := by
  rw [Nat.div_lt_iff_lt_mul (by omega)] at h ⊢
  rw [Nat.mul_comm]
  exact h
theorem part_ge {P d : Nat} (h0 : 0 < d) (h : d ≤ P / 18446744073709551616) : ¬ P / d < 18446744073709551616 := by
  rw [Nat.div_lt_iff_lt_mul h0]
  rw [Nat.le_div_iff_mul_le (by omega)] at h
  rw [Nat.mul_comm]
  omega
set_option maxHeartbeats 1000000 in
theorem ypart_any (a n d : Nat) (w : World) (ha : a < 18446744073709551616) (hn : n < 18446744073709551616) (hd : d < 18446744073709551616) :
    Calls Try.prog 13 #[.int .u64 a, .int .u64 n, .int .u64 d] w (OutNd w (partM a n d)) := by
  by_cases h0 : d = 0
  · subst h0
    rw [show partM a n 0 = (0, 5) from if_pos rfl]
    go_enter Try.func13, Try.ntmps13
    go_wp2
    go_ret2
    exact ⟨rfl, 0, rfl⟩
  · have h1 : ((d : Int) == 0) = false := by simp; omega
    have hm := mul64_any a n w ha hn
    have HP := Lib.hid (show (a * n / 18446744073709551616) * 18446744073709551616 + a * n % 18446744073709551616 = a * n by omega)
    have hr : a * n % 18446744073709551616 < 18446744073709551616 := by omega
    by_cases h2 : a * n / 18446744073709551616 < d
    · have e := part_lt h2
      have h3 : decide ((d : Int) ≤ ((a * n / 18446744073709551616 : Nat) : Int)) = false := by rw [decide_eq_false_iff_not]; omega
      rw [show partM a n d = (a * n / d, 0) by rw [partM, if_neg h0, if_pos e]]
      have hq := div64_any (a * n / 18446744073709551616) (a * n % 18446744073709551616) d w h2 hd hr
      rw [HP.out] at hq
      clear HP e
      generalize a * n / 18446744073709551616 = u at *
      generalize a * n % 18446744073709551616 = v at *
      generalize a * n / d = q at *
      go_enter Try.func13, Try.ntmps13
      go_wp2_with fail
      refine hm.mono ?_
      rintro e w' ⟨rfl, rfl⟩
      go_wp2_with fail
      refine hq.mono ?_
      rintro e w' ⟨r, k, rfl, rfl⟩
      go_wp2
      go_ret2
      exact ⟨rfl, k, rfl⟩
    · have e := part_ge (P := a * n) (d := d) (by omega) (by omega)
      have h3 : decide ((d : Int) ≤ ((a * n / 18446744073709551616 : Nat) : Int)) = true := by rw [decide_eq_true_iff]; omega
      rw [show partM a n d = (0, 3) by rw [partM, if_neg h0, if_neg e]]
      clear HP e
      generalize a * n / 18446744073709551616 = u at *
      generalize a * n % 18446744073709551616 = v at *
      go_enter Try.func13, Try.ntmps13
      go_wp2_with fail
      refine hm.mono ?_
      rintro e w' ⟨rfl, rfl⟩
      go_wp2
      go_ret2
      exact ⟨rfl, 0, rfl⟩

theorem len_two {p : Nat} (h : p < 18446744073709551616) : (digs p).length ≤ 2 := len_digs_lt (by simpa [pw] using h)
theorem two_len {p : Nat} (h : (digs p).length ≤ 2) : p < 18446744073709551616 := by simpa [pw] using (len_digs_iff p 2).1 h
theorem len_four {a b : Nat} (ha : a < 18446744073709551616) (hb : b < 18446744073709551616) : (digs (a * b)).length ≤ 4 := len_digs_lt (by
  have : a * b < 18446744073709551616 * 18446744073709551616 := Nat.mul_lt_mul'' ha hb
  simpa [pw] using this)
theorem fm_small {p k : Nat} (h : (digs p).length ≤ k) (hk : k ≤ 400) : fmB (digs p) = true := by rw [fmB_digs]; simp; omega
theorem lowR_yes {p : Nat} (h : p < 18446744073709551616) : lowR (digs p) = (p, true) := by
  unfold lowR
  rw [fm_small (len_two h) (by omega)]
  simp [len_two h, val_digs]
theorem lowR_no {p : Nat} (h : ¬ p < 18446744073709551616) : lowR (digs p) = (0, false) := by
  unfold lowR
  have : ¬ (digs p).length ≤ 2 := fun hh => h (two_len hh)
  simp [this]
set_option maxHeartbeats 1000000 in
theorem xpart_any (a n d : Nat) (w : World) (ha : a < 18446744073709551616) (hn : n < 18446744073709551616) (hd : d < 18446744073709551616) :
    Calls Try.prog 14 #[.int .u64 a, .int .u64 n, .int .u64 d] w (OutNb w (partM a n d)) := by
  by_cases h0 : d = 0
  · subst h0
    rw [show partM a n 0 = (0, 5) from if_pos rfl]
    go_enter Try.func14, Try.ntmps14
    go_wp2
    go_ret2
    exact ⟨rfl, Below.refl _ _⟩
  · have h1 : ((d : Int) == 0) = false := by simp; omega
    have HM := Lib.hid (len_four ha hn)
    have FA := Lib.hid (fm_small (len_two ha) (by omega))
    have FN := Lib.hid (fm_small (len_two hn) (by omega))
    have FD := Lib.hid (fm_small (len_two hd) (by omega))
    have FM := Lib.hid (fm_small (len_four ha hn) (by omega))
    obtain ⟨q, hq⟩ : ∃ q, a * n / d = q := ⟨_, rfl⟩
    have HQ := Lib.hid hq
    have HR := Lib.hid (show partM a n d = if q < 18446744073709551616 then (q, 0) else (0, 3) by rw [partM, if_neg h0, hq])
    clear hq
    go_enter Try.func14, Try.ntmps14
    go_wp2_with fail
    refine (rof_any a w ha).mono ?_
    rintro e w1 ⟨A1, n1, c1, rfl, hN1, b1⟩
    go_wp2_with fail
    refine (rof_any n w1 hn).mono ?_
    rintro e w2 ⟨A2, n2, c2, rfl, hN2, b2⟩
    replace hN1 := hN1.below b2
    replace b1 := b1.trans (b2.mono b1.size)
    clear b2
    go_wp2_with fail
    refine (rMul_yes _ _ _ _ _ _ _ _ w2 hN1.1 hN2.1 FA.out FN.out (by rw [val_digs, val_digs]; exact Nat.le_trans HM.out (by omega))).mono ?_
    rw [val_digs, val_digs]
    rintro e w3 ⟨A3, n3, c3, rfl, hN3, b3⟩
    replace b1 := b1.trans (b3.mono b1.size)
    clear b3 hN1 hN2
    go_wp2_with fail
    refine (rof_any d w3 hd).mono ?_
    rintro e w4 ⟨A4, n4, c4, rfl, hN4, b4⟩
    replace hN3 := hN3.below b4
    replace b1 := b1.trans (b4.mono b1.size)
    have hn4 : n4 ≠ 0 := by
      have := hN4.1.len
      intro hh
      rw [hh] at this
      exact h0 (len_digs_eq_zero.1 this)
    clear b4
    go_wp2_with fail
    refine (rDiv_yes _ _ _ _ _ _ _ _ w4 hN3.1 hN4.1 FM.out FD.out hn4).mono ?_
    rw [val_digs, val_digs, HQ.out]
    rintro e w5 ⟨A5, n5, c5, A6, n6, c6, rfl, hN5, hN6, b5⟩
    replace b1 := b1.trans (b5.mono b1.size)
    clear b5 hN3 hN4 hN6 hn4
    go_wp2_with fail
    refine (rLow_any _ _ _ _ w5 hN5.1).mono ?_
    clear hN5
    by_cases hl : q < 18446744073709551616
    · rw [lowR_yes hl]
      rintro e w' ⟨rfl, rfl⟩
      have HR2 := Lib.hid (HR.out.trans (if_pos hl))
      clear HR
      go_wp2
      go_ret2
      exact ⟨by rw [HR2.out]; rfl, b1⟩
    · rw [lowR_no hl]
      rintro e w' ⟨rfl, rfl⟩
      have HR2 := Lib.hid (HR.out.trans (if_neg hl))
      clear HR
      go_wp2
      go_ret2
      exact ⟨by rw [HR2.out]; rfl, b1⟩
end Go.Proofs.Ytcpeofgfppgooaa
