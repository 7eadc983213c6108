/-
  limb.Formed, Add, Sub, Mul, Cmp of well formed naturals, said of the numbers. For naturals of at most 400 limbs whose result has at most 400.
-/
import Derived.Test.YteicihaigkgbnaaSubs
import Derived.Test.YteicihaigkgbnaaRmul
namespace Go.Proofs.Yteicihaigkgbnaa
open Go.RowKit

theorem fm_digs {a : Nat} (h : (digs a).length ≤ 400) : fmB (digs a) = true := by rw [fmB_digs]; simpa using h
theorem digs_of {xs : List Nat} (hl : Lim xs) (h : fmB xs = true) : ∃ a, xs = digs a ∧ (digs a).length ≤ 400 :=
  ⟨val xs, (digs_val hl (fmB_nrm h)).symm, by rw [digs_val hl (fmB_nrm h)]; exact fmB_len h⟩
theorem len_add {a b i : Nat} (ha : (digs a).length ≤ i) (hb : (digs b).length ≤ i) : (digs (a + b)).length ≤ i + 1 := by
  rw [len_digs_iff] at *
  rw [pw_succ]; omega
theorem len_mul {a b i j : Nat} (ha : (digs a).length ≤ i) (hb : (digs b).length ≤ j) : (digs (a * b)).length ≤ i + j := by
  rw [len_digs_iff] at *
  rw [pw_add]
  rcases Nat.eq_zero_or_pos a with h | h
  · subst h; rw [Nat.zero_mul]; exact Nat.mul_pos (pw_pos i) (pw_pos j)
  · exact Nat.lt_of_lt_of_le (Nat.mul_lt_mul_of_pos_left hb h) (Nat.mul_le_mul_right _ (by omega))
section
variable (A B : Option Addr) (n c m d a b : Nat) (w : World)
theorem formed_nat (ha : Rd w A n c (digs a)) (la : (digs a).length ≤ 400) :
    Calls Try.prog 34 #[.slice A n c] w fun e w' => e = .returned (.bool true) ∧ w = w' := by
  have := formed_any A n c (digs a) w ha
  rw [fm_digs la] at this; exact this
theorem add_nat (ha : Rd w A n c (digs a)) (hb : Rd w B m d (digs b)) (la : (digs a).length ≤ 400) (lb : (digs b).length ≤ 400) (lr : (digs (a + b)).length ≤ 400) :
    Calls Try.prog 46 #[.slice A n c, .slice B m d] w (Out2 w (digs (a + b)) 0) := by
  have := add_yes A B n c m d (digs a) (digs b) w ha hb (fm_digs la) (fm_digs lb) (by rw [val_digs, val_digs]; exact lr)
  rw [val_digs, val_digs] at this; exact this
theorem mul_nat (ha : Rd w A n c (digs a)) (hb : Rd w B m d (digs b)) (la : (digs a).length ≤ 400) (lb : (digs b).length ≤ 400) (lr : (digs (a * b)).length ≤ 400) :
    Calls Try.prog 64 #[.slice A n c, .slice B m d] w (Out2 w (digs (a * b)) 0) := by
  have := mul_yes A B n c m d (digs a) (digs b) w ha hb (fm_digs la) (fm_digs lb) (by rw [val_digs, val_digs]; exact lr)
  rw [val_digs, val_digs] at this; exact this
theorem sub_nat (ha : Rd w A n c (digs a)) (hb : Rd w B m d (digs b)) (la : (digs a).length ≤ 400) (lb : (digs b).length ≤ 400) (h : b ≤ a) :
    Calls Try.prog 51 #[.slice A n c, .slice B m d] w (Out2 w (digs (a - b)) 0) := by
  have := Sub_yes A B n c m d (digs a) (digs b) w ha hb (fm_digs la) (fm_digs lb) (by rw [val_digs, val_digs]; exact h)
  rw [val_digs, val_digs] at this; exact this
theorem cmp_nat (ha : Rd w A n c (digs a)) (hb : Rd w B m d (digs b)) (la : (digs a).length ≤ 400) (lb : (digs b).length ≤ 400) :
    Calls Try.prog 55 #[.slice A n c, .slice B m d] w (Quiet w (.int .i64 (cmpN a b))) := by
  have := Cmp_any A B n c m d (digs a) (digs b) w ha hb
  have e : cmpR (digs a) (digs b) = cmpN a b := by unfold cmpR; rw [fm_digs la, fm_digs lb, val_digs, val_digs]; rfl
  rw [e] at this; exact this
theorem cmp_same (ha : Rd w A n c (digs a)) (hb : Rd w B m d (digs a)) (la : (digs a).length ≤ 400) :
    Calls Try.prog 55 #[.slice A n c, .slice B m d] w (Quiet w (.int .i64 0)) := by
  have := cmp_nat A B n c m d a a w ha hb la la
  rw [cmpN_eq] at this; exact this
end
end Go.Proofs.Yteicihaigkgbnaa
