/-
  limb.DivMod of well formed naturals, said of the numbers. For naturals of at most 400 limbs and a divisor that is not 0.
-/
import Derived.Test.YteicihaigkgbnaaDivide
import Derived.Test.YteicihaigkgbnaaNats
namespace Go.Proofs.Yteicihaigkgbnaa
open Go.RowKit

theorem div_nat (A B : Option Addr) (n c m d a b : Nat) (w : World) (ha : Rd w A n c (digs a)) (hb : Rd w B m d (digs b)) (la : (digs a).length ≤ 400) (lb : (digs b).length ≤ 400) (h : b ≠ 0) :
    Calls Try.prog 59 #[.slice A n c, .slice B m d] w (Out3 w (digs (a / b)) (digs (a % b)) 0) := by
  have := div_yes A B n c m d (digs a) (digs b) w ha hb (fm_digs la) (fm_digs lb) (by
    rw [← hb.len]
    intro e
    exact h (len_digs_eq_zero.1 e))
  rw [val_digs, val_digs] at this; exact this
end Go.Proofs.Yteicihaigkgbnaa
