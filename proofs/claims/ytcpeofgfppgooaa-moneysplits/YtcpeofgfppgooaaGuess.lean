/-
  What limb.guessLimb does: a limb of the quotient, right or too great by 1. For a window and a divisor that lie in rows known whole, the divisor's last limb not 0.
-/
import Derived.Test.YtcpeofgfppgooaaShift
import Derived.Test.YtcpeofgfppgooaaCmp
import Derived.Test.YtcpeofgfppgooaaMul
namespace Go.Proofs.Ytcpeofgfppgooaa
open Go.RowKit

/-- The loop: Q is not above the guess, and the guess times the first limb, and the rest, are the top. -/
def GuRel (Q T v1 : Nat) (gv rv : Value) : Prop :=
  ∃ G R : Nat, gv = .int .u64 G ∧ rv = .int .u64 R ∧ G * v1 + R = T ∧ Q ≤ G ∧ R < 8589934592
def GuP (w : World) (Q D T3 : Nat) (e : Ending) (w' : World) : Prop :=
  ∃ G : Nat, e = .returned (.int .u64 G) ∧ (∃ q, w' = w.drewN q) ∧ Q ≤ G ∧ G < 4294967296 ∧ G * D ≤ T3
theorem gu_dec {G R T v1 v2 u0 Q : Nat} (h : G * v1 + R = T) (hlt : u0 + 4294967296 * R < G * v2) (hQ : Q * (v1 * 4294967296 + v2) ≤ T * 4294967296 + u0) : Q < G := by
  rcases Nat.lt_or_ge Q G with hh | hh
  · exact hh
  · have h1 : G * (v1 * 4294967296 + v2) ≤ Q * (v1 * 4294967296 + v2) := Nat.mul_le_mul_right _ hh
    rw [Nat.mul_add, ← Nat.mul_assoc] at h1
    have h2 : (G * v1 + R) * 4294967296 = T * 4294967296 := by rw [h]
    omega
theorem gu_small {G R T v1 u1 u2 : Nat} (h : G * v1 + R = T) (hT : u1 + 4294967296 * u2 = T) (hR : 4294967296 ≤ R) (hu : u2 ≤ v1) (h1 : u1 < 4294967296) : G < 4294967296 := by
  rcases Nat.lt_or_ge G 4294967296 with hh | hh
  · exact hh
  · have : 4294967296 * v1 ≤ G * v1 := Nat.mul_le_mul_right _ hh
    omega
theorem gu_exit {G R T v1 v2 u0 : Nat} (h : G * v1 + R = T) (hle : G * v2 ≤ u0 + 4294967296 * R) : G * (v1 * 4294967296 + v2) ≤ T * 4294967296 + u0 := by
  rw [Nat.mul_add, ← Nat.mul_assoc]
  have h2 : (G * v1 + R) * 4294967296 = T * 4294967296 := by rw [h]
  omega
theorem gu_big {G v2 u0 R : Nat} (hG : G < 4294967296) (hv : v2 < 4294967296) (hR : 4294967296 ≤ R) : G * v2 ≤ u0 + 4294967296 * R := by
  have := mul_le G v2 hG hv
  omega
theorem gu_start {T v1 v2 u0 Q : Nat} (hv : 0 < v1) (h0 : u0 < 4294967296) (hQ : Q * (v1 * 4294967296 + v2) ≤ T * 4294967296 + u0) : Q ≤ T / v1 := by
  rw [Nat.le_div_iff_mul_le hv]
  rw [Nat.mul_add, ← Nat.mul_assoc] at hQ
  omega

end Go.Proofs.Ytcpeofgfppgooaa
