/-
  Plain mathematics of fractions of naturals: a fraction in lowest terms is the fraction that it was; a difference undoes a sum, a quotient a product, and a product goes over a sum. No program is in sight here; no conditions but those that each theorem names.
-/
import Derived.Test.YteicihaigkgbnaaTwo3
namespace Go.Proofs.Yteicihaigkgbnaa
open Go.RowKit

theorem red_facts (N D : Nat) (hD : D ≠ 0) : (N / Nat.gcd N D) * D = N * (D / Nat.gcd N D) ∧ D / Nat.gcd N D ≠ 0 ∧ Nat.gcd (N / Nat.gcd N D) (D / Nat.gcd N D) = 1 ∧ N / Nat.gcd N D ≤ N ∧ D / Nat.gcd N D ≤ D := by
  have hg : 0 < Nat.gcd N D := Nat.gcd_pos_of_pos_right N (by omega)
  have h1 : Nat.gcd N D * (N / Nat.gcd N D) = N := Nat.mul_div_cancel' (Nat.gcd_dvd_left N D)
  have h2 : Nat.gcd N D * (D / Nat.gcd N D) = D := Nat.mul_div_cancel' (Nat.gcd_dvd_right N D)
  refine ⟨?_, ?_, Nat.coprime_div_gcd_div_gcd hg, Nat.div_le_self _ _, Nat.div_le_self _ _⟩
  · generalize N / Nat.gcd N D = u at *
    generalize D / Nat.gcd N D = v at *
    generalize Nat.gcd N D = g at *
    subst h1 h2
    grind
  · intro e; rw [e, Nat.mul_zero] at h2; exact hD h2.symm
theorem fr_red {N D : Nat} (lN : (digs N).length ≤ 400) (lD : (digs D).length ≤ 400) (hD : D ≠ 0) : Fr (N / Nat.gcd N D) (D / Nat.gcd N D) := by
  obtain ⟨_, h2, h3, h4, h5⟩ := red_facts N D hD
  exact ⟨Nat.le_trans (len_digs_mono h4) lN, Nat.le_trans (len_digs_mono h5) lD, h2, h3⟩
theorem len_red {N D i j : Nat} (lN : (digs N).length ≤ i) (lD : (digs D).length ≤ j) : (digs (N / Nat.gcd N D)).length ≤ i ∧ (digs (D / Nat.gcd N D)).length ≤ j :=
  ⟨Nat.le_trans (len_digs_mono (Nat.div_le_self _ _)) lN, Nat.le_trans (len_digs_mono (Nat.div_le_self _ _)) lD⟩
theorem cancel {a b k : Nat} (hk : k ≠ 0) (h : a * k = b * k) : a = b := Nat.eq_of_mul_eq_mul_right (by omega) h
/-- A sum is not below what was added. -/
theorem sum_ge_part {s1 s2 x1 x2 y1 y2 : Nat} (hx : x2 ≠ 0) (hy : y2 ≠ 0) (h : s1 * (x2 * y2) = (x1 * y2 + y1 * x2) * s2) : y1 * s2 ≤ s1 * y2 := by
  have h1 : y1 * s2 * (x2 * y2) + x1 * y2 * s2 * y2 = s1 * y2 * (x2 * y2) := by grind
  have h2 : y1 * s2 * (x2 * y2) ≤ s1 * y2 * (x2 * y2) := by omega
  exact Nat.le_of_mul_le_mul_right h2 (Nat.pos_of_ne_zero (Nat.mul_ne_zero hx hy))
theorem back_eq {s1 s2 x1 x2 y1 y2 k1 k2 : Nat} (hx : x2 ≠ 0) (hy : y2 ≠ 0) (hs : s2 ≠ 0) (h : s1 * (x2 * y2) = (x1 * y2 + y1 * x2) * s2) (hk : k1 * (s2 * y2) = (s1 * y2 - y1 * s2) * k2) : k1 * x2 = x1 * k2 := by
  have hle := sum_ge_part hx hy h
  obtain ⟨D, hD⟩ : ∃ D, s1 * y2 - y1 * s2 = D := ⟨_, rfl⟩
  have hD' : D + y1 * s2 = s1 * y2 := by omega
  rw [hD] at hk
  have h1 : (k1 * x2) * (s2 * y2 * y2) = (x1 * k2) * (s2 * y2 * y2) := by grind
  exact cancel (Nat.mul_ne_zero (Nat.mul_ne_zero hs hy) hy) h1
theorem dist_eq {l1 l2 s1 s2 z1 z2 x1 x2 y1 y2 p1 p2 q1 q2 r1 r2 : Nat} (hx : x2 ≠ 0) (hy : y2 ≠ 0) (hz : z2 ≠ 0) (hs : s2 ≠ 0) (hp : p2 ≠ 0) (hq : q2 ≠ 0) (h1 : s1 * (x2 * y2) = (x1 * y2 + y1 * x2) * s2) (h2 : l1 * (s2 * z2) = (s1 * z1) * l2)
    (h3 : p1 * (x2 * z2) = (x1 * z1) * p2) (h4 : q1 * (y2 * z2) = (y1 * z1) * q2) (h5 : r1 * (p2 * q2) = (p1 * q2 + q1 * p2) * r2) : l1 * r2 = r1 * l2 := by
  have h6 : (l1 * r2) * (s2 * z2 * z2 * x2 * y2 * p2 * q2) = (r1 * l2) * (s2 * z2 * z2 * x2 * y2 * p2 * q2) := by grind
  exact cancel (Nat.mul_ne_zero (Nat.mul_ne_zero (Nat.mul_ne_zero (Nat.mul_ne_zero (Nat.mul_ne_zero (Nat.mul_ne_zero hs hz) hz) hx) hy) hp) hq) h6
theorem again_eq {p1 p2 x1 x2 z1 z2 t1 t2 : Nat} (hp : p2 ≠ 0) (hz : z1 ≠ 0) (h3 : p1 * (x2 * z2) = (x1 * z1) * p2) (h6 : t1 * (p2 * z1) = (p1 * z2) * t2) : t1 * x2 = x1 * t2 := by
  have h7 : (t1 * x2) * (p2 * z1) = (x1 * t2) * (p2 * z1) := by grind
  exact cancel (Nat.mul_ne_zero hp hz) h7
/-- A call with two fractions, which gives a fraction and an error number. -/
def Bin (f : Nat) (a1 a2 b1 b2 : Nat) (rs ts : List Nat) (k : Int) : Prop :=
  ∀ W X n c X' n' c' Y m d Y' m' d', Rd W X n c (digs a1) → Rd W X' n' c' (digs a2) → Rd W Y m d (digs b1) → Rd W Y' m' d' (digs b2) →
    Calls Try.prog f #[.agg #[.slice X n c, .slice X' n' c'], .agg #[.slice Y m d, .slice Y' m' d']] W (RdR2 W rs ts k)
/-- A call with two fractions, which gives an integer. -/
def BinZ (f : Nat) (a1 a2 b1 b2 : Nat) (z : Int) : Prop :=
  ∀ W X n c X' n' c' Y m d Y' m' d', Rd W X n c (digs a1) → Rd W X' n' c' (digs a2) → Rd W Y m d (digs b1) → Rd W Y' m' d' (digs b2) →
    Calls Try.prog f #[.agg #[.slice X n c, .slice X' n' c'], .agg #[.slice Y m d, .slice Y' m' d']] W fun e w' => e = .returned (.int .i64 z) ∧ Below W.heap.size W w'
section
variable {p q r s : Nat}
theorem bin_add (h1 : Fr p q) (h2 : Fr r s) (l1 : (digs (p * s)).length ≤ 400) (l2 : (digs (r * q)).length ≤ 400) (l3 : (digs (q * s)).length ≤ 400) (l4 : (digs (p * s + r * q)).length ≤ 400) :
    Bin 18 p q r s (digs ((p * s + r * q) / Nat.gcd (p * s + r * q) (q * s))) (digs (q * s / Nat.gcd (p * s + r * q) (q * s))) 0 := fun W X n c X' n' c' Y m d Y' m' d' g1 g2 g3 g4 => by
  have h := radd_any2 X X' Y Y' n c n' c' m d m' d' p q r s W g1 g2 g3 g4 h1 h2
  have e : addF p q r s = (digs ((p * s + r * q) / Nat.gcd (p * s + r * q) (q * s)), digs (q * s / Nat.gcd (p * s + r * q) (q * s)), 0) := by unfold addF; rw [if_pos ⟨l1, l2, l3⟩, if_pos l4]
  rw [e] at h
  exact h.mono fun _ _ k => k.rd
theorem bin_sub (h1 : Fr p q) (h2 : Fr r s) (l1 : (digs (p * s)).length ≤ 400) (l2 : (digs (r * q)).length ≤ 400) (l3 : (digs (q * s)).length ≤ 400) (l4 : r * q ≤ p * s) :
    Bin 20 p q r s (digs ((p * s - r * q) / Nat.gcd (p * s - r * q) (q * s))) (digs (q * s / Nat.gcd (p * s - r * q) (q * s))) 0 := fun W X n c X' n' c' Y m d Y' m' d' g1 g2 g3 g4 => by
  have h := rsub_any2 X X' Y Y' n c n' c' m d m' d' p q r s W g1 g2 g3 g4 h1 h2
  have e : subF p q r s = (digs ((p * s - r * q) / Nat.gcd (p * s - r * q) (q * s)), digs (q * s / Nat.gcd (p * s - r * q) (q * s)), 0) := by unfold subF; rw [if_pos ⟨l1, l2, l3⟩, if_neg (by omega)]
  rw [e] at h
  exact h.mono fun _ _ k => k.rd
theorem bin_mul (h1 : Fr p q) (h2 : Fr r s) (l1 : (digs (p * r)).length ≤ 400) (l2 : (digs (q * s)).length ≤ 400) :
    Bin 26 p q r s (digs (p * r / Nat.gcd (p * r) (q * s))) (digs (q * s / Nat.gcd (p * r) (q * s))) 0 := fun W X n c X' n' c' Y m d Y' m' d' g1 g2 g3 g4 =>
  (rmul_yes X X' Y Y' n c n' c' m d m' d' p q r s W g1 g2 g3 g4 h1 h2 l1 l2).mono fun _ _ k => k.rd
theorem bin_mul_long (h1 : Fr p q) (h2 : Fr r s) (hl : 400 < (digs (p * r)).length ∨ 400 < (digs (q * s)).length) :
    Bin 26 p q r s [] [] 4 := fun W X n c X' n' c' Y m d Y' m' d' g1 g2 g3 g4 =>
  (rmul_long X X' Y Y' n c n' c' m d m' d' p q r s W g1 g2 g3 g4 h1 h2 hl).mono fun _ _ k => k.rd
theorem bin_div (h1 : Fr p q) (h2 : Fr r s) (hr : r ≠ 0) (l1 : (digs (p * s)).length ≤ 400) (l2 : (digs (q * r)).length ≤ 400) :
    Bin 28 p q r s (digs (p * s / Nat.gcd (p * s) (q * r))) (digs (q * r / Nat.gcd (p * s) (q * r))) 0 := fun W X n c X' n' c' Y m d Y' m' d' g1 g2 g3 g4 =>
  (rdiv_yes X X' Y Y' n c n' c' m d m' d' p q r s W g1 g2 g3 g4 h1 h2 hr l1 l2).mono fun _ _ k => k.rd
theorem bin_div_long (h1 : Fr p q) (h2 : Fr r s) (hr : r ≠ 0) (hl : 400 < (digs (p * s)).length ∨ 400 < (digs (q * r)).length) :
    Bin 28 p q r s [] [] 4 := fun W X n c X' n' c' Y m d Y' m' d' g1 g2 g3 g4 =>
  (rdiv_long X X' Y Y' n c n' c' m d m' d' p q r s W g1 g2 g3 g4 h1 h2 hr hl).mono fun _ _ k => k.rd
theorem bin_cmp (h1 : Fr p q) (h2 : Fr r s) (l1 : (digs (p * s)).length ≤ 400) (l2 : (digs (r * q)).length ≤ 400) :
    BinZ 24 p q r s (cmpN (p * s) (r * q)) := fun W X n c X' n' c' Y m d Y' m' d' g1 g2 g3 g4 =>
  rcmp_yes2 X X' Y Y' n c n' c' m d m' d' p q r s W g1 g2 g3 g4 h1 h2 l1 l2
theorem bin_cmp_long (h1 : Fr p q) (h2 : Fr r s) (hl : 400 < (digs (p * s)).length ∨ 400 < (digs (r * q)).length) :
    BinZ 24 p q r s 0 := fun W X n c X' n' c' Y m d Y' m' d' g1 g2 g3 g4 =>
  rcmp_long2 X X' Y Y' n c n' c' m d m' d' p q r s W g1 g2 g3 g4 h1 h2 hl
end
end Go.Proofs.Yteicihaigkgbnaa
