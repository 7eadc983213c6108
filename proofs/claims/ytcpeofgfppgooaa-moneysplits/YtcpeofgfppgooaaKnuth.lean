/-
  Plain mathematics of the long division: what a guess from the highest limbs is worth, and what one step leaves. No program is in sight here.
-/
import Derived.Test.YtcpeofgfppgooaaBase
namespace Go.Proofs.Ytcpeofgfppgooaa

theorem knuth_lo {p U V T D ul vl Q : Nat} (hU : U = ul + p * T) (hul : ul < p) (hV : V = vl + p * D) (hQ : Q * V ≤ U) : Q * D ≤ T := by
  have h1 : p * (Q * D) ≤ Q * V := by rw [hV, Nat.mul_add, Nat.mul_left_comm]; omega
  have h2 : p * (Q * D) < p * (T + 1) := by rw [Nat.mul_add]; omega
  have := Nat.lt_of_mul_lt_mul_left h2
  omega
theorem knuth_hi {p U V T D ul vl G : Nat} (hU : U = ul + p * T) (hV : V = vl + p * D) (hvl : vl < p) (hG : G ≤ D) (hGD : G * D ≤ T) : G * V ≤ U + V := by
  have h1 : G * V = G * vl + p * (G * D) := by rw [hV, Nat.mul_add, Nat.mul_left_comm p]
  have h2 : p * (G * D) ≤ p * T := Nat.mul_le_mul_left _ hGD
  have h3 : G * vl ≤ D * p := Nat.mul_le_mul hG (by omega)
  rw [Nat.mul_comm D p] at h3
  omega
theorem knuth_top {p U V u2 v1 r vl v2 : Nat} (hU : U = r + p * (4294967296 * 4294967296) * u2) (hV : V = vl + p * (v1 * 4294967296 + v2)) (hvl : vl < p) (hv2 : v2 < 4294967296) (h : U < V * 4294967296) : u2 ≤ v1 := by
  rcases Nat.lt_or_ge v1 u2 with hh | hh
  · exfalso
    have h1 : p * (4294967296 * 4294967296) * (v1 + 1) ≤ p * (4294967296 * 4294967296) * u2 := Nat.mul_le_mul_left _ hh
    have h2 : V + 1 ≤ p * ((v1 + 1) * 4294967296) := by
      have : p * (v1 * 4294967296 + v2 + 1) ≤ p * ((v1 + 1) * 4294967296) := Nat.mul_le_mul_left _ (by omega)
      rw [Nat.mul_add p _ 1] at this
      omega
    have h3 : p * ((v1 + 1) * 4294967296) * 4294967296 = p * (4294967296 * 4294967296) * (v1 + 1) := by
      rw [Nat.mul_assoc, Nat.mul_assoc, Nat.mul_assoc p, Nat.mul_comm (v1 + 1)]
    have h4 : (V + 1) * 4294967296 ≤ p * ((v1 + 1) * 4294967296) * 4294967296 := Nat.mul_le_mul_right _ h2
    omega
  · exact hh
/-- The guess is the quotient, or one more. -/
theorem knuth_guess {U V G : Nat} (hV : 0 < V) (hlo : U / V ≤ G) (hhi : G * V ≤ U + V) : G = U / V ∨ G = U / V + 1 := by
  have h1 : (G - 1) * V ≤ U := by
    rcases Nat.eq_zero_or_pos G with e | e
    · subst e; simp
    · have : G * V = (G - 1) * V + V := by rw [← Nat.succ_mul]; congr 1; omega
      omega
  have := (Nat.le_div_iff_mul_le hV).2 h1
  omega
theorem val_three (us : List Nat) (n : Nat) (hn : 2 ≤ n) (h : us.length = n + 1) :
    val us = val (us.take (n - 2)) + pw (n - 2) * ((el us n * 4294967296 + el us (n - 1)) * 4294967296 + el us (n - 2)) := by
  have h1 := val_take_step us n
  have h2 := val_take_step us (n - 1)
  have h3 := val_take_step us (n - 2)
  rw [show n - 1 + 1 = n by omega] at h2
  rw [show n - 2 + 1 = n - 1 by omega] at h3
  rw [val_take_ge us _ (by omega)] at h1
  have p1 : pw (n - 1) = pw (n - 2) * 4294967296 := by rw [show n - 1 = n - 2 + 1 by omega, pw_succ, Nat.mul_comm]
  have p2 : pw n = pw (n - 2) * 4294967296 * 4294967296 := by rw [← p1, show n = n - 1 + 1 by omega, pw_succ, Nat.mul_comm]; rfl
  have e : (el us n * 4294967296 + el us (n - 1)) * 4294967296 + el us (n - 2) = 4294967296 * 4294967296 * el us n + (4294967296 * el us (n - 1) + el us (n - 2)) := by omega
  rw [h1, h2, h3, p1, p2, e, Nat.mul_add, Nat.mul_add, Nat.mul_assoc (pw (n - 2)), Nat.mul_assoc (pw (n - 2)), Nat.mul_assoc (pw (n - 2))]
  omega
theorem val_two (es : List Nat) (n : Nat) (hn : 2 ≤ n) : val (es.take n) = val (es.take (n - 2)) + pw (n - 2) * (el es (n - 1) * 4294967296 + el es (n - 2)) := by
  have h2 := val_take_step es (n - 1)
  have h3 := val_take_step es (n - 2)
  rw [show n - 1 + 1 = n by omega] at h2
  rw [show n - 2 + 1 = n - 1 by omega] at h3
  have p1 : pw (n - 1) = pw (n - 2) * 4294967296 := by rw [show n - 1 = n - 2 + 1 by omega, pw_succ, Nat.mul_comm]
  rw [h2, h3, p1, Nat.mul_add, Nat.mul_assoc, Nat.mul_comm 4294967296 (el es (n - 1))]
  omega
theorem val_take_lt {xs : List Nat} (h : Lim xs) (k : Nat) : val (xs.take k) < pw k := by
  have := val_lt (Lim_take h k)
  exact Nat.lt_of_lt_of_le this (pw_le (List.length_take_le _ _))
/-- All that one step of the long division wants of its guess. -/
theorem knuth_all (us es : List Nat) (n V : Nat) (hn : 2 ≤ n) (hul : us.length = n + 1) (huL : Lim us) (heL : Lim es) (hV : val (es.take n) = V) (hv1 : 0 < el es (n - 1)) (hlt : val us < V * 4294967296) :
    el us n ≤ el es (n - 1) ∧ val us / V < 4294967296 ∧
    val us / V * (el es (n - 1) * 4294967296 + el es (n - 2)) ≤ (el us n * 4294967296 + el us (n - 1)) * 4294967296 + el us (n - 2) ∧
    ∀ G, val us / V ≤ G → G < 4294967296 → G * (el es (n - 1) * 4294967296 + el es (n - 2)) ≤ (el us n * 4294967296 + el us (n - 1)) * 4294967296 + el us (n - 2) → G = val us / V ∨ G = val us / V + 1 := by
  have h1 := val_three us n hn hul
  have h2 := val_two es n hn
  have l1 := val_take_lt huL (n - 2)
  have l2 := val_take_lt heL (n - 2)
  have v2 := el_lt heL (n - 2)
  rw [hV] at h2
  have hVp : 0 < V := by
    have : 0 < pw (n - 2) * (el es (n - 1) * 4294967296 + el es (n - 2)) := Nat.mul_pos (pw_pos _) (by omega)
    omega
  refine ⟨?_, ?_, ?_, ?_⟩
  · have e : (el us n * 4294967296 + el us (n - 1)) * 4294967296 + el us (n - 2) = 4294967296 * 4294967296 * el us n + (el us (n - 1) * 4294967296 + el us (n - 2)) := by omega
    refine knuth_top (p := pw (n - 2)) (r := val (us.take (n - 2)) + pw (n - 2) * (el us (n - 1) * 4294967296 + el us (n - 2))) ?_ h2 l2 v2 hlt
    rw [h1, e, Nat.mul_add, Nat.mul_assoc (pw (n - 2))]
    omega
  · rw [Nat.div_lt_iff_lt_mul hVp, Nat.mul_comm]; exact hlt
  · exact knuth_lo h1 l1 h2 (Nat.div_mul_le_self _ _)
  · intro G g1 g2 g3
    exact knuth_guess hVp g1 (knuth_hi h1 h2 l2 (by omega) g3)
/-- What a step leaves where the guess was right. -/
theorem step_right {U V W P bo : Nat} (hVp : 0 < V) (hW : W < P) (hbo : bo ≤ 1) (h : W + U / V * V = U + P * bo) : bo = 0 ∧ W = U % V := by
  have h1 := Nat.div_add_mod U V
  rw [Nat.mul_comm] at h1
  have h2 := Nat.mod_lt U hVp
  rcases Nat.eq_zero_or_pos bo with e | e
  · subst e; omega
  · obtain rfl : bo = 1 := by omega
    omega
/-- What it leaves where the guess was one too great, and what was taken is put back. -/
theorem step_over {U V W P bo : Nat} (hlt : V < P) (hVp : 0 < V) (hbo : bo ≤ 1) (h : W + (U / V + 1) * V = U + P * bo) : bo = 1 ∧ ∀ W' k, W' < P → W' + P * k = W + V → W' = U % V := by
  have h1 := Nat.div_add_mod U V
  rw [Nat.mul_comm] at h1
  have h2 := Nat.mod_lt U hVp
  rw [Nat.add_mul, Nat.one_mul] at h
  rcases Nat.eq_zero_or_pos bo with e | e
  · subst e; omega
  · obtain rfl : bo = 1 := by omega
    refine ⟨rfl, fun W' k hW' hk => ?_⟩
    rcases Nat.lt_or_ge k 1 with hk1 | hk1
    · obtain rfl : k = 0 := by omega
      omega
    · rcases Nat.lt_or_ge k 2 with hk2 | hk2
      · obtain rfl : k = 1 := by omega
        omega
      · have : P * 2 ≤ P * k := Nat.mul_le_mul_left _ hk2
        omega
/-- A divisor that is shifted until its highest bit is set. -/
theorem norm_V {ys : List Nat} {n s : Nat} (hl : Lim ys) (hlen : ys.length = n) (hn : 1 ≤ n) (hs : s ≤ 31) (h1 : 2147483648 ≤ el ys (n - 1) * 2 ^ s) (h2 : el ys (n - 1) * 2 ^ s < 4294967296) :
    2147483648 * pw (n - 1) ≤ val ys * 2 ^ s ∧ val ys * 2 ^ s < pw n := by
  have h3 := val_take_step ys (n - 1)
  rw [show n - 1 + 1 = n by omega, val_take_ge ys n (by omega)] at h3
  have h4 := val_take_lt hl (n - 1)
  have hp : 2 ^ s * 2 ^ (32 - s) = 4294967296 := by rw [← Nat.pow_add, show s + (32 - s) = 32 by omega]
  have h5 : el ys (n - 1) + 1 ≤ 2 ^ (32 - s) := by
    rw [← hp, Nat.mul_comm] at h2
    exact Nat.lt_of_mul_lt_mul_left h2
  constructor
  · have h6 := Nat.mul_le_mul_left (pw (n - 1)) h1
    have h7 : pw (n - 1) * (el ys (n - 1) * 2 ^ s) ≤ val ys * 2 ^ s := by
      rw [← Nat.mul_assoc]; exact Nat.mul_le_mul_right _ (by omega)
    rw [Nat.mul_comm]; omega
  · have h6 : val ys < pw (n - 1) * (el ys (n - 1) + 1) := by rw [Nat.mul_add]; omega
    have h7 : pw (n - 1) * (el ys (n - 1) + 1) * 2 ^ s ≤ pw n := by
      have h8 : pw n = pw (n - 1) * (2 ^ (32 - s) * 2 ^ s) := by rw [Nat.mul_comm (2 ^ (32 - s)), hp, Nat.mul_comm, ← pw_succ, show n - 1 + 1 = n by omega]
      rw [h8, Nat.mul_assoc]
      exact Nat.mul_le_mul_left _ (Nat.mul_le_mul_right _ h5)
    exact Nat.lt_of_lt_of_le (Nat.mul_lt_mul_of_pos_right h6 (Nat.two_pow_pos s)) h7
theorem norm_N {N V na n s x : Nat} (hN : N = x * 2 ^ s) (hx : x < pw na) (hs : s ≤ 31) (hn : 1 ≤ n) (hnn : n ≤ na) (hV : 2147483648 * pw (n - 1) ≤ V) : N < V * pw (na - n + 1) := by
  have hp : 2 ^ s ≤ 2147483648 := Nat.le_trans (Nat.pow_le_pow_right (by omega) hs) (by decide)
  have h1 : N < pw na * 2147483648 := by
    rw [hN]
    exact Nat.lt_of_lt_of_le (Nat.mul_lt_mul_of_pos_right hx (Nat.two_pow_pos s)) (Nat.mul_le_mul_left _ hp)
  have h2 := Nat.mul_le_mul_right (pw (na - n + 1)) hV
  rw [Nat.mul_assoc, ← pw_add, show n - 1 + (na - n + 1) = na by omega, Nat.mul_comm] at h2
  omega
theorem el_zero_of_lt {es : List Nat} {n : Nat} (h : val es < pw n) : val (es.take n) = val es ∧ val (es.drop n) = 0 := by
  rcases Nat.lt_or_ge es.length n with hl | hl
  · rw [val_take_ge es n (by omega), List.drop_of_length_le (by omega)]; exact ⟨rfl, rfl⟩
  · have h1 := val_take_drop es n hl
    have h2 : val (es.drop n) = 0 := by
      rcases Nat.eq_zero_or_pos (val (es.drop n)) with e | e
      · exact e
      · have : pw n * 1 ≤ pw n * val (es.drop n) := Nat.mul_le_mul_left _ e
        omega
    rw [h2] at h1
    omega
theorem top_pos {es : List Nat} {n V : Nat} (hL : Lim es) (hn : 1 ≤ n) (hV : val (es.take n) = V) (h : 2147483648 * pw (n - 1) ≤ V) : 0 < el es (n - 1) := by
  have h3 := val_take_step es (n - 1)
  rw [show n - 1 + 1 = n by omega] at h3
  have h4 := val_take_lt hL (n - 1)
  have h5 := pw_pos (n - 1)
  rcases Nat.eq_zero_or_pos (el es (n - 1)) with e | e
  · rw [e] at h3; omega
  · exact e
end Go.Proofs.Ytcpeofgfppgooaa
