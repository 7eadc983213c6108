/-
  Plain mathematics of Euclid's algorithm in Lehmer's form: what the highest bits of two numbers tell of its steps. No program is in sight here.
-/
import Derived.Test.YteicihaigkgbnaaBase
namespace Go.Proofs.Yteicihaigkgbnaa

/-- If the highest bits show m times the one and D more to be k times the other, D not below m, then m times the one is less than k times the other. -/
theorem top_lt {a b S X Y P α β m k D : Nat} (ha : a * S = X * P + α) (hb : b * S = Y * P + β) (hα : α < P) (h : D + m * X = k * Y) (hD : m ≤ D) (hD1 : 1 ≤ D) : m * a < k * b := by
  have h1 : k * (b * S) = k * (Y * P) + k * β := by rw [hb, Nat.mul_add]
  have h2 : m * (a * S) = m * (X * P) + m * α := by rw [ha, Nat.mul_add]
  have h3 : k * (Y * P) = (D + m * X) * P := by rw [h, Nat.mul_assoc]
  rw [Nat.add_mul, Nat.mul_assoc] at h3
  have h4 : m * α < D * P := by
    rcases Nat.eq_zero_or_pos m with e | e
    · subst e; rw [Nat.zero_mul]; exact Nat.mul_pos hD1 (by omega)
    · exact Nat.lt_of_lt_of_le (Nat.mul_lt_mul_of_pos_left hα e) (Nat.mul_le_mul_right _ hD)
  have h5 : (m * a) * S < (k * b) * S := by rw [Nat.mul_assoc, Nat.mul_assoc]; omega
  exact Nat.lt_of_mul_lt_mul_right h5

/-- What some steps make of a and b: R0 and R1. -/
def Pkg (a b a0 b0 a1 b1 R0 R1 : Nat) (ev : Bool) : Prop :=
  R1 < R0 ∧ 0 < R1 ∧ R1 ≤ b ∧ (b0 ≠ 0 → R1 < b) ∧
    (ev = true → a0 * b1 = a1 * b0 + 1 ∧ R0 + b0 * b = a0 * a ∧ R1 + a1 * a = b1 * b) ∧
    (ev = false → a1 * b0 = a0 * b1 + 1 ∧ R0 + a0 * a = b0 * b ∧ R1 + b1 * b = a1 * a)
theorem Pkg.combo {a b a0 b0 a1 b1 R0 R1 : Nat} {ev : Bool} (h : Pkg a b a0 b0 a1 b1 R0 R1 ev) : a = b1 * R0 + b0 * R1 ∧ b = a1 * R0 + a0 * R1 := by
  obtain ⟨_, _, _, _, ht, hf⟩ := h
  cases ev with
  | true =>
    obtain ⟨h1, h2, h3⟩ := ht rfl
    have e1 : b1 * (R0 + b0 * b) = b1 * (a0 * a) := by rw [h2]
    have e2 : b0 * (R1 + a1 * a) = b0 * (b1 * b) := by rw [h3]
    have e3 : a1 * (R0 + b0 * b) = a1 * (a0 * a) := by rw [h2]
    have e4 : a0 * (R1 + a1 * a) = a0 * (b1 * b) := by rw [h3]
    have d1 : (a0 * b1) * a = (a1 * b0) * a + a := by rw [h1, Nat.add_mul, Nat.one_mul]
    have d2 : (a0 * b1) * b = (a1 * b0) * b + b := by rw [h1, Nat.add_mul, Nat.one_mul]
    rw [Nat.mul_add] at e1 e2 e3 e4
    have f1 : b1 * (a0 * a) = (a0 * b1) * a := by rw [Nat.mul_left_comm, ← Nat.mul_assoc]
    have f2 : b0 * (a1 * a) = (a1 * b0) * a := by rw [Nat.mul_left_comm, ← Nat.mul_assoc]
    have f3 : b1 * (b0 * b) = b0 * (b1 * b) := Nat.mul_left_comm _ _ _
    have f4 : a0 * (b1 * b) = (a0 * b1) * b := (Nat.mul_assoc _ _ _).symm
    have f5 : a1 * (b0 * b) = (a1 * b0) * b := (Nat.mul_assoc _ _ _).symm
    have f6 : a0 * (a1 * a) = a1 * (a0 * a) := Nat.mul_left_comm _ _ _
    constructor <;> omega
  | false =>
    obtain ⟨h1, h2, h3⟩ := hf rfl
    have e1 : b1 * (R0 + a0 * a) = b1 * (b0 * b) := by rw [h2]
    have e2 : b0 * (R1 + b1 * b) = b0 * (a1 * a) := by rw [h3]
    have e3 : a1 * (R0 + a0 * a) = a1 * (b0 * b) := by rw [h2]
    have e4 : a0 * (R1 + b1 * b) = a0 * (a1 * a) := by rw [h3]
    have d1 : (a1 * b0) * a = (a0 * b1) * a + a := by rw [h1, Nat.add_mul, Nat.one_mul]
    have d2 : (a1 * b0) * b = (a0 * b1) * b + b := by rw [h1, Nat.add_mul, Nat.one_mul]
    rw [Nat.mul_add] at e1 e2 e3 e4
    have f1 : b1 * (a0 * a) = (a0 * b1) * a := by rw [Nat.mul_left_comm, ← Nat.mul_assoc]
    have f2 : b0 * (a1 * a) = (a1 * b0) * a := by rw [Nat.mul_left_comm, ← Nat.mul_assoc]
    have f3 : b1 * (b0 * b) = b0 * (b1 * b) := Nat.mul_left_comm _ _ _
    have f4 : a0 * (b1 * b) = (a0 * b1) * b := (Nat.mul_assoc _ _ _).symm
    have f5 : a1 * (b0 * b) = (a1 * b0) * b := (Nat.mul_assoc _ _ _).symm
    have f6 : a0 * (a1 * a) = a1 * (a0 * a) := Nat.mul_left_comm _ _ _
    constructor <;> omega
theorem dvd_of_add {d x y z : Nat} (h : x + y = z) (hy : d ∣ y) (hz : d ∣ z) : d ∣ x := by
  rw [← h] at hz
  exact (Nat.dvd_add_iff_left hy).2 hz
theorem Pkg.gcd {a b a0 b0 a1 b1 R0 R1 : Nat} {ev : Bool} (h : Pkg a b a0 b0 a1 b1 R0 R1 ev) : Nat.gcd R0 R1 = Nat.gcd a b := by
  have hc := h.combo
  obtain ⟨_, _, _, _, ht, hf⟩ := h
  apply Nat.dvd_antisymm
  · apply Nat.dvd_gcd
    · rw [hc.1]; exact Nat.dvd_add (Nat.dvd_mul_left_of_dvd (Nat.gcd_dvd_left _ _) _) (Nat.dvd_mul_left_of_dvd (Nat.gcd_dvd_right _ _) _)
    · rw [hc.2]; exact Nat.dvd_add (Nat.dvd_mul_left_of_dvd (Nat.gcd_dvd_left _ _) _) (Nat.dvd_mul_left_of_dvd (Nat.gcd_dvd_right _ _) _)
  · cases ev with
    | true =>
      obtain ⟨_, h2, h3⟩ := ht rfl
      exact Nat.dvd_gcd (dvd_of_add h2 (Nat.dvd_mul_left_of_dvd (Nat.gcd_dvd_right _ _) _) (Nat.dvd_mul_left_of_dvd (Nat.gcd_dvd_left _ _) _)) (dvd_of_add h3 (Nat.dvd_mul_left_of_dvd (Nat.gcd_dvd_left _ _) _) (Nat.dvd_mul_left_of_dvd (Nat.gcd_dvd_right _ _) _))
    | false =>
      obtain ⟨_, h2, h3⟩ := hf rfl
      exact Nat.dvd_gcd (dvd_of_add h2 (Nat.dvd_mul_left_of_dvd (Nat.gcd_dvd_left _ _) _) (Nat.dvd_mul_left_of_dvd (Nat.gcd_dvd_right _ _) _)) (dvd_of_add h3 (Nat.dvd_mul_left_of_dvd (Nat.gcd_dvd_right _ _) _) (Nat.dvd_mul_left_of_dvd (Nat.gcd_dvd_left _ _) _))
theorem Pkg.le {a b a0 b0 a1 b1 R0 R1 : Nat} {ev : Bool} (h : Pkg a b a0 b0 a1 b1 R0 R1 ev) (hb1 : 1 ≤ b1) : R0 ≤ a := by
  have := h.combo.1
  have h2 : 1 * R0 ≤ b1 * R0 := Nat.mul_le_mul_right _ hb1
  omega

/-- What the highest bits tell: x and y of X and Y, by the factors. -/
def Sim (X Y x y a1 b1 a2 b2 : Nat) (ev : Bool) : Prop :=
  b2 * x + b1 * y = X ∧ y ≤ x ∧ 1 ≤ b2 ∧ a2 ≤ b2 ∧ a1 + a2 ≤ b1 + b2 ∧
    (ev = false → x + b1 * Y = a1 * X ∧ y + a2 * X = b2 * Y ∧ a1 * b2 = a2 * b1 + 1) ∧
    (ev = true → x + a1 * X = b1 * Y ∧ y + b2 * Y = a2 * X ∧ a2 * b1 = a1 * b2 + 1)
theorem Sim.start {X Y : Nat} (h : Y ≤ X) : Sim X Y X Y 1 0 0 1 false :=
  ⟨by omega, h, by omega, by omega, by omega, fun _ => ⟨by omega, by omega, by omega⟩, fun e => by cases e⟩
theorem sim_bounds {X Y x y a1 b1 a2 b2 : Nat} {ev : Bool} (h : Sim X Y x y a1 b1 a2 b2 ev) (hX : X < 18446744073709551616) (h1 : b2 ≤ y) : b2 < 4294967296 ∧ a2 < 4294967296 ∧ 0 < y := by
  obtain ⟨e1, e2, e3, e4, _⟩ := h
  have h2 : b2 * b2 ≤ b2 * x := Nat.mul_le_mul_left _ (by omega)
  have h3 : b2 < 4294967296 := by
    rcases Nat.lt_or_ge b2 4294967296 with hh | hh
    · exact hh
    · have : 4294967296 * 4294967296 ≤ b2 * b2 := Nat.mul_le_mul hh hh
      omega
  omega
/-- One step more. -/
theorem Sim.next {X Y x y a1 b1 a2 b2 : Nat} {ev : Bool} (h : Sim X Y x y a1 b1 a2 b2 ev) (h1 : b2 ≤ y) : Sim X Y y (x % y) a2 b2 (a1 + x / y * a2) (b1 + x / y * b2) (!ev) := by
  obtain ⟨e1, e2, e3, e4, e5, hf, ht⟩ := h
  have hdm := Nat.div_add_mod x y
  have hml := Nat.mod_lt x (show 0 < y by omega)
  have hq : 1 ≤ x / y := by rw [Nat.le_div_iff_mul_le (by omega)]; omega
  generalize x / y = q at *
  generalize x % y = r at *
  have hx : x = y * q + r := by omega
  have e6 : q * a2 + (q - 1) * (b2 - a2) ≤ q * b2 := by
    have : q * b2 = q * a2 + q * (b2 - a2) := by rw [← Nat.mul_add]; congr 1; omega
    have h2 : (q - 1) * (b2 - a2) ≤ q * (b2 - a2) := Nat.mul_le_mul_right _ (by omega)
    omega
  have e7 : q * a2 + (b2 - a2) ≤ q * b2 := by
    have : q * b2 = q * a2 + q * (b2 - a2) := by rw [← Nat.mul_add]; congr 1; omega
    have h2 : 1 * (b2 - a2) ≤ q * (b2 - a2) := Nat.mul_le_mul_right _ hq
    omega
  refine ⟨?_, by omega, ?_, by omega, by omega, ?_, ?_⟩
  · rw [← e1, hx, Nat.add_mul, Nat.mul_add, Nat.mul_comm y q, ← Nat.mul_assoc, Nat.mul_comm b2 q]; omega
  · have : 1 * b2 ≤ q * b2 := Nat.mul_le_mul_right _ hq
    omega
  · intro hev
    have hev' : ev = true := by cases ev with | true => rfl | false => cases hev
    obtain ⟨g1, g2, g3⟩ := ht hev'
    refine ⟨g2, ?_, ?_⟩
    · have k1 : q * (y + b2 * Y) = q * (a2 * X) := by rw [g2]
      rw [Nat.mul_add] at k1
      rw [Nat.add_mul, Nat.add_mul, Nat.mul_assoc, Nat.mul_assoc]
      rw [hx, Nat.mul_comm y q] at g1
      omega
    · rw [Nat.mul_add, Nat.add_mul, Nat.mul_left_comm a2, Nat.mul_assoc]; omega
  · intro hev
    have hev' : ev = false := by cases ev with | true => cases hev | false => rfl
    obtain ⟨g1, g2, g3⟩ := hf hev'
    refine ⟨g2, ?_, ?_⟩
    · have k1 : q * (y + a2 * X) = q * (b2 * Y) := by rw [g2]
      rw [Nat.mul_add] at k1
      rw [Nat.add_mul, Nat.add_mul, Nat.mul_assoc, Nat.mul_assoc]
      rw [hx, Nat.mul_comm y q] at g1
      omega
    · rw [Nat.add_mul, Nat.mul_add, Nat.mul_left_comm a2, Nat.mul_assoc]; omega

/-- The steps that were made so far, of the whole numbers: none, or some with what they make. -/
def Fs (a b a0 b0 a1 b1 a2 b2 : Nat) (ev : Bool) : Prop :=
  (a0 = 0 ∧ b0 = 0 ∧ a1 = 1 ∧ b1 = 0 ∧ a2 = 0 ∧ b2 = 1 ∧ ev = false) ∨
    ∃ R0 R1, Pkg a b a0 b0 a1 b1 R0 R1 ev ∧ 1 ≤ b1 ∧ a0 < 4294967296 ∧ b0 < 4294967296 ∧ a1 < 4294967296 ∧ b1 < 4294967296
theorem pkg_next {a b S X Y P α β x y a1 b1 a2 b2 R1 : Nat} {ev : Bool} (ha : a * S = X * P + α) (hb : b * S = Y * P + β) (hα : α < P) (hβ : β < P) (h : Sim X Y x y a1 b1 a2 b2 ev) (h1 : b2 ≤ y) (h2 : b1 + b2 ≤ x - y)
    (hf : ev = false → R1 + b1 * b = a1 * a) (ht : ev = true → R1 + a1 * a = b1 * b) (hR : R1 ≤ b ∨ (b1 = 0 ∧ a2 = 0 ∧ b2 = 1 ∧ ev = false)) : ∃ R2, Pkg a b a1 b1 a2 b2 R1 R2 (!ev) := by
  obtain ⟨_, e2, e3, e4, e5, sf, st⟩ := h
  cases ev with
  | false =>
    obtain ⟨g1, g2, g3⟩ := sf rfl
    have k := hf rfl
    have E1 : a2 * a < b2 * b := top_lt ha hb hα g2 (by omega) (by omega)
    have E2 : (b1 + b2) * b < (a1 + a2) * a := by
      refine top_lt (D := x - y) hb ha hβ ?_ h2 (by omega)
      rw [Nat.add_mul, Nat.add_mul]; omega
    rw [Nat.add_mul, Nat.add_mul] at E2
    refine ⟨b2 * b - a2 * a, by omega, by omega, ?_, ?_, fun _ => ⟨g3, k, by omega⟩, fun e => by cases e⟩
    · rcases hR with hR | ⟨r1, r2, r3, _⟩
      · omega
      · subst r2 r3; omega
    · intro hb0
      rcases hR with hR | ⟨r1, _⟩
      · omega
      · exact absurd r1 hb0
  | true =>
    obtain ⟨g1, g2, g3⟩ := st rfl
    have k := ht rfl
    have E1 : b2 * b < a2 * a := top_lt hb ha hβ g2 (by omega) (by omega)
    have E2 : (a1 + a2) * a < (b1 + b2) * b := by
      refine top_lt (D := x - y) ha hb hα ?_ (by omega) (by omega)
      rw [Nat.add_mul, Nat.add_mul]; omega
    rw [Nat.add_mul, Nat.add_mul] at E2
    refine ⟨a2 * a - b2 * b, by omega, by omega, ?_, ?_, (fun e => by cases e), fun _ => ⟨g3, k, by omega⟩⟩
    · rcases hR with hR | ⟨_, _, _, r4⟩
      · omega
      · cases r4
    · intro hb0
      rcases hR with hR | ⟨_, _, _, r4⟩
      · omega
      · cases r4
theorem Fs.next {a b S X Y P α β x y a0 b0 a1 b1 a2 b2 : Nat} {ev : Bool} (ha : a * S = X * P + α) (hb : b * S = Y * P + β) (hα : α < P) (hβ : β < P) (hX : X < 18446744073709551616) (h : Sim X Y x y a1 b1 a2 b2 ev) (hF : Fs a b a0 b0 a1 b1 a2 b2 ev)
    (h1 : b2 ≤ y) (h2 : b1 + b2 ≤ x - y) : Fs a b a1 b1 a2 b2 (a1 + x / y * a2) (b1 + x / y * b2) (!ev) := by
  obtain ⟨c1, c2, _⟩ := sim_bounds h hX h1
  have hb2 : 1 ≤ b2 := h.2.2.1
  right
  rcases hF with ⟨r1, r2, r3, r4, r5, r6, r7⟩ | ⟨R0, R1, hP, p1, p2, p3, p4, p5⟩
  · obtain ⟨R2, hP⟩ := pkg_next (R1 := a) ha hb hα hβ h h1 h2 (by intro _; subst r3 r4; omega) (by intro e; rw [r7] at e; cases e) (.inr ⟨r4, r5, r6, r7⟩)
    exact ⟨a, R2, hP, hb2, by omega, by omega, c2, c1⟩
  · obtain ⟨_, _, q3, _, qt, qf⟩ := hP
    obtain ⟨R2, hP2⟩ := pkg_next (R1 := R1) ha hb hα hβ h h1 h2 (fun e => (qf e).2.2) (fun e => (qt e).2.2) (.inl q3)
    exact ⟨R1, R2, hP2, hb2, p4, p5, c2, c1⟩
end Go.Proofs.Yteicihaigkgbnaa
