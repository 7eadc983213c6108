/-
  Plain mathematics of marks as bits: the bytes of a set of numbers, the set of a row of bytes, how many there are. No program is in sight here; no conditions but those that each theorem names.
-/
import Derived.Test.YtgdmmcjhbpklhaaByt
import Derived.Lib.BitFns
namespace Go.Proofs.Ytgdmmcjhbpklhaa
set_option linter.unusedVariables false

/-- Eight bits as a byte, the lowest one first. -/
def by8 (a b c d e f g h : Bool) : Nat := a.toNat + 2 * b.toNat + 4 * c.toNat + 8 * d.toNat + 16 * e.toNat + 32 * f.toNat + 64 * g.toNat + 128 * h.toNat
/-- The byte j of a set of numbers. -/
def mb (f : Nat → Bool) (j : Nat) : Nat := by8 (f (8 * j)) (f (8 * j + 1)) (f (8 * j + 2)) (f (8 * j + 3)) (f (8 * j + 4)) (f (8 * j + 5)) (f (8 * j + 6)) (f (8 * j + 7))
/-- Its first n bytes. -/
def mbs (f : Nat → Bool) (n : Nat) : List Nat := (List.range n).map (mb f)
/-- The set of a row of bytes. -/
def fb (bs : List Nat) (i : Nat) : Bool := (el bs (i / 8)).testBit (i % 8)
/-- How many there are below n. -/
def cnt (f : Nat → Bool) : Nat → Nat
  | 0 => 0
  | n + 1 => cnt f n + (f n).toNat
/-- One number more. -/
def put (f : Nat → Bool) (i : Nat) (k : Nat) : Bool := if k = i then true else f k

theorem by8_lt (a b c d e f g h : Bool) : by8 a b c d e f g h < 256 := by
  have ha := Bool.toNat_le a
  have hb := Bool.toNat_le b
  have hc := Bool.toNat_le c
  have hd := Bool.toNat_le d
  have he := Bool.toNat_le e
  have hf := Bool.toNat_le f
  have hg := Bool.toNat_le g
  have hh := Bool.toNat_le h
  unfold by8; omega
theorem by8_ones : ∀ a b c d e f g h : Bool, Lib.onesCount (by8 a b c d e f g h) = a.toNat + b.toNat + c.toNat + d.toNat + e.toNat + f.toNat + g.toNat + h.toNat := by decide +kernel
theorem by8_bit : ∀ a b c d e f g h : Bool, (by8 a b c d e f g h).testBit 0 = a ∧ (by8 a b c d e f g h).testBit 1 = b ∧ (by8 a b c d e f g h).testBit 2 = c ∧ (by8 a b c d e f g h).testBit 3 = d ∧
    (by8 a b c d e f g h).testBit 4 = e ∧ (by8 a b c d e f g h).testBit 5 = f ∧ (by8 a b c d e f g h).testBit 6 = g ∧ (by8 a b c d e f g h).testBit 7 = h := by decide +kernel
theorem mb_lt (f : Nat → Bool) (j : Nat) : mb f j < 256 := by8_lt ..
theorem high_bit {x k : Nat} (h : x < 256) (hk : 8 ≤ k) : x.testBit k = false := by
  apply Nat.testBit_lt_two_pow
  exact Nat.lt_of_lt_of_le h (show 2 ^ 8 ≤ 2 ^ k from Nat.pow_le_pow_right (by omega) hk)
theorem mb_bit (f : Nat → Bool) (j k : Nat) (hk : k < 8) : (mb f j).testBit k = f (8 * j + k) := by
  obtain ⟨h0, h1, h2, h3, h4, h5, h6, h7⟩ := by8_bit (f (8 * j)) (f (8 * j + 1)) (f (8 * j + 2)) (f (8 * j + 3)) (f (8 * j + 4)) (f (8 * j + 5)) (f (8 * j + 6)) (f (8 * j + 7))
  rcases (show k = 0 ∨ k = 1 ∨ k = 2 ∨ k = 3 ∨ k = 4 ∨ k = 5 ∨ k = 6 ∨ k = 7 by omega) with rfl | rfl | rfl | rfl | rfl | rfl | rfl | rfl
  · exact h0
  · exact h1
  · exact h2
  · exact h3
  · exact h4
  · exact h5
  · exact h6
  · exact h7
theorem byte_ext {x y : Nat} (hx : x < 256) (hy : y < 256) (h : ∀ k, k < 8 → x.testBit k = y.testBit k) : x = y := by
  apply Nat.eq_of_testBit_eq
  intro k
  rcases Nat.lt_or_ge k 8 with hk | hk
  · exact h k hk
  · rw [high_bit hx hk, high_bit hy hk]
theorem mbs_len (f : Nat → Bool) (n : Nat) : (mbs f n).length = n := by simp [mbs]
theorem mbs_bl (f : Nat → Bool) (n : Nat) : Bl 256 (mbs f n) := fun x hx => by
  simp only [mbs, List.mem_map] at hx
  obtain ⟨j, _, rfl⟩ := hx
  exact mb_lt f j
theorem mbs_el (f : Nat → Bool) (n j : Nat) (h : j < n) : el (mbs f n) j = mb f j := by
  rw [el_get _ _ (by rw [mbs_len]; exact h)]; simp [mbs]
theorem mbs_congr {f g : Nat → Bool} {n : Nat} (h : ∀ i, i < 8 * n → f i = g i) : mbs f n = mbs g n := by
  apply ext_el (by rw [mbs_len, mbs_len])
  intro j hj
  rw [mbs_len] at hj
  rw [mbs_el f n j hj, mbs_el g n j hj]
  apply byte_ext (mb_lt f j) (mb_lt g j)
  intro k hk
  rw [mb_bit f j k hk, mb_bit g j k hk, h _ (by omega)]
theorem two_lt {k : Nat} (hk : k < 8) : 2 ^ k < 256 := Nat.lt_of_lt_of_le (Nat.pow_lt_pow_right (by omega) hk) (by decide)
/-- A mark is set. -/
theorem mb_put (f : Nat → Bool) (i : Nat) : mb (put f i) (i / 8) = mb f (i / 8) ||| 2 ^ (i % 8) := by
  have h2 := two_lt (show i % 8 < 8 from Nat.mod_lt _ (by omega))
  apply byte_ext (mb_lt _ _) (Nat.or_lt_two_pow (n := 8) (mb_lt _ _) h2)
  intro k hk
  rw [mb_bit _ _ k hk, Nat.testBit_or, mb_bit _ _ k hk, Nat.testBit_two_pow]
  unfold put
  by_cases h : i % 8 = k
  · rw [if_pos (by omega), decide_eq_true h, Bool.or_true]
  · rw [if_neg (by omega), decide_eq_false h, Bool.or_false]
theorem mbs_put (f : Nat → Bool) (i n : Nat) (h : i / 8 < n) : mbs (put f i) n = (mbs f n).set (i / 8) (mb f (i / 8) ||| 2 ^ (i % 8)) := by
  apply ext_el (by rw [mbs_len, List.length_set, mbs_len])
  intro j hj
  rw [mbs_len] at hj
  rw [mbs_el _ n j hj]
  by_cases e : i / 8 = j
  · subst e
    rw [el_set_same _ _ _ (by rw [mbs_len]; exact h), mb_put]
  · rw [el_set_other _ _ _ _ e, mbs_el f n j hj]
    apply byte_ext (mb_lt _ j) (mb_lt f j)
    intro k hk
    rw [mb_bit _ j k hk, mb_bit f j k hk]
    unfold put
    rw [if_neg (by omega)]
/-- A bit is asked for. -/
theorem and_bit (x k : Nat) : (x &&& 2 ^ k != 0) = x.testBit k := by
  cases h : x.testBit k
  · have e : x &&& 2 ^ k = 0 := by
      apply Nat.eq_of_testBit_eq
      intro i
      rw [Nat.testBit_and, Nat.testBit_two_pow, Nat.zero_testBit]
      by_cases e : k = i
      · subst e; rw [h, Bool.false_and]
      · rw [decide_eq_false e, Bool.and_false]
    rw [e]; rfl
  · have e : x &&& 2 ^ k ≠ 0 := fun e => by
      have := congrArg (fun y => y.testBit k) e
      simp only [Nat.testBit_and, Nat.testBit_two_pow, h, Nat.zero_testBit] at this
      simp at this
    simpa using e
theorem shr_bit (x k : Nat) : x / 2 ^ k % 2 = (x.testBit k).toNat := by
  have := Nat.testBit_eq_decide_div_mod_eq (x := x) (i := k)
  rw [this]
  rcases (show x / 2 ^ k % 2 = 0 ∨ x / 2 ^ k % 2 = 1 by omega) with h | h <;> rw [h] <;> rfl
/-- Bytes are the bytes of their set. -/
theorem mbs_fb {bs : List Nat} (h : Bl 256 bs) : mbs (fb bs) bs.length = bs := by
  apply ext_el (by rw [mbs_len])
  intro j hj
  rw [mbs_len] at hj
  rw [mbs_el _ _ j hj]
  apply byte_ext (mb_lt _ j) (Bl_el h (by omega) j)
  intro k hk
  rw [mb_bit _ j k hk]
  unfold fb
  rw [show (8 * j + k) / 8 = j by omega, show (8 * j + k) % 8 = k by omega]
theorem fb_mbs (f : Nat → Bool) (n i : Nat) (h : i < 8 * n) : fb (mbs f n) i = f i := by
  unfold fb
  rw [mbs_el f n _ (by omega), mb_bit f _ _ (Nat.mod_lt _ (by omega))]
  congr 1; omega
theorem fb_ge {bs : List Nat} {i : Nat} (h : 8 * bs.length ≤ i) : fb bs i = false := by
  unfold fb
  rw [el_ge bs _ (by omega)]; simp

theorem cnt_congr {f g : Nat → Bool} {n : Nat} (h : ∀ i, i < n → f i = g i) : cnt f n = cnt g n := by
  induction n with
  | zero => rfl
  | succ n ih => rw [cnt, cnt, ih (fun i hi => h i (by omega)), h n (by omega)]
theorem cnt_put {f : Nat → Bool} {i n : Nat} (h : i < n) (hf : f i = false) : cnt (put f i) n = cnt f n + 1 := by
  induction n with
  | zero => omega
  | succ n ih =>
    rw [cnt, cnt]
    by_cases e : i = n
    · subst e
      rw [cnt_congr (g := f) (fun k hk => by unfold put; rw [if_neg (by omega)]), hf]
      unfold put; simp
    · rw [ih (by omega)]
      have : put f i n = f n := by unfold put; rw [if_neg (by omega)]
      rw [this]; omega
theorem cnt_none {f : Nat → Bool} {n : Nat} (h : ∀ i, i < n → f i = false) : cnt f n = 0 := by
  induction n with
  | zero => rfl
  | succ n ih => rw [cnt, ih (fun i hi => h i (by omega)), h n (by omega)]; rfl
theorem cnt_le (f : Nat → Bool) (n : Nat) : cnt f n ≤ n := by
  induction n with
  | zero => exact Nat.le_refl _
  | succ n ih => rw [cnt]; have := Bool.toNat_le (f n); omega
theorem cnt_byte (f : Nat → Bool) (j : Nat) : cnt f (8 * (j + 1)) = cnt f (8 * j) + Lib.onesCount (mb f j) := by
  unfold mb
  rw [by8_ones]
  show cnt f (8 * j + 8) = _
  simp only [cnt, Nat.add_assoc]
theorem cnt_more {f : Nat → Bool} {n m : Nat} (h : n ≤ m) (hf : ∀ i, n ≤ i → f i = false) : cnt f m = cnt f n := by
  obtain ⟨d, rfl⟩ := Nat.le.dest h
  induction d with
  | zero => rfl
  | succ d ih => rw [← Nat.add_assoc, cnt, ih (by omega), hf _ (by omega)]; rfl

/-- So many bytes. -/
def wid (size : Nat) : Nat := (size + 7) / 8
/-- A bit behind the last mark is set. -/
def stray (size : Nat) (bs : List Nat) : Bool := decide (size % 8 ≠ 0) && decide (2 ^ (size % 8) ≤ el bs (bs.length - 1))
/-- These are the bytes of marks of that size. -/
def fits (size : Nat) (bs : List Nat) : Prop := bs.length = wid size ∧ stray size bs = false
/-- What is below size of the set. -/
def low (size : Nat) (f : Nat → Bool) (i : Nat) : Bool := decide (i < size) && f i
theorem low_lt {size i : Nat} (f : Nat → Bool) (h : i < size) : low size f i = f i := by unfold low; rw [decide_eq_true h, Bool.true_and]
theorem low_ge {size i : Nat} (f : Nat → Bool) (h : size ≤ i) : low size f i = false := by unfold low; rw [decide_eq_false (by omega), Bool.false_and]
theorem lt_two_pow_bits {x k : Nat} (h : ∀ i, k ≤ i → x.testBit i = false) : x < 2 ^ k := Nat.lt_pow_two_of_testBit x h
theorem fits_low {size : Nat} {bs : List Nat} (hb : Bl 256 bs) (h : fits size bs) : ∀ i, fb bs i = low size (fb bs) i := by
  intro i
  rcases Nat.lt_or_ge i size with hi | hi
  · rw [low_lt _ hi]
  · rw [low_ge _ hi]
    obtain ⟨hl, hs⟩ := h
    unfold wid at hl
    rcases Nat.lt_or_ge i (8 * bs.length) with hj | hj
    · have h8 : size % 8 ≠ 0 := by omega
      unfold stray at hs
      rw [decide_eq_true h8, Bool.true_and] at hs
      have hlt := of_decide_eq_false hs
      unfold fb
      rw [show i / 8 = bs.length - 1 by omega]
      apply Nat.testBit_lt_two_pow
      refine Nat.lt_of_lt_of_le (Nat.lt_of_not_le hlt) (Nat.pow_le_pow_right (by omega) (by omega))
    · exact fb_ge hj
theorem low_fits {size : Nat} {bs : List Nat} (hb : Bl 256 bs) : mbs (low size (fb bs)) (wid size) = bs ↔ fits size bs := by
  constructor
  · intro h
    have hl : bs.length = wid size := by rw [← h, mbs_len]
    refine ⟨hl, ?_⟩
    unfold stray
    by_cases h8 : size % 8 = 0
    · simp [h8]
    · rw [Bool.and_eq_false_iff]
      right
      apply decide_eq_false
      apply Nat.not_le_of_lt
      unfold wid at hl
      have h2 := mbs_el (low size (fb bs)) (wid size) (bs.length - 1) (by unfold wid; omega)
      rw [h] at h2
      rw [h2]
      apply lt_two_pow_bits
      intro i hi
      rcases Nat.lt_or_ge i 8 with hi8 | hi8
      · rw [mb_bit _ _ _ hi8]
        apply low_ge
        omega
      · exact high_bit (mb_lt _ _) hi8
  · intro h
    have h1 := mbs_congr (n := bs.length) (fun i _ => fits_low hb h i)
    rw [mbs_fb hb] at h1
    rw [← h.1]
    exact h1.symm
end Go.Proofs.Ytgdmmcjhbpklhaa
