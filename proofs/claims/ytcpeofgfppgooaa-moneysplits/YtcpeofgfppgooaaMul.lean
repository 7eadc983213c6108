/-
  What limb.product does: the natural of the product, in new memory. For slices that can be read, of at most 400000 limbs.
-/
import Derived.Test.YtcpeofgfppgooaaSmall
namespace Go.Proofs.Ytcpeofgfppgooaa
open Go.RowKit

theorem val_set (ts : List Nat) (p x : Nat) (h : p < ts.length) : val (ts.set p x) + pw p * el ts p = val ts + pw p * x := by
  have h1 := val_take_drop (ts.set p x) (p + 1) (by rw [List.length_set]; omega)
  have h2 := val_take_drop ts (p + 1) (by omega)
  have h3 : (ts.set p x).drop (p + 1) = ts.drop (p + 1) := by
    apply ext_el
    · simp
    · intro j _
      rw [el_drop, el_drop, el_set_other _ _ _ _ (by omega)]
  rw [val_take_set ts p x h, h3] at h1
  rw [val_take_step] at h2
  omega
theorem mul_le (x y : Nat) (hx : x < 4294967296) (hy : y < 4294967296) : x * y ≤ 18446744065119617025 := by
  have := Nat.mul_le_mul (show x ≤ 4294967295 by omega) (show y ≤ 4294967295 by omega)
  omega

/-- The outer loop: i limbs of xs are done. -/
def MulRel (w : World) (L n m : Nat) (xs ys : List Nat) (tv : Value) (wr : World) : Prop :=
  ∃ (i : Nat) (rs : List Nat), i ≤ n ∧ tv = .int .i64 i ∧ Blk wr w.heap.size rs ∧ rs.length = L ∧ Lim rs ∧ Below w.heap.size w wr ∧ (∀ j, i + m ≤ j → el rs j = 0) ∧ val rs = val (xs.take i) * val ys
/-- The inner loop: j limbs of ys are done. -/
def MulIn (w : World) (L m i x : Nat) (rs ys : List Nat) (cv tv : Value) (wr : World) : Prop :=
  ∃ (j q : Nat) (ts : List Nat), j ≤ m ∧ tv = .int .i64 j ∧ cv = .int .u64 q ∧ q < 4294967296 ∧ Blk wr w.heap.size ts ∧ ts.length = L ∧ Lim ts ∧ Below w.heap.size w wr ∧ (∀ p, i + j ≤ p → el ts p = el rs p) ∧
    val ts + pw (i + j) * q = val rs + pw i * (x * val (ys.take j))
theorem MulIn.step {w wr : World} {L m i j x q : Nat} {rs ys ts : List Nat} (hx : x < 4294967296) (hy : el ys j < 4294967296) (hj : j < m) (hiL : i + m ≤ L) (hq : q < 4294967296) (hB : Blk wr w.heap.size ts) (hl : ts.length = L) (hL : Lim ts)
    (hbel : Below w.heap.size w wr) (he : ∀ p, i + j ≤ p → el ts p = el rs p) (heq : val ts + pw (i + j) * q = val rs + pw i * (x * val (ys.take j))) {S1 S2 : Int}
    (h1 : S1 = (((q + (x * el ys j + el ts (i + j))) / 4294967296 : Nat) : Int)) (h2 : S2 = (((q + (x * el ys j + el ts (i + j))) % 4294967296 : Nat) : Int)) :
    MulIn w L m i x rs ys (.int .u64 S1) (.int .i64 ((j : Int) + 1)) (wr.setCell ⟨w.heap.size, i + j, none⟩ (.int .u32 S2)) := by
  subst h1 h2
  have hm := mul_le x (el ys j) hx hy
  have ht := el_lt hL (i + j)
  refine ⟨j + 1, (q + (x * el ys j + el ts (i + j))) / 4294967296, ts.set (i + j) ((q + (x * el ys j + el ts (i + j))) % 4294967296), by omega, rfl, rfl, by omega, hB.set_ _ _, by simp [hl], Lim_set hL _ _ (by omega), hbel.setCell (Nat.le_refl _) _, ?_, ?_⟩
  · intro p hp
    rw [el_set_other _ _ _ _ (by omega)]
    exact he p (by omega)
  · have h3 := val_set ts (i + j) ((q + (x * el ys j + el ts (i + j))) % 4294967296) (by omega)
    rw [← Nat.add_assoc i j 1, pw_succ, val_take_step]
    have h4 : pw (i + j) * ((q + (x * el ys j + el ts (i + j))) % 4294967296) + 4294967296 * pw (i + j) * ((q + (x * el ys j + el ts (i + j))) / 4294967296) = pw (i + j) * (q + (x * el ys j + el ts (i + j))) := by
      rw [Nat.mul_comm 4294967296, Nat.mul_assoc, ← Nat.mul_add, Nat.mod_add_div]
    have h5 : pw i * (x * (val (ys.take j) + pw j * el ys j)) = pw i * (x * val (ys.take j)) + pw (i + j) * (x * el ys j) := by
      rw [Nat.mul_add, Nat.mul_add, pw_add, Nat.mul_assoc, Nat.mul_left_comm x (pw j)]
    rw [h5]
    rw [Nat.mul_add, Nat.mul_add] at h4
    omega
/-- The outer loop's step. -/
theorem MulRel.step {w wr : World} {L n m i q : Nat} {xs ys rs ts : List Nat} (hi : i < n) (hiL : n + m ≤ L) (hyl : ys.length ≤ m) (hq : q < 4294967296) (hB : Blk wr w.heap.size ts) (hl : ts.length = L) (hL : Lim ts)
    (hbel : Below w.heap.size w wr) (hz : ∀ j, i + m ≤ j → el rs j = 0) (hv : val rs = val (xs.take i) * val ys) (he : ∀ p, i + m ≤ p → el ts p = el rs p) (heq : val ts + pw (i + m) * q = val rs + pw i * (el xs i * val (ys.take m))) {S2 : Int} (h2 : S2 = (q : Int)) :
    MulRel w L n m xs ys (.int .i64 ((i : Int) + 1)) (wr.setCell ⟨w.heap.size, i + m, none⟩ (.int .u32 S2)) := by
  subst h2
  refine ⟨i + 1, ts.set (i + m) q, by omega, rfl, hB.set_ _ _, by simp [hl], Lim_set hL _ _ hq, hbel.setCell (Nat.le_refl _) _, ?_, ?_⟩
  · intro j hj
    rw [el_set_other _ _ _ _ (by omega), he j (by omega)]
    exact hz j (by omega)
  · have h3 := val_set ts (i + m) q (by omega)
    rw [he (i + m) (Nat.le_refl _), hz (i + m) (Nat.le_refl _), Nat.mul_zero, Nat.add_zero] at h3
    rw [h3, heq, val_take_ge ys m hyl, hv, val_take_step, Nat.add_mul, Nat.mul_assoc]

end Go.Proofs.Ytcpeofgfppgooaa
