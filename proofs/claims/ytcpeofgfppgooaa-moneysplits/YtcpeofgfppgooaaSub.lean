/-
  What limb.sign, limb.compare, limb.lessen and limb.difference do. For slices that can be read, of at most 900000 limbs where memory is made; difference for a not less than b.
-/
import Derived.Test.YtcpeofgfppgooaaCmp
namespace Go.Proofs.Ytcpeofgfppgooaa
open Go.RowKit

/-- A limb less what is taken, modulo 2^32; and how often 2^32 was borrowed. -/
def lesR (x t : Nat) : Nat := (x + 4294967296 - t % 4294967296) % 4294967296
def lesB (x t : Nat) : Nat := t / 4294967296 + if x < t % 4294967296 then 1 else 0
theorem les_eq (x t : Nat) (hx : x < 4294967296) : x + 4294967296 * lesB x t = lesR x t + t := by
  unfold lesB lesR; split <;> omega
theorem lesR_lt (x t : Nat) : lesR x t < 4294967296 := by unfold lesR; omega
theorem ret_t {j k : IntKind} {a b a' b' : Int} (h1 : a = a') (h2 : b = b') : Ending.returned (.tuple #[.int j a, .int k b]) = .returned (.tuple #[.int j a', .int k b']) := by rw [h1, h2]
theorem les_t {x t : Nat} (h : x < t % 4294967296) (hx : x < 4294967296) : ((x : Int) - (t : Int) % 4294967296) % 4294967296 = (lesR x t : Nat) ∧ (t : Int) / 4294967296 + 1 = (lesB x t : Nat) := by
  unfold lesR lesB; rw [if_pos h]; omega
theorem les_f {x t : Nat} (h : ¬ x < t % 4294967296) (hx : x < 4294967296) : (x : Int) - (t : Int) % 4294967296 = (lesR x t : Nat) ∧ (t : Int) / 4294967296 = (lesB x t : Nat) := by
  unfold lesR lesB; rw [if_neg h]; omega
/-- The state of a subtraction: k limbs are done, q is borrowed. -/
def DifRel (w : World) (n : Nat) (us vs : List Nat) (cv tv : Value) (wr : World) : Prop :=
  ∃ (k q : Nat) (rs : List Nat), k ≤ n ∧ tv = .int .i64 k ∧ cv = .int .u64 q ∧ q ≤ 1 ∧ Blk wr w.heap.size rs ∧ rs.length = n ∧ Lim rs ∧ Below w.heap.size w wr ∧ rs.drop k = us.drop k ∧
    val (rs.take k) + val (vs.take k) = val (us.take k) + pw k * q
theorem drop_set (rs : List Nat) (k x : Nat) : (rs.set k x).drop (k + 1) = rs.drop (k + 1) := by
  apply ext_el
  · simp
  · intro j _
    rw [el_drop, el_drop, el_set_other _ _ _ _ (by omega)]
theorem drop_succ_of {rs us : List Nat} {k : Nat} (h : rs.drop k = us.drop k) : rs.drop (k + 1) = us.drop (k + 1) := by
  have := congrArg (List.drop 1) h
  rwa [List.drop_drop, List.drop_drop] at this
theorem el_of_drop {rs us : List Nat} {k : Nat} (h : rs.drop k = us.drop k) : el rs k = el us k := by
  have := congrArg (fun l => el l 0) h
  simpa [el_drop] using this
/-- One limb of a subtraction. -/
theorem dif_step (rs us vs : List Nat) (k q t : Nat) (hk : k < rs.length) (hx : el us k < 4294967296) (ht : t = q + el vs k)
    (heq : val (rs.take k) + val (vs.take k) = val (us.take k) + pw k * q) :
    val ((rs.set k (lesR (el us k) t)).take (k + 1)) + val (vs.take (k + 1)) = val (us.take (k + 1)) + pw (k + 1) * lesB (el us k) t := by
  rw [val_take_set rs k _ hk, val_take_step us, val_take_step vs]
  have h1 := les_eq (el us k) t hx
  have h2 : pw k * (el us k + 4294967296 * lesB (el us k) t) = pw k * (lesR (el us k) t + t) := by rw [h1]
  rw [ht] at h2 ⊢
  rw [Nat.mul_add, Nat.mul_add, Nat.mul_add] at h2
  rw [pw_succ, Nat.mul_comm 4294967296 (pw k), Nat.mul_assoc]
  omega
theorem DifRel.step {w wr : World} {n k q t : Nat} {us vs rs : List Nat} (hx : el us k < 4294967296) (hy : el vs k < 4294967296) (hk : k < n) (hq : q ≤ 1) (hB : Blk wr w.heap.size rs) (hrl : rs.length = n) (hrL : Lim rs) (hbel : Below w.heap.size w wr)
    (hd : rs.drop k = us.drop k) (heq : val (rs.take k) + val (vs.take k) = val (us.take k) + pw k * q) (ht : t = q + el vs k) :
    DifRel w n us vs (.int .u64 (lesB (el us k) t : Nat)) (.int .i64 ((k : Int) + 1)) (wr.setCell ⟨w.heap.size, k, none⟩ (.int .u32 (lesR (el us k) t : Nat))) := by
  refine ⟨k + 1, lesB (el us k) t, rs.set k (lesR (el us k) t), by omega, rfl, rfl, ?_, hB.set_ _ _, by simp [hrl], Lim_set hrL _ _ (lesR_lt _ _), hbel.setCell (Nat.le_refl _) _, ?_, dif_step rs us vs k q t (by omega) hx ht heq⟩
  · unfold lesB; split <;> omega
  · rw [drop_set]; exact drop_succ_of hd

end Go.Proofs.Ytcpeofgfppgooaa
