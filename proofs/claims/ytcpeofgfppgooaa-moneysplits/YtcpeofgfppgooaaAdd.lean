/-
  What the reference's add, Add do: the natural of the sum, in new memory. For slices that can be read, of at most 900000 limbs.
-/
import Derived.Test.YtcpeofgfppgooaaCmp
namespace Go.Proofs.Ytcpeofgfppgooaa
open Go.RowKit

def AddRel (w : World) (M : Nat) (xs ys : List Nat) (ov cv tv : Value) (wr : World) : Prop :=
  ∃ (k q c : Nat) (A : Option Addr) (rs : List Nat), tv = .int .i64 k ∧ cv = .int .u64 q ∧ ov = .slice A k c ∧ (k ≤ M ∨ (k = M + 1 ∧ q = 0)) ∧ q ≤ 1 ∧ Ow wr w.heap.size A k c rs ∧ Below w.heap.size w wr ∧
    val rs + pw k * q = val (xs.take k) + val (ys.take k)
theorem AddRel.step {w wr w1 : World} {n m M k q c c1 : Nat} {A A1 : Option Addr} {xs ys rs : List Nat} (hx : el xs k < 4294967296) (hy : el ys k < 4294967296) (hnM : n ≤ M) (hmM : m ≤ M) (hk : k < M ∨ (k = M ∧ q = 1)) (hq : q ≤ 1)
    (hO : Ow wr w.heap.size A k c rs) (hbel : Below w.heap.size w wr) (heq : val rs + pw k * q = val (xs.take k) + val (ys.take k)) (hxl : xs.length ≤ n) (hyl : ys.length ≤ m) {v : Value}
    (ho : Ow w1 w.heap.size A1 (k + 1) c1 (rs ++ [(q + el xs k + el ys k) % 4294967296])) (hg : (wr.alloc (.cells #[v] 50)).grownBy w1 (Value.ownBlock (.slice A k c)))
    {S1 : Int} (h1 : S1 = (((q + el xs k + el ys k) / 4294967296 : Nat) : Int)) :
    AddRel w M xs ys (.slice A1 (k + 1) c1) (.int .u64 S1) (.int .i64 ((k : Int) + 1)) w1 := by
  subst h1
  refine ⟨k + 1, (q + el xs k + el ys k) / 4294967296, c1, A1, _, rfl, rfl, rfl, ?_, by omega, ho, ?_, ?_⟩
  · rcases hk with hk | ⟨rfl, rfl⟩
    · left; omega
    · right
      rw [el_ge xs k (by omega), el_ge ys k (by omega)]
      exact ⟨rfl, rfl⟩
  · exact (hbel.alloc hbel.size _).grown hg (Nat.le_trans hbel.size (by simp)) hO.lt
  · have hl := hO.len
    have e1 : val (rs ++ [(q + el xs k + el ys k) % 4294967296]) = val rs + pw k * ((q + el xs k + el ys k) % 4294967296) := by
      rw [val_append, hl]; simp [val]
    rw [e1, pw_succ, Nat.mul_comm 4294967296, Nat.mul_assoc, Nat.add_assoc, ← Nat.mul_add, Nat.mod_add_div, val_take_step xs, val_take_step ys, Nat.mul_add, Nat.mul_add]
    omega

end Go.Proofs.Ytcpeofgfppgooaa
