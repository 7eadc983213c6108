/-
  What limb.sum does: of two slices that read as naturals it makes the natural of their sum, in new memory. For slices of at most a million limbs.
-/
import Derived.Test.YtcpeofgfppgooaaTrim
namespace Go.Proofs.Ytcpeofgfppgooaa
open Go.RowKit

theorem info50 : (Try.prog.info? 50).map (fun i => (i.zero, i.size, i.bytes)) = some (some (.int .u32 0), 1, 4) := by kernel_rfl
def SumRel (w : World) (n : Nat) (us vs : List Nat) (cv tv : Value) (wr : World) : Prop :=
  ∃ (k q : Nat) (rs : List Nat), k ≤ n ∧ tv = .int .i64 k ∧ cv = .int .u64 q ∧ q ≤ 1 ∧ Blk wr w.heap.size rs ∧ rs.length = n + 1 ∧ Lim rs ∧ Below w.heap.size w wr ∧
    val (rs.take k) + pw k * q = val (us.take k) + val (vs.take k)
theorem SumRel.step {w wr : World} {n k q : Nat} {us vs rs : List Nat} (hx : el us k < 4294967296) (hy : el vs k < 4294967296) (hk : k < n) (hq : q ≤ 1) (hB : Blk wr w.heap.size rs) (hrl : rs.length = n + 1) (hrL : Lim rs) (hbel : Below w.heap.size w wr)
    (heq : val (rs.take k) + pw k * q = val (us.take k) + val (vs.take k)) {S1 S2 : Int} (h1 : S1 = (((q + el us k + el vs k) / 4294967296 : Nat) : Int)) (h2 : S2 = (((q + el us k + el vs k) % 4294967296 : Nat) : Int)) :
    SumRel w n us vs (.int .u64 S1) (.int .i64 ((k : Int) + 1)) (wr.setCell ⟨w.heap.size, k, none⟩ (.int .u32 S2)) := by
  subst h1 h2
  refine ⟨k + 1, (q + el us k + el vs k) / 4294967296, rs.set k ((q + el us k + el vs k) % 4294967296), by omega, rfl, rfl, by omega, hB.set_ _ _, by simp [hrl], Lim_set hrL _ _ (by omega), hbel.setCell (Nat.le_refl _) _, ?_⟩
  rw [carry_step rs k _ (by omega), val_take_step us, val_take_step vs, Nat.mul_add, Nat.mul_add]
  omega
theorem SumRel.last {w wr : World} {n q : Nat} {us vs rs : List Nat} (hu : us.length ≤ n) (hv : vs.length ≤ n) (hq : q ≤ 1) (hB : Blk wr w.heap.size rs) (hrl : rs.length = n + 1) (hrL : Lim rs)
    (heq : val (rs.take n) + pw n * q = val (us.take n) + val (vs.take n)) :
    Blk (wr.setCell ⟨w.heap.size, n, none⟩ (.int .u32 (q : Int))) w.heap.size (rs.set n q) ∧ Lim (rs.set n q) ∧ (rs.set n q).length = n + 1 ∧ val (rs.set n q) = val us + val vs := by
  refine ⟨hB.set_ _ _, Lim_set hrL _ _ (by omega), by simp [hrl], ?_⟩
  have h := val_take_set rs n q (by omega)
  rw [val_take_ge _ _ (by simp [hrl])] at h
  rw [val_take_ge us n hu, val_take_ge vs n hv] at heq
  omega
/-- The end of a function that trims its row and returns it. -/
theorem out_trim {w w1 : World} {g n k N : Nat} {rs : List Nat} (hB : Blk w1 g rs) (hL : Lim rs) (hl : rs.length = n) (hn : n ≤ 9223372036854775807) (hg : w.heap.size ≤ g) (hb : Below w.heap.size w w1) (hv : val rs = N) (hk : k ≤ n) (ht : rs.take k = digs (val rs)) :
    Out w (digs N) (.returned (.slice (some ⟨g, 0, none⟩) k n)) w1 := by
  subst hl hv
  refine ⟨_, _, _, rfl, ?_, hb⟩
  rw [← ht]
  exact (hB.nw hL rfl hn hg).take hk

end Go.Proofs.Ytcpeofgfppgooaa
