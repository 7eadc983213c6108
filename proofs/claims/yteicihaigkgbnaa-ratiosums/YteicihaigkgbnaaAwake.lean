/-
  What the law's own awake and few do: awake answers true; few tells whether slices have at most 410 limbs. For slices that can be read.
-/
import Derived.Test.YteicihaigkgbnaaSmall
namespace Go.Proofs.Yteicihaigkgbnaa
open Go.RowKit

theorem digs_one : digs 1 = [1] := by rw [digs_pos (by omega)]; simp [digs_zero]
theorem digs_low : digs 4294967295 = [4294967295] := by rw [digs_pos (by omega)]; simp [digs_zero]
theorem digs_high : digs 4294967296 = [0, 1] := by rw [digs_pos (by omega)]; simp [digs_one]
theorem add_awake : addR (digs 4294967295) (digs 1) = ([0, 1], 0) := by
  have e : val (digs 4294967295) + val (digs 1) = 4294967296 := by rw [val_digs, val_digs]
  unfold addR
  rw [e, digs_high, digs_low, digs_one]; rfl

/-- few at one, two, three slices that were just laid side by side. -/
theorem few_cells (w : World) (vs : Array Value) (f : Nat → Nat) (N : Nat) (h : ∀ j, j < N → ∃ A c, vs[j]? = some (.slice A (f j) c)) :
    ∀ j, j < N → ∃ A c, (w.alloc (.cells vs 22)).cell? ⟨w.heap.size, j, none⟩ = some (.slice A (f j) c) := fun j hj => by
  obtain ⟨A, c, e⟩ := h j hj
  exact ⟨A, c, (cell_of_row _ w.heap.size j vs 22 (0, 0) (heap_alloc_new w _)).trans e⟩
end Go.Proofs.Yteicihaigkgbnaa
