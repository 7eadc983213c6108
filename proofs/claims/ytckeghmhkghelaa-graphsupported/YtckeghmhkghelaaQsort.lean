/-
  slices.Sort over a row of ints of the call's own: the same numbers, in ascending order; nothing below the row turns. For rows of fewer than 2^62 ints.
-/
import Derived.Test.YtckeghmhkghelaaShsort
import Derived.Test.YtckeghmhkghelaaQmem
import Derived.Sort.OwnSortedInts
namespace Go.Proofs.Ytckeghmhkghelaa
open Go.RowKit Go.Sort
set_option linter.unusedVariables false

/-- The same numbers, in ascending order. -/
def srt (zs : List Int) : List Int := zs.mergeSort fun x y => decide (x ≤ y)
theorem srt_len (zs : List Int) : (srt zs).length = zs.length := by simp [srt]
theorem srt_perm (zs : List Int) : (srt zs).Perm zs := List.mergeSort_perm _ _
theorem srt_pair (zs : List Int) : (srt zs).Pairwise (· ≤ ·) := by
  have h := List.pairwise_mergeSort (le := fun (x y : Int) => decide (x ≤ y)) (fun a b c h1 h2 => by simp at h1 h2 ⊢; omega) (fun a b => by simp; omega) zs
  exact h.imp (fun h => by simpa using h)
/-- Cells of ints. -/
def litsI (zs : List Int) : Array Value := (zs.map (Value.int .i64)).toArray
theorem litsI_at (zs : List Int) (j : Nat) (h : j < zs.length) : (litsI zs)[j]? = some (.int .i64 (zl zs j)) := by
  rw [zl_get zs j h]; simp [litsI, h]
theorem ri_of_kb {w : World} {g : Nat} {t : TypeId} {zs : List Int} {n : Nat} (h : KB w g t (litsI zs)) (hn : zs.length = n) (hm : n ≤ 9223372036854775807) (hb : ∀ z ∈ zs, -9223372036854775808 ≤ z ∧ z ≤ 9223372036854775807) : Ri w (some ⟨g, 0, none⟩) n n zs :=
  ⟨hn, Nat.le_refl _, hm, hb, fun _ => ⟨g, 0, rfl, h.lt, fun j hj => by rw [Nat.zero_add, h.cell]; exact litsI_at zs j (by omega)⟩⟩
theorem sort_any (g : Nat) (zs : List Int) (n base : Nat) (w : World) (h : KB w g 3 (litsI zs)) (hn : zs.length = n) (hs : n < 4611686018427387904) (hb : base ≤ g) :
    Calls Try.prog 23 #[.slice (some ⟨g, 0, none⟩) n n] w fun e w' => e = .returned (.tuple #[]) ∧ KB w' g 3 (litsI (srt zs)) ∧ Below base w w' := by
  subst hn
  have hh : Holds (Value.int .i64) w g 0 zs.toArray := holds_of_blockI h (by rw [List.take_of_length_le (by simp [litsI])]; simp [litsI])
  refine (Try.slices_Sort_int g 0 zs.length zs w hh h.lt hs).mono ?_
  rintro e w' ⟨rfl, n, os, rfl⟩
  refine ⟨rfl, ?_, (Below.refl _ _).grown (grownBy_sortedI _) (by have := h.lt; omega) (fun k e => by cases e; exact hb)⟩
  have h1 := heap_sortedI (n := n) (os := os) (srt zs).toArray h
  unfold KB
  rw [show (srt zs).toArray = (zs.mergeSort fun x y => decide (x ≤ y)).toArray from rfl] at h1
  rw [h1]
  congr 2
  apply Array.toList_inj.1
  have h2 := take_putCellsI (litsI zs) (srt zs) (by rw [srt_len]; simp [litsI])
  rw [List.take_of_length_le (by rw [srt_len]; simp [putCells, litsI])] at h2
  rw [show (zs.mergeSort fun x y => decide (x ≤ y)) = srt zs from rfl, h2]
  simp [litsI]
end Go.Proofs.Ytckeghmhkghelaa
