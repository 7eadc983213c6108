/-
  What limb.Formed, limb.limited, limb.Of, limb.Add and the law's own awake and few do. For slices that can be read; Add for naturals of at most 900000 limbs.
-/
import Derived.Test.YtcpeofgfppgooaaSum
namespace Go.Proofs.Ytcpeofgfppgooaa
open Go.RowKit

/-- Well formed: at most 400 limbs, the last one not 0. -/
def fmB (xs : List Nat) : Bool := decide (xs.length ≤ 400) && (xs.isEmpty || el xs (xs.length - 1) != 0)
theorem fmB_len {xs : List Nat} (h : fmB xs = true) : xs.length ≤ 400 := by
  unfold fmB at h; simp at h; exact h.1
theorem fmB_nrm {xs : List Nat} (h : fmB xs = true) : Nrm xs := by
  unfold fmB at h; simp at h
  rcases h.2 with h2 | h2
  · left; exact h2
  · right; exact h2
theorem fmB_digs (n : Nat) : fmB (digs n) = decide ((digs n).length ≤ 400) := by
  unfold fmB
  rcases Nrm_digs n with h | h
  · rw [h]; rfl
  · have : (el (digs n) ((digs n).length - 1) != 0) = true := by simpa using h
    rw [this]; simp
theorem fmB_nil : fmB [] = true := rfl

theorem ret_b {a b : Bool} (h : a = b) : Ending.returned (.bool a) = .returned (.bool b) := by rw [h]
theorem vals2 (a b : Nat) (x y : Int) (hx : x = a) (hy : y = b) : (#[.int .u32 x, .int .u32 y] : Array Value) = vals [a, b] := by subst hx hy; rfl
theorem blk2 (w : World) (a b : Nat) (x y : Int) (hx : x = a) (hy : y = b) : Blk (w.alloc (.cells #[.int .u32 x, .int .u32 y] 50)) w.heap.size [a, b] := by
  rw [vals2 a b x y hx hy]; exact Blk.new _ _
theorem lim2 (N : Nat) (h : N < 18446744073709551616) : Lim [N % 4294967296, N / 4294967296] := Lim_cons (by omega) (Lim_cons (by omega) Lim_nil)
theorem val2 (N : Nat) : val [N % 4294967296, N / 4294967296] = N := by simp only [val]; omega

/-- The end of a call that gives a natural and an error number. -/
def Out2 (w : World) (xs : List Nat) (k : Int) (e : Ending) (w' : World) : Prop :=
  ∃ A n c, e = .returned (.tuple #[.slice A n c, .int .i64 k]) ∧ Nw w' w.heap.size A n c xs ∧ Below w.heap.size w w'

/-- The document's sum: the natural and the error. -/
def addR (xs ys : List Nat) : List Nat × Int :=
  if fmB xs && fmB ys then (if (digs (val xs + val ys)).length ≤ 400 then (digs (val xs + val ys), 0) else ([], 4)) else ([], 1)
end Go.Proofs.Ytcpeofgfppgooaa
