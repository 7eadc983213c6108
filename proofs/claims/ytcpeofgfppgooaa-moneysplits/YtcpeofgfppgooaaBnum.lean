/-
  What the reference's Number does: the bytes of a number in new memory. For all numbers.
-/
import Derived.Test.YtcpeofgfppgooaaBsize
namespace Go.Proofs.Ytcpeofgfppgooaa
open Go.RowKit

theorem infoB : (Try.prog.info? 5).map (fun i => (i.zero, i.size, i.bytes)) = some (some (.int .u8 0), 1, 1) := by kernel_rfl
theorem infoQ : (Try.prog.info? 22).map (fun i => (i.zero, i.size, i.bytes)) = some (some (.int .u64 0), 1, 8) := by kernel_rfl
/-- The ending of a call that makes bytes. -/
def OutBy (w : World) (bs : List Nat) (e : Ending) (w' : World) : Prop :=
  ∃ A n c, e = .returned (.slice A n c) ∧ Owk .u8 5 w' w.heap.size A n c bs ∧ Below w.heap.size w w'
theorem lits4 (a b c d : Nat) (x y z u : Int) (hx : x = a) (hy : y = b) (hz : z = c) (hu : u = d) : (#[.int .u8 x, .int .u8 y, .int .u8 z, .int .u8 u] : Array Value) = (litsK .u8 [a, b, c, d]).toArray := by subst hx hy hz hu; rfl
theorem lits2 (a b : Nat) (x y : Int) (hx : x = a) (hy : y = b) : (#[.int .u8 x, .int .u8 y] : Array Value) = (litsK .u8 [a, b]).toArray := by subst hx hy; rfl
theorem lits1 (a : Nat) (x : Int) (hx : x = a) : (#[.int .u8 x] : Array Value) = (litsK .u8 [a]).toArray := by subst hx; rfl
theorem outB_new (w : World) (bs : List Nat) (n : Nat) (hn : bs.length = n) (hm : n ≤ 9) (arr : Array Value) (h : arr = (litsK .u8 bs).toArray) : OutBy w bs (.returned (.slice (some ⟨w.heap.size, 0, none⟩) n n)) (w.alloc (.cells arr 5)) := by
  subst h
  refine ⟨_, _, _, rfl, ?_, (Below.refl _ _).alloc (Nat.le_refl _) _⟩
  have := (Bkk.new .u8 5 w bs).own (n := n) (c := n) hn (by omega) (Nat.le_refl _) (base := w.heap.size) (Nat.le_refl _)
  rwa [List.take_of_length_le (by omega)] at this
theorem or_low2 (n r : Nat) (h : n < 4611686018427387904) (hr : r < 4) : bits .or .u64 ((n : Int) * 4) (r : Int) = ((4 * n + r : Nat) : Int) := by
  rw [show ((n : Int) * 4) = ((n * 4 : Nat) : Int) by omega, u64_or_nat _ _ (by omega) (by omega), nat_join 2 _ _ (by omega) (by omega)]
  congr 1; omega

def NumRel (w : World) (N : Nat) (nv ov : Value) (wr : World) : Prop :=
  ∃ (k c m : Nat) (A : Option Addr), k ≤ bn N ∧ Hid (N / pb k = m) ∧ nv = .int .u64 (m : Int) ∧ ov = .slice A (k + 1) c ∧ Owk .u8 5 wr w.heap.size A (k + 1) c (0 :: lb k N) ∧ Below w.heap.size w wr

end Go.Proofs.Ytcpeofgfppgooaa
