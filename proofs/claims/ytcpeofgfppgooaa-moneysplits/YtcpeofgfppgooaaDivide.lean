/-
  What limb.divide and limb.DivMod do: the quotient and the rest, in new memory. For slices that can be read; divide for naturals of at most 400000 limbs whose last limb is not 0.
-/
import Derived.Test.YtcpeofgfppgooaaLong
import Derived.Test.YtcpeofgfppgooaaSubs
namespace Go.Proofs.Ytcpeofgfppgooaa
open Go.RowKit

theorem OutQ.drew {w : World} {k q r : Nat} {e : Ending} {w' : World} (h : OutQ (w.drewN k) q r e w') : OutQ w q r e w' := by
  obtain ⟨A, n, c, B, m, d, h1, h2, h3, h4⟩ := h
  exact ⟨A, n, c, B, m, d, h1, h2, h3, ⟨h4.os, h4.tape, h4.output, h4.size, h4.block⟩⟩

/-- The end of a call that gives two naturals and an error number. -/
def Out3 (w : World) (qs rs : List Nat) (k : Int) (e : Ending) (w' : World) : Prop :=
  ∃ A n c B m d, e = .returned (.tuple #[.slice A n c, .slice B m d, .int .i64 k]) ∧ Nw w' w.heap.size A n c qs ∧ Nw w' w.heap.size B m d rs ∧ Below w.heap.size w w'
/-- The document's division: the two naturals and the error. -/
def divR (xs ys : List Nat) : List Nat × List Nat × Int :=
  if fmB xs && fmB ys then (if ys.length = 0 then ([], [], 5) else (digs (val xs / val ys), digs (val xs % val ys), 0)) else ([], [], 1)

end Go.Proofs.Ytcpeofgfppgooaa
