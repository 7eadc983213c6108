/-
  Words for the walks of RatioSums and RatioProducts: what two calls that answer alike give. No conditions but those that each theorem names.
-/
import Derived.Test.YteicihaigkgbnaaTwo2
namespace Go.Proofs.Yteicihaigkgbnaa
open Go.RowKit

/-- The four lists of two fractions can be read. -/
def Four (W : World) (A B C D : Option Addr) (n c m d n' c' m' d' : Nat) (xs ys us vs : List Nat) : Prop := Rd W A n c xs ∧ Rd W B m d ys ∧ Rd W C n' c' us ∧ Rd W D m' d' vs
theorem Four.below {W W' : World} {A B C D : Option Addr} {n c m d n' c' m' d' : Nat} {xs ys us vs : List Nat} (h : Four W A B C D n c m d n' c' m' d' xs ys us vs) (hb : Below W.heap.size W W') : Four W' A B C D n c m d n' c' m' d' xs ys us vs :=
  ⟨h.1.below hb, h.2.1.below hb, h.2.2.1.below hb, h.2.2.2.below hb⟩
/-- The end of a call that gives a natural that can be read, and an error number. -/
def RdN2 (w : World) (xs : List Nat) (k : Int) (e : Ending) (w' : World) : Prop :=
  ∃ A n c, e = .returned (.tuple #[.slice A n c, .int .i64 k]) ∧ Rd w' A n c xs ∧ Below w.heap.size w w'
theorem Out2.rd {w w' : World} {xs : List Nat} {k : Int} {e : Ending} (h : Out2 w xs k e w') : RdN2 w xs k e w' := by
  obtain ⟨A, n, c, h1, h2, h3⟩ := h
  exact ⟨A, n, c, h1, h2.1, h3⟩
/-- A fraction in a block of its own: the block, and both lists read. -/
def Fb (W : World) (g : Nat) (A : Option Addr) (n c : Nat) (B : Option Addr) (m d : Nat) (xs ys : List Nat) : Prop := Cs W g (.slice A n c) (.slice B m d) ∧ Rd W A n c xs ∧ Rd W B m d ys
theorem Fb.below {W W' : World} {g n c m d : Nat} {A B : Option Addr} {xs ys : List Nat} (h : Fb W g A n c B m d xs ys) (hb : Below W.heap.size W W') : Fb W' g A n c B m d xs ys := ⟨h.1.below hb, h.2.1.below hb, h.2.2.below hb⟩
/-- A call's fraction is laid into a new block. -/
theorem Fb.new {W w3 : World} {n c m d : Nat} {A B : Option Addr} {xs ys : List Nat} (T : TypeId) (h1 : Rd w3 A n c xs) (h2 : Rd w3 B m d ys) (hb : Below W.heap.size W w3) :
    Fb (w3.alloc (.cells #[.slice A n c, .slice B m d] T)) w3.heap.size A n c B m d xs ys ∧ Below W.heap.size W (w3.alloc (.cells #[.slice A n c, .slice B m d] T)) :=
  ⟨⟨Cs.new _ _ _ _, h1.alloc _, h2.alloc _⟩, hb.alloc hb.size _⟩
end Go.Proofs.Yteicihaigkgbnaa
