/-
  Words for a block of which two cells are known. No conditions but those that each theorem names.
-/
import Derived.Test.YteicihaigkgbnaaLaw2
import Derived.Handy
import Derived.Deep.DeepCutAuto
namespace Go.Proofs.Yteicihaigkgbnaa
open Go.RowKit

/-- Block g is there, and its first two cells hold u and v. -/
def Cs (W : World) (g : Nat) (u v : Value) : Prop := g < W.heap.size ∧ W.cell? ⟨g, 0, none⟩ = some u ∧ W.cell? ⟨g, 1, none⟩ = some v
theorem Bs.cs {W : World} {T : TypeId} {g : Nat} {u v : Value} (h : Bs W T g u v) : Cs W g u v := ⟨h.lt, h.cells.1, h.cells.2⟩
theorem Cs.below {W W' : World} {g : Nat} {u v : Value} (h : Cs W g u v) (hb : Below W.heap.size W W') : Cs W' g u v :=
  ⟨Nat.lt_of_lt_of_le h.1 hb.size, (hb.cell (p := ⟨g, 0, none⟩) h.1).trans h.2.1, (hb.cell (p := ⟨g, 1, none⟩) h.1).trans h.2.2⟩
theorem Cs.alloc {W : World} {g : Nat} {u v : Value} (h : Cs W g u v) (o : Obj) : Cs (W.alloc o) g u v := h.below ((Below.refl _ _).alloc (Nat.le_refl _) _)
theorem Cs.new (W : World) (T : TypeId) (u v : Value) : Cs (W.alloc (.cells #[u, v] T)) W.heap.size u v := (Bs.new W T u v).cs
theorem below_drew2 {B : Nat} {a w : World} (h : Below B a w) : Below B a w.drew := ⟨h.os, h.tape, h.output, h.size, h.block⟩
theorem below_al {B : Nat} {a w : World} (h : Below B a w) (hB : B ≤ a.heap.size) (o : Obj) : Below B a (w.alloc o) := h.alloc (Nat.le_trans hB h.size) o
theorem step_cur {w2 Wc w3 : World} (h : Below w2.heap.size w2 Wc) (hb : Below Wc.heap.size Wc w3) : Below w2.heap.size w2 w3 := h.trans (hb.mono h.size)
theorem cs2 {W W' : World} {g1 g2 : Nat} {u1 v1 u2 v2 : Value} (h1 : Cs W g1 u1 v1) (h2 : Cs W g2 u2 v2) (hb : Below W.heap.size W W') :
    W'.cell? ⟨g1, 0, none⟩ = some u1 ∧ W'.cell? ⟨g1, 1, none⟩ = some v1 ∧ W'.cell? ⟨g2, 0, none⟩ = some u2 ∧ W'.cell? ⟨g2, 1, none⟩ = some v2 :=
  ⟨(h1.below hb).2.1, (h1.below hb).2.2, (h2.below hb).2.1, (h2.below hb).2.2⟩
/-- Block g is there, its first two cells hold no natural yet, and may be written. -/
def Zs (W : World) (g : Nat) : Prop := g < W.heap.size ∧ W.cell? ⟨g, 0, none⟩ = some (.slice none 0 0) ∧ W.cell? ⟨g, 1, none⟩ = some (.slice none 0 0) ∧ W.frozen? ⟨g, 0, none⟩ = false ∧ W.frozen? ⟨g, 1, none⟩ = false
theorem Bs.zs {W : World} {T : TypeId} {g : Nat} (h : Bs W T g (.slice none 0 0) (.slice none 0 0)) : Zs W g := ⟨h.lt, h.cells.1, h.cells.2, h.frozen 0, h.frozen 1⟩
theorem Zs.below {W W' : World} {g : Nat} (h : Zs W g) (hb : Below W.heap.size W W') : Zs W' g :=
  ⟨Nat.lt_of_lt_of_le h.1 hb.size, (hb.cell (p := ⟨g, 0, none⟩) h.1).trans h.2.1, (hb.cell (p := ⟨g, 1, none⟩) h.1).trans h.2.2.1, (hb.frozen (p := ⟨g, 0, none⟩) h.1).trans h.2.2.2.1, (hb.frozen (p := ⟨g, 1, none⟩) h.1).trans h.2.2.2.2⟩
theorem zs1 (W : World) : Zs (W.alloc (.cells #[.slice none 0 0, .slice none 0 0] 31)) W.heap.size := (Bs.new W _ _ _).zs
theorem zs2a (W : World) : Zs ((W.alloc (.cells #[.slice none 0 0, .slice none 0 0] 31)).alloc (.cells #[.slice none 0 0, .slice none 0 0] 31)) W.heap.size := (boxes2 W _ _ _ _ _ _).1.zs
theorem zs2b (W : World) : Zs ((W.alloc (.cells #[.slice none 0 0, .slice none 0 0] 31)).alloc (.cells #[.slice none 0 0, .slice none 0 0] 31)) (W.heap.size + 1) := (boxes2 W _ _ _ _ _ _).2.1.zs
end Go.Proofs.Yteicihaigkgbnaa
