/-
  filled of package voters: the bags that are not empty, each with its voters' numbers, in new memory. The conditions stand in each theorem.
-/
import Derived.Test.YtblclpagfbpamaaVlaw
import Derived.Laws.OwnMore
import Derived.Sort.CutIn
namespace Go.Proofs.Ytblclpagfbpamaa
open Go.RowKit Go.Shelf
set_option linter.unusedVariables false
attribute [local go_sem] Oper.semAt_some

/-- A bag and its voters' numbers, and where they lie. -/
structure Fg where
  b : Nat
  is : List Int
  A : Option Addr
  c : Nat
def Fg.v (f : Fg) : Value := .slice f.A f.is.length f.c
def fcs (fs : List Fg) : List Value := fs.flatMap fun f => [.int .i64 (f.b : Nat), f.v]
/-- All of them, one by one. -/
def flatF (fs : List Fg) : List (Int × Nat) := fs.flatMap fun f => f.is.map fun i => (i, f.b)
def pairs (L : List Vt) : List (Int × Nat) := L.map fun x => (x.id, x.bag)
theorem fcs_append (fs gs : List Fg) : fcs (fs ++ gs) = fcs fs ++ fcs gs := by simp [fcs]
theorem flatF_append (fs gs : List Fg) : flatF (fs ++ gs) = flatF fs ++ flatF gs := by simp [flatF]
theorem fcs_len (fs : List Fg) : (fcs fs).length = fs.length * 2 := by
  induction fs with
  | nil => rfl
  | cons y ys ih => rw [show fcs (y :: ys) = [.int .i64 (y.b : Nat), y.v] ++ fcs ys from rfl, List.length_append, ih]; simp; omega
theorem fcs_one (fs : List Fg) : ∀ u ∈ fcs fs, u.oneCell' = true := by
  intro u hu
  simp only [fcs, List.mem_flatMap] at hu
  obtain ⟨x, _, hx⟩ := hu
  simp at hx
  rcases hx with rfl | rfl <;> rfl
theorem fiInfo : (Try.prog.info? 110).map (fun i => (i.zero, i.size, i.bytes)) = some (some (.agg #[.int .i64 0, .slice none 0 0]), 2, 32) := by kernel_rfl

/-- Each one's numbers lie in a row of its own. -/
structure Rws (n₀ : Nat) (K : Nat → Prop) (fs : List Fg) (W : World) : Prop where
  own : ∀ f ∈ fs, W.ownsRow n₀ 3 1 f.v f.is.length (ics f.is)
  out : ∀ f ∈ fs, ∀ g, f.v.ownBlock = some g → ¬ K g
  sep : fs.Pairwise fun f f' => ∀ g, f.v.ownBlock = some g → f'.v.ownBlock ≠ some g
theorem Rws.nil (n₀ : Nat) (K : Nat → Prop) (W : World) : Rws n₀ K [] W := ⟨by simp, by simp, List.Pairwise.nil⟩
theorem Rws.keep {n₀ : Nat} {K K' : Nat → Prop} {fs : List Fg} {W W' : World} (h : Rws n₀ K fs W) (hk : ∀ f ∈ fs, ∀ g, f.v.ownBlock = some g → W'.heap[g]? = W.heap[g]?) (hK : ∀ g, g < W.heap.size → K' g → K g) : Rws n₀ K' fs W' :=
  ⟨fun f hf => own_keep (h.own f hf) (hk f hf), fun f hf g hg hn => h.out f hf g hg (hK g ((h.own f hf).lt g hg).2 hn), h.sep⟩
theorem Rws.left {n₀ : Nat} {K : Nat → Prop} {fs gs : List Fg} {W : World} (h : Rws n₀ K (fs ++ gs) W) : Rws n₀ K fs W :=
  ⟨fun f hf => h.own f (by simp [hf]), fun f hf => h.out f (by simp [hf]), (List.pairwise_append.1 h.sep).1⟩
/-- Another one behind them. -/
theorem Rws.snoc {n₀ : Nat} {K : Nat → Prop} {fs : List Fg} {f : Fg} {W : World} (h : Rws n₀ K fs W) (ho : W.ownsRow n₀ 3 1 f.v f.is.length (ics f.is)) (hk : ∀ g, f.v.ownBlock = some g → ¬ K g) (hs : ∀ f' ∈ fs, ∀ g, f'.v.ownBlock = some g → f.v.ownBlock ≠ some g) : Rws n₀ K (fs ++ [f]) W := by
  refine ⟨fun x hx => ?_, fun x hx => ?_, ?_⟩
  · rcases List.mem_append.1 hx with h1 | h1
    · exact h.own x h1
    · simp at h1; subst h1; exact ho
  · rcases List.mem_append.1 hx with h1 | h1
    · exact h.out x h1
    · simp at h1; subst h1; exact hk
  · rw [List.pairwise_append]
    exact ⟨h.sep, by simp, fun a ha b hb => by simp at hb; subst hb; exact hs a ha⟩

/-- What filled says between two rounds: the list in its variable's box. -/
structure FI (w : World) (B : Nat) (K : Nat → Prop) (fs : List Fg) (W : World) : Prop where
  box : HoldsU w.heap.size B 107 110 2 K fs.length (fcs fs) W
  rws : Rws w.heap.size K fs W
  bel : Below w.heap.size w W
theorem FI.turn {w : World} {B : Nat} {K : Nat → Prop} {fs : List Fg} {W W' : World} {row : Option Nat} {C : Nat} (hC : w.heap.size ≤ C) (h : FI w B K fs W) (hg : W.grownBy W' row) (hr : ∀ r, row = some r → C ≤ r ∧ ∃ o : Obj, W.heap[r]? = some o ∧ o.isCells = false) : FI w B K fs W' := by
  refine ⟨h.box.turn hg (fun r e => (hr r e).2), h.rws.keep (fun f hf g hgg => ?_) (fun _ _ => id), h.bel.grown hg h.bel.size (fun k e => Nat.le_trans hC (hr k e).1)⟩
  refine hg.block g ((h.rws.own f hf).lt g hgg).2 (fun e'' => ?_)
  obtain ⟨o, ho, hc⟩ := (hr g e''.symm).2
  obtain ⟨cur, hk⟩ := own_kb (h.rws.own f hf) hgg
  rw [show W.heap[g]? = _ from hk] at ho; cases ho; cases hc
theorem FI.keep {w : World} {B : Nat} {K : Nat → Prop} {fs : List Fg} {W W' : World} (h : FI w B K fs W) (hg : W.grownBy W' none) : FI w B (fun q => K q ∨ (W.heap.size ≤ q ∧ q < W'.heap.size)) fs W' :=
  ⟨h.box.keep hg, h.rws.keep (fun f hf g hgg => hg.block g ((h.rws.own f hf).lt g hgg).2 (by simp)) (fun g hlt hh => hh.elim id (fun h2 => by omega)), h.bel.grown hg h.bel.size (fun k e => by cases e)⟩

/-- A block of numbers is none of a list's, nor its box. -/
theorem kb_ne {W : World} {g g' : Nat} {t t' : TypeId} {c c' : Array Value} (h : KB W g t c) (h' : KB W g' t' c') (hne : t ≠ t') : g ≠ g' := fun e => by
  subst e
  have := (show W.heap[g]? = _ from h).symm.trans h'
  injection this with this
  injection this with _ h2
  exact hne h2

/-- An empty one has been put behind them. -/
theorem FI.push {w : World} {B : Nat} {K : Nat → Prop} {fs : List Fg} {W W2 w1 : World} {A : Option Addr} {c g cap b : Nat} (hn : w.heap.size ≤ B) (h : FI w B K fs W) (q1 : Boxed W B 107 (.slice A fs.length c)) (q2 : W.ownsRow w.heap.size 110 2 (.slice A fs.length c) fs.length (fcs fs))
    (q3 : ∀ g, (Value.slice A fs.length c).ownBlock = some g → ¬ K g) (b2 : Below W.heap.size W W2)
    (ho : w1.ownsRow w.heap.size 110 2 (.slice (some ⟨g, 0, none⟩) (fs.length + 1) cap) (fs.length + 1) (fcs fs ++ fcs [⟨b, [], none, 0⟩])) (hg : W2.grownBy w1 (Value.slice A fs.length c).ownBlock) (hgw : (Value.slice A fs.length c).ownBlock = some g ∨ g = W2.heap.size) :
    w1.cell? ⟨B, 0, none⟩ = some (.slice A fs.length c) ∧ w1.frozen? ⟨B, 0, none⟩ = false ∧ FI w B K (fs ++ [⟨b, [], none, 0⟩]) (w1.setCell ⟨B, 0, none⟩ (.slice (some ⟨g, 0, none⟩) (fs.length + 1) cap)) ∧ KeepsOthers W (w1.setCell ⟨B, 0, none⟩ (.slice (some ⟨g, 0, none⟩) (fs.length + 1) cap)) ∧
      Turns (fun q => ¬ K q) W (w1.setCell ⟨B, 0, none⟩ (.slice (some ⟨g, 0, none⟩) (fs.length + 1) cap)) := by
  have hbz := h.bel.size
  obtain ⟨r1, r2, r3, r4, r5, r6, _⟩ := HoldsU.app (by decide) hn hbz q1 q2 q3 h.box.2.1 h.box.2.2 b2 ho hg hgw
  refine ⟨r1, r2, ⟨by rw [List.length_append, fcs_append]; exact r3, ?_, h.bel.trans r6⟩, r4, r5⟩
  refine Rws.snoc (h.rws.keep (fun f hf q hq => ?_) (fun _ _ => id)) ⟨rfl, .inl ⟨rfl, rfl⟩⟩ (fun g e => by cases e) (fun f' hf' g hg' e => by cases e)
  obtain ⟨cur, hk⟩ := own_kb (h.rws.own f hf) hq
  have hqB : q ≠ B := kb_ne hk q1 (by decide)
  rw [Below.heap_setCell _ _ _ q hqB, hg.block q (Nat.lt_of_lt_of_le hk.lt b2.size) (fun e => by
    obtain ⟨cur', hk'⟩ := own_kb q2 e.symm
    exact kb_ne hk hk' (by decide) rfl), b2.block q hk.lt]
/-- The last one has one number more. -/
theorem FI.add {w : World} {B : Nat} {K : Nat → Prop} {gs : List Fg} {f : Fg} {W W2 w1 : World} {gl cl g cap : Nat} {i : Int} (hn : w.heap.size ≤ B) (h : FI w B K (gs ++ [f]) W) (q1 : Boxed W B 107 (.slice (some ⟨gl, 0, none⟩) (gs.length + 1) cl)) (q2 : W.ownsRow w.heap.size 110 2 (.slice (some ⟨gl, 0, none⟩) (gs.length + 1) cl) (gs.length + 1) (fcs (gs ++ [f])))
    (q3 : ¬ K gl) (b2 : Below W.heap.size W W2)
    (ho : w1.ownsRow w.heap.size 3 1 (.slice (some ⟨g, 0, none⟩) (f.is.length + 1) cap) (f.is.length + 1) (ics f.is ++ ics [i])) (hg : W2.grownBy w1 f.v.ownBlock) (hgw : f.v.ownBlock = some g ∨ g = W2.heap.size) :
    w1.cell? ⟨B, 0, none⟩ = some (.slice (some ⟨gl, 0, none⟩) (gs.length + 1) cl) ∧ (∃ u, w1.cell? ⟨gl, gs.length * 2 + 1, none⟩ = some u) ∧ w1.frozen? ⟨gl, gs.length * 2 + 1, none⟩ = false ∧
      FI w B K (gs ++ [⟨f.b, f.is ++ [i], some ⟨g, 0, none⟩, cap⟩]) (w1.setCell ⟨gl, gs.length * 2 + 1, none⟩ (.slice (some ⟨g, 0, none⟩) (f.is.length + 1) cap)) ∧ KeepsOthers W (w1.setCell ⟨gl, gs.length * 2 + 1, none⟩ (.slice (some ⟨g, 0, none⟩) (f.is.length + 1) cap)) ∧
      Turns (fun q => ¬ K q) W (w1.setCell ⟨gl, gs.length * 2 + 1, none⟩ (.slice (some ⟨g, 0, none⟩) (f.is.length + 1) cap)) := by
  have hbz := h.bel.size
  have hof := h.rws.own f (by simp)
  have hold : ∀ q, q < W.heap.size → f.v.ownBlock ≠ some q → w1.heap[q]? = W.heap[q]? := fun q hq hne => by
    rw [hg.block q (Nat.lt_of_lt_of_le hq b2.size) (fun e => hne e.symm), b2.block q hq]
  obtain ⟨cl0, hkl⟩ := own_kb q2 (g := gl) rfl
  have hnl : f.v.ownBlock ≠ some gl := fun e => by
    obtain ⟨cur, hk⟩ := own_kb hof e
    exact kb_ne hk hkl (by decide) rfl
  have hnB : f.v.ownBlock ≠ some B := fun e => by
    obtain ⟨cur, hk⟩ := own_kb hof e
    exact kb_ne hk q1 (by decide) rfl
  have hlB : gl ≠ B := kb_ne hkl q1 (by decide)
  have hB1 : Boxed w1 B 107 (.slice (some ⟨gl, 0, none⟩) (gs.length + 1) cl) := (hold B q1.lt hnB).trans q1
  have hl1 : w1.ownsRow w.heap.size 110 2 (.slice (some ⟨gl, 0, none⟩) (gs.length + 1) cl) (gs.length + 1) (fcs (gs ++ [f])) := own_keep q2 (fun q e => by cases e; exact hold gl hkl.lt hnl)
  obtain ⟨cg, hkg⟩ := own_kb ho (g := g) rfl
  obtain ⟨cl1, hkl1⟩ := own_kb hl1 (g := gl) rfl
  have hgl : g ≠ gl := kb_ne hkg hkl1 (by decide)
  have hgB : g ≠ B := kb_ne hkg hB1 (by decide)
  have hgK : ¬ K g := by
    rcases hgw with h1 | h1
    · exact h.rws.out f (by simp) g h1
    · intro hk; have := h.box.2.2 g hk; have := b2.size; omega
  have hlen : (fcs (gs ++ [f])).length = gs.length * 2 + 2 := by rw [fcs_len]; simp; omega
  obtain ⟨u, hu⟩ : ∃ u, (fcs (gs ++ [f]))[gs.length * 2 + 1]? = some u := ⟨_, List.getElem?_eq_getElem (by omega)⟩
  have hset : ∀ q, q ≠ gl → (w1.setCell ⟨gl, gs.length * 2 + 1, none⟩ (.slice (some ⟨g, 0, none⟩) (f.is.length + 1) cap)).heap[q]? = w1.heap[q]? := fun q hq => Below.heap_setCell _ _ _ q hq
  have hst := hl1.stored (gs.length * 2 + 1) (.slice (some ⟨g, 0, none⟩) (f.is.length + 1) cap)
  have hsz : W.heap.size ≤ (w1.setCell ⟨gl, gs.length * 2 + 1, none⟩ (.slice (some ⟨g, 0, none⟩) (f.is.length + 1) cap)).heap.size := Nat.le_trans b2.size (Nat.le_trans hg.size (by simp [World.setCell]))
  have hcs : (fcs (gs ++ [f])).set (gs.length * 2 + 1) (.slice (some ⟨g, 0, none⟩) (f.is.length + 1) cap) = fcs (gs ++ [⟨f.b, f.is ++ [i], some ⟨g, 0, none⟩, cap⟩]) := by
    rw [fcs_append, fcs_append, List.set_append_right _ _ (by rw [fcs_len]; omega), fcs_len]
    rw [show gs.length * 2 + 1 - gs.length * 2 = 1 by omega]
    simp [fcs, Fg.v]
  rw [hcs] at hst
  refine ⟨hB1.cell, ⟨u, (hl1.cellAt _ (by omega)).trans hu⟩, hl1.frozenAt _, ⟨?_, ?_, ?_⟩, ⟨hsz, fun q o hq hc => ?_⟩, ?_⟩
  · rw [show (gs ++ [(⟨f.b, f.is ++ [i], some ⟨g, 0, none⟩, cap⟩ : Fg)]).length = gs.length + 1 from by simp]
    exact ⟨⟨_, _, (hset B (fun e => hlB e.symm)).trans hB1, hst.1, fun q e => by cases e; exact q3⟩, h.box.2.1, fun q hq => Nat.lt_of_lt_of_le (h.box.2.2 q hq) hsz⟩
  · refine Rws.snoc (h.rws.left.keep (fun x hx q hq => ?_) (fun _ _ => id)) ?_ (fun q e => by cases e; exact hgK) (fun x hx q hq e => ?_)
    · obtain ⟨cur, hk⟩ := own_kb (h.rws.left.own x hx) hq
      have hne : f.v.ownBlock ≠ some q := (List.pairwise_append.1 h.rws.sep).2.2 x hx f (by simp) q hq
      rw [hset q (kb_ne hk hkl (by decide)), hold q hk.lt hne]
    · have := own_keep ho (w' := w1.setCell ⟨gl, gs.length * 2 + 1, none⟩ (.slice (some ⟨g, 0, none⟩) (f.is.length + 1) cap)) (fun q e => by cases e; exact hset g hgl)
      rw [← ics_append] at this
      simpa [Fg.v] using this
    · have e : g = q := by cases e; rfl
      subst e
      obtain ⟨cur, hk⟩ := own_kb (h.rws.left.own x hx) hq
      rcases hgw with h1 | h1
      · exact (List.pairwise_append.1 h.rws.sep).2.2 x hx f (by simp) g hq h1
      · have := hk.lt; have := b2.size; omega
  · refine h.bel.trans ⟨hg.os.trans b2.os, hg.tape.trans b2.tape, hg.output.trans b2.output, hsz, fun q hq => ?_⟩
    have := (q2.lt gl rfl).1
    rw [hset q (by omega), hold q (by omega) (fun e => by have := (hof.lt q e).1; omega)]
  · have hlt := (Array.getElem?_eq_some_iff.1 hq).1
    have hql : q ≠ gl := fun e => by subst e; rw [show W.heap[q]? = _ from hkl] at hq; cases hq; cases hc
    rw [hset q hql, hold q hlt (fun e => by
      obtain ⟨cur, hk⟩ := own_kb hof e
      rw [show W.heap[q]? = _ from hk] at hq; cases hq; cases hc)]
    exact hq
  · refine ⟨hg.os.trans b2.os, hg.tape.trans b2.tape, hg.output.trans b2.output, hsz, fun q hq hnk => ?_⟩
    have hk : K q := Classical.not_not.1 hnk
    rw [hset q (fun e => q3 (e ▸ hk)), hold q hq (fun e => h.rws.out f (by simp) q e hk)]
end Go.Proofs.Ytblclpagfbpamaa
