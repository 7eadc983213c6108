/-
  A range over a function whose own body holds ranges over functions: what its caller and it promise each other. A caller says I of its own blocks, of what has come, and of the blocks K that the function wants kept; K grows by new blocks alone. The conditions stand in each theorem.
-/
import Derived.Test.YtblclpagfbpamaaKalli
import Derived.RangeFuncBox
namespace Go.Proofs.Ytblclpagfbpamaa
open Go.RowKit Go.Shelf
set_option linter.unusedVariables false

/-- What is said between two rounds abides new blocks, which may be kept too, and the turn of whatever is no cells. -/
structure Abi {α : Type} (B : Nat) (J : (Nat → Prop) → List α → World → Prop) : Prop where
  turn : ∀ K s W W' row, J K s W → W.grownBy W' row → (∀ r, row = some r → B ≤ r ∧ ∃ o : Obj, W.heap[r]? = some o ∧ o.isCells = false) → J K s W'
  keep : ∀ K s W W', J K s W → W.grownBy W' none → J (fun k => K k ∨ (W.heap.size ≤ k ∧ k < W'.heap.size)) s W'
/-- The contract of such a function: encs: what it hands over; K0: what it wants kept from the first; Φ: what it says of what comes next; S, Sp: of all that has come, and of a part. -/
def SeqU {α : Type} (g : Nat) (lb : Array Value) (encs : α → Array Value) (K0 : Nat → Prop) (Φ : List α → α → World → Prop) (S : List α → World → Prop) (Sp : List α → Prop) (w : World) : Prop :=
  ∀ (l : Nat) (J : (Nat → Prop) → List α → World → Prop) (Jx : List α → World → Prop) (W : World), Below w.heap.size w W → Abi W.heap.size J → OwnFrom W.heap.size Jx →
    (∀ (K : Nat → Prop) (pre : List α) (x : α) (W1 : World), Φ pre x W1 → J K pre W1 → YieldAt Fence.wide 9 Try.prog l (encs x) W1 fun e W' =>
      ((e = .returned (.bool true) ∧ J K (pre ++ [x]) W' ∧ Turns (fun k => ¬ K k) W1 W') ∨ (e = .returned (.bool false) ∧ Jx (pre ++ [x]) W')) ∧ KeepsFrom W.heap.size W1 W') →
    J K0 [] W →
    CallsIn Fence.wide 9 Try.prog g (#[.func (.yield l) #[] #[]] ++ lb) W fun e W' => (∃ v, e = .returned v) ∧ ((∃ K xs, S xs W' ∧ J K xs W') ∨ ∃ pre, Sp pre ∧ Jx pre W')
/-- How the body of a round may be left. -/
def postU {α : Type} (B : Nat) (K : Nat → Prop) (I : (Nat → Prop) → List α → World → Prop) (Ix : Code → List α → World → Prop) (xs : List α) (W : World) : Exit → Act → World → Prop
  | .normal, _, W' => KeepsFrom B W W' ∧ Turns (fun k => ¬ K k) W W' ∧ I K xs W'
  | .ret, _, W' => KeepsFrom B W W' ∧ Ix .ret xs W'
  | .exit id, _, W' => KeepsFrom B W W' ∧ Ix (.exit id) xs W'
  | .goto t, _, W' => KeepsFrom B W W' ∧ Ix (.goto t) xs W'
  | .panic _, _, _ => False
  | .outgrown, _, _ => False

theorem keepsFrom_up {B C : Nat} {W W' : World} (h : KeepsFrom B W W') (hBC : B ≤ C) : KeepsFrom C W W' := ⟨h.size, fun k o hk => h.same k o (Nat.le_trans hBC hk)⟩
theorem keepsFrom_putObj {B : Nat} (W : World) {l : Nat} (o : Obj) (h : l < B) : KeepsFrom B W (W.putObj l o) := KeepsFrom.of_grownBy (grownBy_putObj' W l o) (fun j e => by cases e; exact h)
theorem turns_putObj {K : Nat → Prop} (W : World) {l : Nat} (o : Obj) (h : ¬ K l) : Turns (fun k => ¬ K k) W (W.putObj l o) :=
  Turns.grown (grownBy_putObj' W l o) (fun r e => by cases e; exact h)

/-- The statement 'for .. := range g { .. }' over such a function, at the outermost level. -/
theorem range_M {α : Type} {n : Nat} {g : Operand} {ps : Array Tmp} {assign body : Code} {Q : Exit → Act → World → Prop} {a : Act} {w : World} {gf : Nat} {lb : Array Value}
    (hg : a.eval g = .func (.func gf) #[] lb) (eg : ∀ args w, (callFunc gf args).run Try.prog w = .ok (.enter gf args) w)
    {encs : α → Array Value} {K0 : Nat → Prop} {Φ : List α → α → World → Prop} {S : List α → World → Prop} {Sp : List α → Prop} (hseq : SeqU gf lb encs K0 Φ S Sp w) (hK0 : ∀ k, K0 k → k < w.heap.size) (hps : ∀ x, (encs x).size = ps.size)
    (I : (Nat → Prop) → List α → World → Prop) (Ix : Code → List α → World → Prop) (hI : Abi w.heap.size I) (hIx : ∀ c, OwnFrom w.heap.size (Ix c)) (h0 : I K0 [] w) (M : (Nat → Prop) → List α → α → Act → World → Prop)
    (hM : ∀ (K : Nat → Prop) (pre : List α) (x : α) (a' : Act) (W : World) (l : Nat) (o o' : Obj), M K pre x a' W → w.heap.size ≤ l → W.heap[l]? = some o → o.isCells = false → ¬ K l → M K pre x a' (W.putObj l o'))
    (hassign : ∀ (l : Nat) (K : Nat → Prop) (pre : List α) (x : α) (W : World) (C : Act → World → Prop), Φ pre x W → I K pre W → (∀ a' W', KeepsFrom w.heap.size W W' → Turns (fun k => ¬ K k) W W' → M K pre x a' W' → C a' W') →
      assign.wpIn (Fence.wide.inRound l) 9 Try.prog (Exit.then C (fun _ _ _ => False)) { tmps := (ps.zip (encs x)).foldl (fun t (p, v) => t.setIfInBounds p v) a.tmps, defers := [] } W)
    (hbody : ∀ (l : Nat) (K : Nat → Prop) (pre : List α) (x : α) (a' : Act) (W : World), w.heap.size ≤ l → (∃ r, W.heap[l]? = some (.loop r)) → ¬ K l → M K pre x a' W → body.wpIn (Fence.wide.inRound l) 9 Try.prog (postU w.heap.size K I Ix (pre ++ [x]) W) a' W)
    (hdone : ∀ (D : Nat) (K : Nat → Prop) (xs : List α) (W : World), w.heap.size ≤ D → S xs W → I K xs W → W.heap[D]? = some (.deferred (some [])) → Q .normal { a with defers := { target := .collected D, args := #[] } :: a.defers } W)
    (hS : ∀ (xs : List α) (W : World) (l : Nat) (o : Obj), S xs W → S xs (W.putObj l o) ∨ ∃ o', W.heap[l]? = some o' ∧ o'.isCells = true)
    (hstop : ∀ (D : Nat) (c : Code) (pre : List α) (W : World), w.heap.size ≤ D → Sp pre → Ix c pre W → W.heap[D]? = some (.deferred (some [])) → c.wpIn Fence.wide n Try.prog Q { a with defers := { target := .collected D, args := #[] } :: a.defers } W) :
    (Code.rangeFunc g ps assign body).wpIn Fence.wide n Try.prog Q a w := by
  refine wpIn_rangeFunc fun fn hfn => ?_
  obtain ⟨L, hLd⟩ : ∃ L, L = w.heap.size + 1 := ⟨_, rfl⟩
  let rc : LoopState → Option Code → Obj := fun st pe => .loop { state := st, pending := pe, fn, tmps := a.tmps, params := ps, assign, body, defers := w.heap.size }
  obtain ⟨W1, hW1⟩ : ∃ W1, (w.alloc (.deferred (some []))).alloc (rc .ready none) = W1 := ⟨_, rfl⟩
  have hsz : W1.heap.size = w.heap.size + 2 := by rw [← hW1]; simp
  have hD1 : W1.heap[w.heap.size]? = some (.deferred (some [])) := by
    rw [← hW1, Below.heap_alloc _ _ _ (by simp)]; exact World.alloc_heap_new w _
  have hL1 : W1.heap[L]? = some (rc .ready none) := by
    rw [← hW1, hLd]; have := World.alloc_heap_new (w.alloc (.deferred (some []))) (rc .ready none); rwa [World.size_alloc] at this
  have hb1 : Below w.heap.size w W1 := by rw [← hW1]; exact ((Below.refl _ w).alloc (Nat.le_refl _) _).alloc (by simp) _
  have hg1 : w.grownBy W1 none := ⟨hb1.os, hb1.tape, hb1.output, hb1.size, fun k hk _ => hb1.block k hk⟩
  have hI1 : I K0 [] W1 := hI.turn _ _ _ _ none h0 hg1 (fun r e => by cases e)
  refine ⟨L, [{ target := .collected w.heap.size, args := #[] }], W1, { target := .fn (.func gf) lb, args := #[.func (.yield L) #[] #[]] }, W1, gf, #[.func (.yield L) #[] #[]] ++ lb, W1, ?_, ?_, ?_, ?_, (fun h => by cases h), ?_⟩
  · rw [hLd, ← hW1]; exact run_enterLoop_outer _ _ _ _ _
  · simp only [resolve, hg]; simp [go_sem]
  · intro f' hf'; exact trivial
  · simp [invoke, go_sem, eg]
  refine callsIn_wide.2 ((callsIn_wide (n := 9)).1 ?_)
  refine (hseq L (fun K pre W => I K pre W ∧ ¬ K L ∧ ¬ K w.heap.size ∧ W.heap[L]? = some (rc .ready none) ∧ W.heap[w.heap.size]? = some (.deferred (some [])))
    (fun pre W => ∃ c, Ix c pre W ∧ W.heap[L]? = some (rc .done (some c)) ∧ W.heap[w.heap.size]? = some (.deferred (some []))) W1 hb1 ?_ ?_ ?_ ⟨hI1, fun h => by have := hK0 _ h; omega, fun h => by have := hK0 _ h; omega, hL1, hD1⟩).mono ?_
  · refine ⟨fun K s W W' row ⟨h1, h2, h3, h4, h5⟩ hgr hr => ?_, fun K s W W' ⟨h1, h2, h3, h4, h5⟩ hgr => ?_⟩
    · have hne : ∀ {k}, k < W1.heap.size → some k ≠ row := fun {k} hk e => by have := (hr k e.symm).1; omega
      refine ⟨hI.turn _ _ _ _ _ h1 hgr (fun r e => ⟨by have := (hr r e).1; omega, (hr r e).2⟩), h2, h3, ?_, ?_⟩
      · exact (hgr.block L (Array.getElem?_eq_some_iff.1 h4).1 (hne (by omega))).trans h4
      · exact (hgr.block _ (Array.getElem?_eq_some_iff.1 h5).1 (hne (by omega))).trans h5
    · have l4 := (Array.getElem?_eq_some_iff.1 h4).1
      have l5 := (Array.getElem?_eq_some_iff.1 h5).1
      exact ⟨hI.keep _ _ _ _ h1 hgr, fun h => h.elim h2 (fun h => by omega), fun h => h.elim h3 (fun h => by omega), (hgr.block _ l4 (by simp)).trans h4, (hgr.block _ l5 (by simp)).trans h5⟩
  · rintro s W W' row ⟨c, h1, h4, h5⟩ hgr hr
    have hne : ∀ {k}, k < W1.heap.size → some k ≠ row := fun {k} hk e => by have := (hr k e.symm).1; omega
    exact ⟨c, hIx c _ _ _ _ h1 hgr (fun r e => ⟨by have := (hr r e).1; omega, (hr r e).2⟩), (hgr.block L (Array.getElem?_eq_some_iff.1 h4).1 (hne (by omega))).trans h4, (hgr.block _ (Array.getElem?_eq_some_iff.1 h5).1 (hne (by omega))).trans h5⟩
  · -- a round
    rintro K pre x W hphi ⟨hi, hk1, hk2, hl, hd⟩
    have hy := run_yield (P := Try.prog) (args := encs x) hl (by exact hps x)
    refine ⟨fn, _, assign, body, hy, roundIn_of_wpIn hfn (hassign _ K pre x W _ hphi hi ?_)⟩
    clear hy
    intro a' Wa hka hta hma
    replace hl := hka.same L _ (by omega) hl rfl
    replace hd := hka.same _ _ (Nat.le_refl _) hd rfl
    have llt := (Array.getElem?_eq_some_iff.1 hl).1
    refine ⟨_, run_beginRound hl rfl, ?_⟩
    obtain ⟨W2, hW2⟩ : ∃ W2, Wa.putObj L (rc .busy none) = W2 := ⟨_, rfl⟩
    have hl2 : W2.heap[L]? = some (rc .busy none) := by rw [← hW2]; exact World.putObj_heap_same llt
    have hd2 : W2.heap[w.heap.size]? = some (.deferred (some [])) := by rw [← hW2]; exact (World.putObj_heap_other (by omega)).trans hd
    have hm2 : M K pre x a' W2 := by rw [← hW2]; exact hM _ _ _ _ _ _ _ _ hma (by omega) hl rfl hk1
    have ht2 : Turns (fun k => ¬ K k) W W2 := by rw [← hW2]; exact hta.trans (turns_putObj Wa _ hk1) (fun _ => .inl)
    have hkf2 : KeepsFrom W1.heap.size W W2 := by rw [← hW2]; exact (keepsFrom_up hka (by omega)).trans (keepsFrom_putObj Wa _ (by omega))
    have hkf : ∀ W3 o, KeepsFrom w.heap.size W2 W3 → KeepsFrom W1.heap.size W (W3.putObj L o) := fun W3 o h3 => (hkf2.trans (keepsFrom_up h3 (by omega))).trans (keepsFrom_putObj W3 _ (by omega))
    show body.wpIn _ _ _ _ _ (Wa.putObj L (rc .busy none))
    rw [hW2]
    refine wpIn_mono (hbody _ K pre x a' W2 (by omega) ⟨_, hl2⟩ hk1 hm2) ?_
    have fin : ∀ (jump : Option Code) (W3 : World), KeepsFrom w.heap.size W2 W3 → (Instr.endRound L jump).run Try.prog W3 = .ok (.bool jump.isNone) (W3.putObj L (rc (if jump.isNone then .ready else .done) jump)) ∧ W3.heap[L]? = some (rc .busy none) ∧
        (W3.putObj L (rc (if jump.isNone then .ready else .done) jump)).heap[L]? = some (rc (if jump.isNone then .ready else .done) jump) ∧ (W3.putObj L (rc (if jump.isNone then .ready else .done) jump)).heap[w.heap.size]? = some (.deferred (some [])) := fun jump W3 hk3 => by
      have hl3 := hk3.same L _ (by omega) hl2 rfl
      refine ⟨run_endRound (P := Try.prog) jump hl3, hl3, World.putObj_heap_same (Array.getElem?_eq_some_iff.1 hl3).1, ?_⟩
      exact (World.putObj_heap_other (by omega)).trans (hk3.same _ _ (Nat.le_refl _) hd2 rfl)
    rintro e a3 W3 hp
    cases e with
    | normal =>
      obtain ⟨hk3, ht3, hi3⟩ := hp
      obtain ⟨hr, hl3, hl4, hd4⟩ := fin none W3 hk3
      refine ⟨_, _, hr, .inl ⟨rfl, ⟨?_, hk1, hk2, hl4, hd4⟩, (ht2.trans ht3 (fun _ => .inl)).trans (turns_putObj W3 _ hk1) (fun _ => .inl)⟩, hkf W3 _ hk3⟩
      exact hI.turn _ _ _ _ (some L) hi3 (grownBy_putObj' W3 L _) (fun r e => by cases e; exact ⟨by omega, _, hl3, rfl⟩)
    | ret =>
      obtain ⟨hk3, hi3⟩ := hp
      obtain ⟨hr, hl3, hl4, hd4⟩ := fin (some .ret) W3 hk3
      exact ⟨_, _, hr, .inr ⟨rfl, .ret, (hIx _).putObj _ hi3 (by omega) hl3 rfl, hl4, hd4⟩, hkf W3 _ hk3⟩
    | exit id =>
      obtain ⟨hk3, hi3⟩ := hp
      obtain ⟨hr, hl3, hl4, hd4⟩ := fin (some (.exit id)) W3 hk3
      exact ⟨_, _, hr, .inr ⟨rfl, .exit id, (hIx _).putObj _ hi3 (by omega) hl3 rfl, hl4, hd4⟩, hkf W3 _ hk3⟩
    | goto t =>
      obtain ⟨hk3, hi3⟩ := hp
      obtain ⟨hr, hl3, hl4, hd4⟩ := fin (some (.goto t)) W3 hk3
      exact ⟨_, _, hr, .inr ⟨rfl, .goto t, (hIx _).putObj _ hi3 (by omega) hl3 rfl, hl4, hd4⟩, hkf W3 _ hk3⟩
    | panic ch => exact hp.elim
    | outgrown => exact hp.elim
  · -- behind the function
    rintro e W2 ⟨⟨v, rfl⟩, (⟨K, xs, hS1, hi, hk1, hk2, hl, hd⟩ | ⟨pre, hSp, c, hi, hl, hd⟩)⟩
    · refine ⟨none, _, run_endLoop (P := Try.prog) hl (by simp), ?_⟩
      have hS2 : S xs (W2.putObj L (rc .exhausted none)) := by
        rcases hS xs W2 L (rc .exhausted none) hS1 with h | ⟨o', h1, h2⟩
        · exact h
        · rw [hl] at h1; cases h1; cases h2
      exact hdone _ K xs _ (Nat.le_refl _) hS2 (hI.turn _ _ _ _ (some L) hi (grownBy_putObj' W2 L _) (fun r e => by cases e; exact ⟨by omega, _, hl, rfl⟩)) ((World.putObj_heap_other (by omega)).trans hd)
    · refine ⟨some c, _, run_endLoop (P := Try.prog) hl (by simp), ?_⟩
      exact hstop _ c pre _ (Nat.le_refl _) hSp ((hIx c).putObj _ hi (by omega) hl rfl) ((World.putObj_heap_other (by omega)).trans hd)

/-- .. where the loop's variables are slots of the call's own frame. -/
theorem range_U {α : Type} {n : Nat} {g : Operand} {ps : Array Tmp} {assign body : Code} {Q : Exit → Act → World → Prop} {a : Act} {w : World} {gf : Nat} {lb : Array Value}
    (hg : a.eval g = .func (.func gf) #[] lb) (eg : ∀ args w, (callFunc gf args).run Try.prog w = .ok (.enter gf args) w)
    {encs : α → Array Value} {K0 : Nat → Prop} {Φ : List α → α → World → Prop} {S : List α → World → Prop} {Sp : List α → Prop} (hseq : SeqU gf lb encs K0 Φ S Sp w) (hK0 : ∀ k, K0 k → k < w.heap.size) (hps : ∀ x, (encs x).size = ps.size)
    (I : (Nat → Prop) → List α → World → Prop) (Ix : Code → List α → World → Prop) (hI : Abi w.heap.size I) (hIx : ∀ c, OwnFrom w.heap.size (Ix c)) (h0 : I K0 [] w) (a₁ : α → Act)
    (hassign : ∀ (l : Nat) (x : α) (W : World) (C : Act → World → Prop), C (a₁ x) W → assign.wpIn (Fence.wide.inRound l) 9 Try.prog (Exit.then C (fun _ _ _ => False)) { tmps := (ps.zip (encs x)).foldl (fun t (p, v) => t.setIfInBounds p v) a.tmps, defers := [] } W)
    (hΦ : ∀ (pre : List α) (x : α) (W : World) (l : Nat) (o o' : Obj), Φ pre x W → W.heap[l]? = some o → o.isCells = false → Φ pre x (W.putObj l o'))
    (hbody : ∀ (l : Nat) (K : Nat → Prop) (pre : List α) (x : α) (W : World), Φ pre x W → I K pre W → body.wpIn (Fence.wide.inRound l) 9 Try.prog (postU w.heap.size K I Ix (pre ++ [x]) W) (a₁ x) W)
    (hdone : ∀ (D : Nat) (K : Nat → Prop) (xs : List α) (W : World), w.heap.size ≤ D → S xs W → I K xs W → W.heap[D]? = some (.deferred (some [])) → Q .normal { a with defers := { target := .collected D, args := #[] } :: a.defers } W)
    (hS : ∀ (xs : List α) (W : World) (l : Nat) (o : Obj), S xs W → S xs (W.putObj l o) ∨ ∃ o', W.heap[l]? = some o' ∧ o'.isCells = true)
    (hstop : ∀ (D : Nat) (c : Code) (pre : List α) (W : World), w.heap.size ≤ D → Sp pre → Ix c pre W → W.heap[D]? = some (.deferred (some [])) → c.wpIn Fence.wide n Try.prog Q { a with defers := { target := .collected D, args := #[] } :: a.defers } W) :
    (Code.rangeFunc g ps assign body).wpIn Fence.wide n Try.prog Q a w :=
  range_M hg eg hseq hK0 hps I Ix hI hIx h0 (fun K pre x a' W => a' = a₁ x ∧ Φ pre x W ∧ I K pre W)
    (fun K pre x a' W l o o' ⟨h1, h2, h3⟩ hl ho hc _ => ⟨h1, hΦ pre x W l o o' h2 ho hc, hI.turn _ _ _ _ (some l) h3 (grownBy_putObj' W l o') (fun r e => by cases e; exact ⟨hl, o, ho, hc⟩)⟩)
    (fun l K pre x W C hphi hi hC => hassign l x W C (hC (a₁ x) W (KeepsFrom.refl _ _) (Turns.refl _ _) ⟨rfl, hphi, hi⟩))
    (fun l K pre x a' W _ _ _ ⟨h1, h2, h3⟩ => by rw [h1]; exact hbody l K pre x W h2 h3) hdone hS hstop
end Go.Proofs.Ytblclpagfbpamaa
