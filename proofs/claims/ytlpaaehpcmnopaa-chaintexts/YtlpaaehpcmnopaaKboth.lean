/-
  A chain in memory and the reference's chain beside it: what one's calls turn leaves the other as it is. Rows that are parted at a member. The conditions stand in each theorem.
-/
import Derived.Test.YtlpaaehpcmnopaaKref2
import Derived.Test.YtlpaaehpcmnopaaKrow
namespace Go.Proofs.Ytlpaaehpcmnopaa
open Go.RowKit
set_option linter.unusedVariables false

section
variable {β : Type} {ev : β → Value} {TC TM : TypeId} {w w' w1 w2 : World} {s : ChS β} {base K : Nat} {R : List (Int × Int)} {nx : Int}

/-- A block of cells of another type is none of a chain's. -/
theorem Gd.not_foot (h : Gd ev TC TM w s) {b : Nat} {t : TypeId} {cs : Array Value} {fz : Nat × Nat} (hb : w.heap[b]? = some (.cells cs t fz)) (h1 : t ≠ TC) (h2 : t ≠ TM) : ¬ s.foot b := by
  rintro (rfl | hm | ⟨x, hx, rfl⟩)
  · have := h.ch.blk
    unfold KB at this
    rw [this] at hb
    injection hb with hb
    injection hb with _ ht _
    exact h1 ht.symm
  · have := h.ch.mp
    rw [hm] at this
    obtain ⟨es, c, hi⟩ := this.isMap
    rw [hi] at hb
    cases hb
  · have := h.ch.mem x hx
    unfold KB at this
    rw [this] at hb
    injection hb with hb
    injection hb with _ ht _
    exact h2 ht.symm
theorem KB.side {t : TypeId} {b : Nat} {cs : Array Value} (hk : KB w b t cs) (h : Gd ev TC TM w s) (h1 : t ≠ TC) (h2 : t ≠ TM) (ht : Turns s.foot w w') : KB w' b t cs := hk.turns ht (h.not_foot hk h1 h2)
theorem RC.side (hr : RC base K w R nx) (h : Gd ev TC TM w s) (h1 : (29 : TypeId) ≠ TC) (h2 : (29 : TypeId) ≠ TM) (h3 : (54 : TypeId) ≠ TC) (h4 : (54 : TypeId) ≠ TM) (ht : Turns s.foot w w') : RC base K w' R nx := by
  obtain ⟨v, hk, hl, hf⟩ := hr
  refine ⟨v, hk.side h h1 h2 ht, hl, ?_⟩
  rcases hf with h0 | ⟨g, cap, cur, rfl, hb, hg, rest⟩
  · exact .inl h0
  · exact .inr ⟨g, cap, cur, rfl, hb, (ht.block g (Array.getElem?_eq_some_iff.1 hg).1 (h.not_foot hg h3 h4)).trans hg, rest⟩
theorem Gd.side (h : Gd ev TC TM w s) (hr : RC base K w R nx) (h1 : (29 : TypeId) ≠ TC) (h2 : (29 : TypeId) ≠ TM) (ht : Turns (fun b => b = K) w w') : Gd ev TC TM w' s := by
  obtain ⟨v, hk, _⟩ := hr
  exact h.turns ht (fun b hb e => h.not_foot hk h1 h2 (e ▸ hb))

/-- The two of them: Q tells how the rows lie to each other. -/
structure Bt (ev : β → Value) (TC TM : TypeId) (base K : Nat) (w : World) (s : ChS β) (R : List (Int × Int)) : Prop where
  gd : Gd ev TC TM w s
  rc : RC base K w R s.g
  ft : ∀ b, s.foot b → base ≤ b
  kb : base ≤ K
theorem Bt.sz (h : Bt ev TC TM base K w s R) : base ≤ w.heap.size := by
  obtain ⟨v, hk, _⟩ := h.rc
  have := hk.lt
  have := h.kb
  omega
/-- A call of one, then a call of the other. -/
theorem Bt.step (h : Bt ev TC TM base K w s R) (h1 : (29 : TypeId) ≠ TC) (h2 : (29 : TypeId) ≠ TM) {g : Int} {S : List (Int × β)} {R' : List (Int × Int)} (hc : ChTo ev TC TM w w1 s g S) (hr : RC base K w1 R s.g) (hr2 : RcTo base K w1 w2 R' g) :
    ∃ s', s'.C = s.C ∧ s'.g = g ∧ s'.row = S ∧ Bt ev TC TM base K w2 s' R' ∧ Below base w w2 := by
  obtain ⟨s', hg, e1, e2, e3, ht, hf⟩ := hc
  refine ⟨s', e1, e2, e3, ⟨hg.side hr h1 h2 hr2.2, by rw [e2]; exact hr2.1, fun b hb => ?_, h.kb⟩, (ht.below h.sz h.ft).trans (hr2.2.below (Nat.le_trans h.sz ht.size) (fun b e => e ▸ h.kb))⟩
  rcases hf b hb with h3 | h3
  · exact h.ft b h3
  · exact Nat.le_trans h.sz h3
end

/-! Rows, parted at a member. -/
section
variable {β : Type}
theorem row_split (s : ChS β) (hn : s.hs.Nodup) {h : Int} (hh : h ∈ s.hs) : ∃ xs ys, s.row = xs ++ (h, s.vl h) :: ys ∧ (∀ x ∈ xs, x.1 ≠ h) ∧ ∀ x ∈ ys, x.1 ≠ h := by
  obtain ⟨xs, ys, hs⟩ := List.append_of_mem hh
  rw [hs, List.nodup_append] at hn
  obtain ⟨_, h2, h3⟩ := hn
  refine ⟨xs.map fun x => (x, s.vl x), ys.map fun x => (x, s.vl x), by unfold ChS.row; rw [hs]; simp, row_ne (fun hx => h3 h hx h (by simp) rfl), row_ne (List.nodup_cons.1 h2).1⟩
theorem row_no (s : ChS β) {h : Int} (hh : h ∉ s.hs) : ∀ x ∈ s.row, x.1 ≠ h := row_ne hh
end
theorem ixR_nonneg {h : Int} : ∀ {R : List (Int × Int)} {y : Int × Int}, y ∈ R → y.1 = h → 0 ≤ ixR h R
  | [], y, hy, _ => by cases hy
  | x :: xs, y, hy, e => by
    unfold ixR
    split
    · omega
    · rename_i hx
      have hm : y ∈ xs := by
        rcases List.mem_cons.1 hy with h1 | h1
        · exact absurd (h1 ▸ e) hx
        · exact h1
      have := ixR_nonneg hm e
      rw [if_neg (by omega)]; omega
theorem setR_mid {β : Type} {h : Int} {u v : β} {xs ys : List (Int × β)} (hx : ∀ x ∈ xs, x.1 ≠ h) (hz : ∀ x ∈ ys, x.1 ≠ h) : setR h v (xs ++ (h, u) :: ys) = xs ++ (h, v) :: ys := by
  have key : ∀ l : List (Int × β), (∀ x ∈ l, x.1 ≠ h) → l.map (fun x => if x.1 = h then (h, v) else x) = l := fun l hl => (List.map_congr_left (g := id) fun x hx => if_neg (hl x hx)).trans (List.map_id _)
  unfold setR
  rw [List.map_append, List.map_cons, key xs hx, key ys hz]
  simp
theorem rm_set (xs ys : List (Int × Int)) (y : Int × Int) (v : Int) : (rm (xs ++ y :: ys)).set (xs.length * 2 + 1) (.int .i64 v) = rm (xs ++ (y.1, v) :: ys) := by
  rw [rm_append, rm_append, List.set_append_right _ _ (by rw [rm_len]; omega), rm_len, show xs.length * 2 + 1 - xs.length * 2 = 1 by omega]
  rfl
end Go.Proofs.Ytlpaaehpcmnopaa
