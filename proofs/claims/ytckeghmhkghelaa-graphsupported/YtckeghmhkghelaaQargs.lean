/-
  A snapshot that is handed in reads as a list of voters, each with its picks, and a list of candidates. For every snapshot that can be read.
-/
import Derived.Test.YtckeghmhkghelaaQmem
import Derived.Deep.Slices
import Derived.Deep.Fields
import Derived.ChangeSame
import Derived.Lib.SmallJoins
import Derived.OpenShut
namespace Go.Proofs.Ytckeghmhkghelaa
open Go.ChangeShapes Go.WideShapes Go.Deep Go.RowKit
set_option linter.unusedVariables false

theorem qcell_lt {w : World} {x : Addr} {v : Value} (h : w.cell? x = some v) : x.block < w.heap.size := by
  rcases Nat.lt_or_ge x.block w.heap.size with h1 | h1
  · exact h1
  · unfold World.cell? at h
    rw [Array.getElem?_eq_none h1] at h
    cases h
theorem qadd_blk (x : Addr) (n : Nat) : (x.add n).block = x.block := by unfold Addr.add; split <;> rfl
theorem qadd_two (x : Addr) (i j : Nat) : (x.add i).add j = x.add (i + j) := by
  unfold Addr.add
  by_cases hi : i = 0 <;> by_cases hj : j = 0 <;> simp [hi, hj, Nat.add_assoc]
theorem qaddr_add (g o j : Nat) : (⟨g, o, none⟩ : Addr).add j = ⟨g, o + j, none⟩ := by unfold Addr.add; split <;> simp [*]
theorem qlist_of {α : Type} {n : Nat} {p : Nat → α → Prop} (h : ∀ i, i < n → ∃ o, p i o) : ∃ os : List α, os.length = n ∧ ∀ i o, os[i]? = some o → p i o := by
  induction n with
  | zero => exact ⟨[], rfl, by simp⟩
  | succ n ih =>
    obtain ⟨os, hl, hp⟩ := ih (fun i hi => h i (by omega))
    obtain ⟨o, ho⟩ := h n (by omega)
    refine ⟨os ++ [o], by simp [hl], fun i q hq => ?_⟩
    rcases Nat.lt_or_ge i n with h1 | h1
    · rw [List.getElem?_append_left (by omega)] at hq
      exact hp i q hq
    · rw [List.getElem?_append_right (by omega)] at hq
      have : i = n := by
        rcases Nat.lt_or_ge n i with h2 | h2
        · rw [List.getElem?_eq_none (by simp; omega)] at hq; cases hq
        · omega
      subst this
      simp [hl] at hq
      subst hq
      exact ho
section
variable {H : Type} {enc : TypeId × Value → H} {w : World} {base : Nat} {spare : Nat → Bool} {held : Bool} {fuel : Nat} {v : Value} {x : DataW H × List MemPlace}
theorem open_ri (h : DataW.trod enc Try.prog w base spare held fuel 23 [v] = some x) : ∃ a n c zs, v = .slice a n c ∧ Ri w a n c zs := by
  rcases open_ints Try.underlying23 Try.underlying3 (by kernel_rfl) h with ⟨hcs, _⟩ | ⟨a, l, c, zs, hcs, _, hl, hm, hz, _, hcell, hwz⟩
  · simp at hcs
    exact ⟨_, _, _, [], hcs, Ri.nil w⟩
  · simp at hcs
    have hlz : l ≤ zs.length := by rw [hz]; split <;> omega
    refine ⟨_, _, _, zs.take l, hcs, by rw [List.length_take]; omega, hl, by unfold maxLen at hm; exact hm, fun z hzm => bounds_i64 (hwz z (List.mem_of_mem_take hzm)), fun h0 => ?_⟩
    obtain ⟨b, o, sp⟩ := a
    have c0 := hcell 0 (by omega)
    have hsp : sp = none := by simpa [Addr.add] using World.cell?_spot c0
    subst hsp
    refine ⟨b, o, rfl, ?_, fun j hj => ?_⟩
    · have := qcell_lt c0; rwa [qadd_blk] at this
    · have := hcell j (by omega)
      rw [qaddr_add] at this
      rw [this]
      congr 2
      unfold zl
      rw [List.getD_eq_getElem?_getD, List.getD_eq_getElem?_getD, List.getElem?_take_of_lt hj]

set_option maxRecDepth 100000 in
theorem open_rv (h : DataW.trod enc Try.prog w base spare held fuel 22 [v] = some x) : ∃ a n c vs, v = .slice a n c ∧ Rv w a n c vs := by
  have hC : Try.prog.cellsOf 31 = 3 := by kernel_rfl
  rcases open_slice Try.underlying22 h with ⟨hcs, _⟩ | ⟨a, len, cap, m, f, D, Pl, hcs, hb, hl, hm, hmm, hx, hi⟩
  · simp at hcs
    exact ⟨_, _, _, [], hcs, Rv.nil w⟩
  · simp at hcs
    have hnm : len ≤ m := by rw [hmm]; split <;> omega
    have key : ∀ i, i < len → ∃ r : Vr, (r.ok ∧ Ri w r.a r.n r.c r.ps) ∧ w.cell? (a.add (i * 3)) = some (.int .i64 r.id) ∧ w.cell? (a.add (i * 3 + 1)) = some (.int .u64 (r.st : Int)) ∧ w.cell? (a.add (i * 3 + 2)) = some (.slice r.a r.n r.c) := by
      intro i hin
      obtain ⟨cs', hc', ht'⟩ := hi i (by omega)
      rw [hC] at hc'
      obtain ⟨ys, n', hn', hy, hlen, hyl, hf⟩ := DataW.trod_struct Try.underlying31 ht'
      obtain ⟨_, hcl, hat⟩ := World.cells?_some hc'
      have one : ∀ j (hj : j < 3), (cs'.drop j).take 1 = [cs'[j]'(by omega)] := fun j hj => by
        rw [List.drop_eq_getElem_cons (by omega)]; rfl
      have cell : ∀ j (hj : j < 3), w.cell? (a.add (i * 3 + j)) = some (cs'[j]'(by omega)) := fun j hj => by
        have hcell := hat j (by omega)
        rw [qadd_two] at hcell
        rw [hcell]
        exact List.getElem?_eq_getElem (by omega)
      have h0 : ∃ y, DataW.trod enc Try.prog w base spare held n' 3 [cs'[0]'(by omega)] = some y := by
        rw [← one 0 (by omega)]
        exact ⟨_, (hf 0 _ rfl).trans (List.getElem?_eq_getElem (by rw [hyl]; decide))⟩
      have h1 : ∃ y, DataW.trod enc Try.prog w base spare held n' 29 [cs'[1]'(by omega)] = some y := by
        rw [← one 1 (by omega)]
        exact ⟨_, (hf 1 _ rfl).trans (List.getElem?_eq_getElem (by rw [hyl]; decide))⟩
      have h2 : ∃ y, DataW.trod enc Try.prog w base spare held n' 23 [cs'[2]'(by omega)] = some y := by
        rw [← one 2 (by omega)]
        exact ⟨_, (hf 2 _ rfl).trans (List.getElem?_eq_getElem (by rw [hyl]; decide))⟩
      obtain ⟨y0, e0⟩ := h0
      obtain ⟨y1, e1⟩ := h1
      obtain ⟨y2, e2⟩ := h2
      obtain ⟨z0, hz0, _, w0⟩ := DataW.trod_int Try.underlying3 e0
      obtain ⟨z1, hz1, _, w1⟩ := DataW.trod_int Try.underlying29 e1
      obtain ⟨pa, pn, pc, ps, hp, hri⟩ := open_ri e2
      simp at hz0 hz1
      have b1 := bounds_u64 w1
      obtain ⟨N, rfl⟩ := Int.eq_ofNat_of_zero_le b1.1
      refine ⟨⟨z0, N, pa, pn, pc, ps⟩, ⟨⟨by dsimp only; omega, bounds_i64 w0⟩, hri⟩, ?_, ?_, ?_⟩
      · have := cell 0 (by omega); rw [hz0] at this; exact this
      · have := cell 1 (by omega); rw [hz1] at this; exact this
      · have := cell 2 (by omega); rw [hp] at this; exact this
    obtain ⟨vs, hl', hp⟩ := qlist_of key
    refine ⟨_, _, _, vs, hcs, hl', hl, by unfold maxLen at hm; exact hm, fun u hu => ?_, fun h0 => ?_⟩
    · obtain ⟨i, hi, rfl⟩ := List.mem_iff_getElem.1 hu
      exact (hp i _ (List.getElem?_eq_getElem hi)).1
    · obtain ⟨b, o, sp⟩ := a
      obtain ⟨r0, _, c0, _⟩ := key 0 h0
      have hsp : sp = none := by simpa [Addr.add] using World.cell?_spot c0
      subst hsp
      refine ⟨b, o, rfl, by have := qcell_lt c0; rwa [qadd_blk] at this, fun j u hu => ?_⟩
      obtain ⟨_, d0, d1, d2⟩ := hp j u hu
      rw [qaddr_add] at d0 d1 d2
      exact ⟨d0, by rw [Nat.add_assoc]; exact d1, by rw [Nat.add_assoc]; exact d2⟩
end
end Go.Proofs.Ytckeghmhkghelaa
