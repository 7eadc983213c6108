/-
  What ratio.Min does. For every two fractions that can be read: the lesser one, where they can be compared, else the first.
-/
import Derived.Test.YteicihaigkgbnaaCop
namespace Go.Proofs.Yteicihaigkgbnaa
open Go.RowKit

section
variable (A B C D : Option Addr) (n c m d n' c' m' d' : Nat) (xs ys us vs : List Nat) (p q r s : Nat) (w : World)
set_option maxHeartbeats 1600000 in
theorem min_bad (ha : Rd w A n c xs) (hb : Rd w B m d ys) (hc : Rd w C n' c' us) (hd : Rd w D m' d' vs) (f : (frB xs ys && frB us vs) = false) :
    Calls Try.prog 22 #[.agg #[.slice A n c, .slice B m d], .agg #[.slice C n' c', .slice D m' d']] w (OutR2 w [] [] 1) := by
  obtain ⟨hB1, hB2, hB3, hb0, hs0⟩ := boxes3 w 31 31 31 (.slice A n c) (.slice B m d) (.slice C n' c') (.slice D m' d') (.slice none 0 0) (.slice none 0 0)
  go_enter Try.func22, Try.ntmps22
  go_wp2_with fail
  generalize ((w.alloc (Obj.cells #[Value.slice A n c, Value.slice B m d] 31)).alloc (Obj.cells #[Value.slice C n' c', Value.slice D m' d'] 31)).alloc (Obj.cells #[Value.slice none 0 0, Value.slice none 0 0] 31) = W0 at *
  obtain ⟨k0, k1⟩ := hB1.cells
  obtain ⟨k2, k3⟩ := hB2.cells
  refine (crossed_bad _ _ _ _ _ _ _ _ _ _ _ _ xs ys us vs _ (ha.below hb0) (hb.below hb0) (hc.below hb0) (hd.below hb0) f).mono ?_
  rintro e w1 ⟨A3, n3, c3, B3, m3, d3, rfl, hN3, hM3, hb3⟩
  have hb01 := hb0.trans (hb3.mono hb0.size)
  have hB3a := hB3.below hb3 (by omega)
  clear k0 k1 k2 k3
  obtain ⟨k0, k1⟩ := hB3a.cells
  have f0 := hB3a.frozen 0
  have f1 := hB3a.frozen 1
  have HF := Lib.hid (outR2_nil (g := w.heap.size + 2) 1 hb01 (by omega))
  clear hB1 hB2 hB3 hB3a hb0 hb01 hb3 hN3 hM3
  go_wp2
  refine bodyPost_ret (v := .tuple #[.agg #[.slice none 0 0, .slice none 0 0], .int .i64 1]) (by simp [results, Try.results22, go_sem, k0, k1]) rfl ?_
  exact HF.out
set_option maxHeartbeats 1600000 in
theorem min_long (ha : Rd w A n c (digs p)) (hb : Rd w B m d (digs q)) (hc : Rd w C n' c' (digs r)) (hd : Rd w D m' d' (digs s)) (h1 : Fr p q) (h2 : Fr r s) (hl : 400 < (digs (p * s)).length ∨ 400 < (digs (r * q)).length) :
    Calls Try.prog 22 #[.agg #[.slice A n c, .slice B m d], .agg #[.slice C n' c', .slice D m' d']] w (OutR2 w (digs p) (digs q) 0) := by
  have e : prR p s r q = ([], [], 4) := by unfold prR; rw [if_neg (by omega)]
  have hcr := fun W g1 g2 g3 g4 => crossed_any A B C D n c m d n' c' m' d' p q r s W g1 g2 g3 g4 h1 h2
  rw [e] at hcr
  have HCR := Lib.hid hcr
  clear hcr e
  obtain ⟨hB1, hB2, hB3, hb0, hs0⟩ := boxes3 w 31 31 31 (.slice A n c) (.slice B m d) (.slice C n' c') (.slice D m' d') (.slice none 0 0) (.slice none 0 0)
  go_enter Try.func22, Try.ntmps22
  go_wp2_with fail
  generalize ((w.alloc (Obj.cells #[Value.slice A n c, Value.slice B m d] 31)).alloc (Obj.cells #[Value.slice C n' c', Value.slice D m' d'] 31)).alloc (Obj.cells #[Value.slice none 0 0, Value.slice none 0 0] 31) = W0 at *
  obtain ⟨k0, k1⟩ := hB1.cells
  obtain ⟨k2, k3⟩ := hB2.cells
  refine (HCR.out _ (ha.below hb0) (hb.below hb0) (hc.below hb0) (hd.below hb0)).mono ?_
  rintro e w1 ⟨A3, n3, c3, B3, m3, d3, rfl, hN3, hM3, hb3⟩
  have hb01 := hb0.trans (hb3.mono hb0.size)
  have hB1a := hB1.below hb3 (by omega)
  have hB2a := hB2.below hb3 (by omega)
  have hB3a := hB3.below hb3 (by omega)
  have hs3 := hb3.size
  clear hB1 hB2 hB3 k0 k1 k2 k3
  obtain ⟨k0, k1⟩ := hB1a.cells
  obtain ⟨k2, k3⟩ := hB2a.cells
  go_wp2_with fail
  refine (copied_any _ _ _ _ _ _ (digs p) (digs q) _ (ha.below hb01) (hb.below hb01) (by have := h1.1; rw [ha.len] at this; omega) (by have := h1.2.1; rw [hb.len] at this; omega)).mono ?_
  rintro e w5 ⟨A6, n6, c6, B6, m6, d6, rfl, hN6, hM6, hb6⟩
  have hb05 := hb01.trans (hb6.mono hb01.size)
  have hB3z := hB3a.below hb6 (by omega)
  clear k0 k1 k2 k3
  obtain ⟨k0, k1⟩ := hB3z.cells
  have f0 := hB3z.frozen 0
  have f1 := hB3z.frozen 1
  have HF := Lib.hid (outR2_end 0 (g := w.heap.size + 2) hN6 hM6 hb05 (by omega) (by omega))
  clear hB1a hB2a hB3a hB3z hb0 hb01 hb05 hb3 hb6 hN3 hM3 hN6 hM6
  go_wp2
  refine bodyPost_ret (v := .tuple #[.agg #[.slice A6 n6 c6, .slice B6 m6 d6], .int .i64 0]) (by simp [results, Try.results22, go_sem, k0, k1]) rfl ?_
  exact HF.out
set_option maxHeartbeats 1600000 in
theorem min_b (ha : Rd w A n c (digs p)) (hb : Rd w B m d (digs q)) (hc : Rd w C n' c' (digs r)) (hd : Rd w D m' d' (digs s)) (h1 : Fr p q) (h2 : Fr r s) (l1 : (digs (p * s)).length ≤ 400) (l2 : (digs (r * q)).length ≤ 400) (hlt : r * q < p * s) :
    Calls Try.prog 22 #[.agg #[.slice A n c, .slice B m d], .agg #[.slice C n' c', .slice D m' d']] w (OutR2 w (digs r) (digs s) 0) := by
  have e : prR p s r q = (digs (p * s), digs (r * q), 0) := by unfold prR; rw [if_pos ⟨l1, l2⟩]
  have hcr := fun W g1 g2 g3 g4 => crossed_any A B C D n c m d n' c' m' d' p q r s W g1 g2 g3 g4 h1 h2
  rw [e] at hcr
  have HCR := Lib.hid hcr
  clear hcr e
  obtain ⟨hB1, hB2, hB3, hb0, hs0⟩ := boxes3 w 31 31 31 (.slice A n c) (.slice B m d) (.slice C n' c') (.slice D m' d') (.slice none 0 0) (.slice none 0 0)
  go_enter Try.func22, Try.ntmps22
  go_wp2_with fail
  generalize ((w.alloc (Obj.cells #[Value.slice A n c, Value.slice B m d] 31)).alloc (Obj.cells #[Value.slice C n' c', Value.slice D m' d'] 31)).alloc (Obj.cells #[Value.slice none 0 0, Value.slice none 0 0] 31) = W0 at *
  obtain ⟨k0, k1⟩ := hB1.cells
  obtain ⟨k2, k3⟩ := hB2.cells
  refine (HCR.out _ (ha.below hb0) (hb.below hb0) (hc.below hb0) (hd.below hb0)).mono ?_
  rintro e w1 ⟨A3, n3, c3, B3, m3, d3, rfl, hN3, hM3, hb3⟩
  have hb01 := hb0.trans (hb3.mono hb0.size)
  have hB1a := hB1.below hb3 (by omega)
  have hB2a := hB2.below hb3 (by omega)
  have hB3a := hB3.below hb3 (by omega)
  have hs3 := hb3.size
  clear hB1 hB2 hB3 k0 k1 k2 k3
  obtain ⟨k0, k1⟩ := hB1a.cells
  obtain ⟨k2, k3⟩ := hB2a.cells
  go_wp2_with fail
  refine (cmp_nat _ _ _ _ _ _ (r * q) (p * s) _ hM3.1 hN3.1 l2 l1).mono ?_
  rw [cmpN_lt hlt]
  rintro e w2 ⟨rfl, nq, rfl⟩
  have hb02 := below_drewN' hb01 nq
  have hB1b := hB1a.drewN nq
  have hB2b := hB2a.drewN nq
  have hB3b := hB3a.drewN nq
  have hs4 : (w1.drewN nq).heap.size = w1.heap.size := rfl
  clear k0 k1 k2 k3
  obtain ⟨k0, k1⟩ := hB1b.cells
  obtain ⟨k2, k3⟩ := hB2b.cells
  go_wp2_with fail
  refine (copied_any _ _ _ _ _ _ (digs r) (digs s) _ (hc.below hb02) (hd.below hb02) (by have := h2.1; rw [hc.len] at this; omega) (by have := h2.2.1; rw [hd.len] at this; omega)).mono ?_
  rintro e w5 ⟨A6, n6, c6, B6, m6, d6, rfl, hN6, hM6, hb6⟩
  have hb05 := hb02.trans (hb6.mono hb02.size)
  have hB3z := hB3b.below hb6 (by omega)
  clear k0 k1 k2 k3
  obtain ⟨k0, k1⟩ := hB3z.cells
  have f0 := hB3z.frozen 0
  have f1 := hB3z.frozen 1
  have HF := Lib.hid (outR2_end 0 (g := w.heap.size + 2) hN6 hM6 hb05 (by omega) (by omega))
  clear hB1a hB2a hB3a hB1b hB2b hB3b hB3z hb0 hb01 hb02 hb05 hb3 hb6 hN3 hM3 hN6 hM6
  go_wp2
  refine bodyPost_ret (v := .tuple #[.agg #[.slice A6 n6 c6, .slice B6 m6 d6], .int .i64 0]) (by simp [results, Try.results22, go_sem, k0, k1]) rfl ?_
  exact HF.out
set_option maxHeartbeats 1600000 in
theorem min_a (ha : Rd w A n c (digs p)) (hb : Rd w B m d (digs q)) (hc : Rd w C n' c' (digs r)) (hd : Rd w D m' d' (digs s)) (h1 : Fr p q) (h2 : Fr r s) (l1 : (digs (p * s)).length ≤ 400) (l2 : (digs (r * q)).length ≤ 400) (hle : p * s ≤ r * q) :
    Calls Try.prog 22 #[.agg #[.slice A n c, .slice B m d], .agg #[.slice C n' c', .slice D m' d']] w (OutR2 w (digs p) (digs q) 0) := by
  have e : prR p s r q = (digs (p * s), digs (r * q), 0) := by unfold prR; rw [if_pos ⟨l1, l2⟩]
  have hcr := fun W g1 g2 g3 g4 => crossed_any A B C D n c m d n' c' m' d' p q r s W g1 g2 g3 g4 h1 h2
  rw [e] at hcr
  have HCR := Lib.hid hcr
  clear hcr e
  obtain ⟨hB1, hB2, hB3, hb0, hs0⟩ := boxes3 w 31 31 31 (.slice A n c) (.slice B m d) (.slice C n' c') (.slice D m' d') (.slice none 0 0) (.slice none 0 0)
  go_enter Try.func22, Try.ntmps22
  go_wp2_with fail
  generalize ((w.alloc (Obj.cells #[Value.slice A n c, Value.slice B m d] 31)).alloc (Obj.cells #[Value.slice C n' c', Value.slice D m' d'] 31)).alloc (Obj.cells #[Value.slice none 0 0, Value.slice none 0 0] 31) = W0 at *
  obtain ⟨k0, k1⟩ := hB1.cells
  obtain ⟨k2, k3⟩ := hB2.cells
  refine (HCR.out _ (ha.below hb0) (hb.below hb0) (hc.below hb0) (hd.below hb0)).mono ?_
  rintro e w1 ⟨A3, n3, c3, B3, m3, d3, rfl, hN3, hM3, hb3⟩
  have hb01 := hb0.trans (hb3.mono hb0.size)
  have hB1a := hB1.below hb3 (by omega)
  have hB2a := hB2.below hb3 (by omega)
  have hB3a := hB3.below hb3 (by omega)
  have hs3 := hb3.size
  clear hB1 hB2 hB3 k0 k1 k2 k3
  obtain ⟨k0, k1⟩ := hB1a.cells
  obtain ⟨k2, k3⟩ := hB2a.cells
  go_wp2_with fail
  refine (cmp_nat _ _ _ _ _ _ (r * q) (p * s) _ hM3.1 hN3.1 l2 l1).mono ?_
  have hcn : decide (cmpN (r * q) (p * s) < 0) = false := by unfold cmpN; rw [if_neg (by omega)]; split <;> rfl
  rintro e w2 ⟨rfl, nq, rfl⟩
  have hb02 := below_drewN' hb01 nq
  have hB1b := hB1a.drewN nq
  have hB2b := hB2a.drewN nq
  have hB3b := hB3a.drewN nq
  have hs4 : (w1.drewN nq).heap.size = w1.heap.size := rfl
  clear k0 k1 k2 k3
  obtain ⟨k0, k1⟩ := hB1b.cells
  obtain ⟨k2, k3⟩ := hB2b.cells
  go_wp2_with fail
  refine (copied_any _ _ _ _ _ _ (digs p) (digs q) _ (ha.below hb02) (hb.below hb02) (by have := h1.1; rw [ha.len] at this; omega) (by have := h1.2.1; rw [hb.len] at this; omega)).mono ?_
  rintro e w5 ⟨A6, n6, c6, B6, m6, d6, rfl, hN6, hM6, hb6⟩
  have hb05 := hb02.trans (hb6.mono hb02.size)
  have hB3z := hB3b.below hb6 (by omega)
  clear k0 k1 k2 k3
  obtain ⟨k0, k1⟩ := hB3z.cells
  have f0 := hB3z.frozen 0
  have f1 := hB3z.frozen 1
  have HF := Lib.hid (outR2_end 0 (g := w.heap.size + 2) hN6 hM6 hb05 (by omega) (by omega))
  clear hB1a hB2a hB3a hB1b hB2b hB3b hB3z hb0 hb01 hb02 hb05 hb3 hb6 hN3 hM3 hN6 hM6
  go_wp2
  refine bodyPost_ret (v := .tuple #[.agg #[.slice A6 n6 c6, .slice B6 m6 d6], .int .i64 0]) (by simp [results, Try.results22, go_sem, k0, k1]) rfl ?_
  exact HF.out
end
end Go.Proofs.Yteicihaigkgbnaa
