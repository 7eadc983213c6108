/-
  What ratio.joined, Add and Sub do. For every fraction that can be read: an error number where the document asks for one, else the fraction in lowest terms.
-/
import Derived.Test.YtehekjlakegkpaaGreatX16
section
namespace Go.Proofs.YtehekjlakegkpaaGreat
open Go.RowKit

theorem sub_nat_less (A B : Option Addr) (n c m d a b : Nat) (w : World) (ha : Rd w A n c (digs a)) (hb : Rd w B m d (digs b)) (la : (digs a).length ≤ 400) (lb : (digs b).length ≤ 400) (h : a < b) :
    Calls Tryz.prog 123 #[.slice A n c, .slice B m d] w (Out2 w [] 3) :=
  Sub_less A B n c m d (digs a) (digs b) w ha hb (fm_digs la) (fm_digs lb) (by rw [val_digs, val_digs]; exact h)
theorem add_nat_long (A B : Option Addr) (n c m d a b : Nat) (w : World) (ha : Rd w A n c (digs a)) (hb : Rd w B m d (digs b)) (la : (digs a).length ≤ 400) (lb : (digs b).length ≤ 400) (h : 400 < (digs (a + b)).length) :
    Calls Tryz.prog 49 #[.slice A n c, .slice B m d] w (Out2 w [] 4) :=
  add_long A B n c m d (digs a) (digs b) w ha hb (fm_digs la) (fm_digs lb) (by rw [val_digs, val_digs]; exact h)
section
variable (A B C D : Option Addr) (n c m d n' c' m' d' : Nat) (xs ys us vs : List Nat) (p q r s : Nat) (w : World)
set_option maxHeartbeats 1600000 in
theorem joinadd_bad (ha : Rd w A n c xs) (hb : Rd w B m d ys) (hc : Rd w C n' c' us) (hd : Rd w D m' d' vs) (f : (frB xs ys && frB us vs) = false) :
    Calls Tryz.prog 48 #[.agg #[.slice A n c, .slice B m d], .agg #[.slice C n' c', .slice D m' d'], .func (.func 49) #[] #[]] w (OutR2 w [] [] 1) := by
  obtain ⟨hB1, hB2, hB3, hb0, hs0⟩ := boxes3 w 38 38 38 (.slice A n c) (.slice B m d) (.slice C n' c') (.slice D m' d') (.slice none 0 0) (.slice none 0 0)
  go_enter Tryz.func48, Tryz.ntmps48
  go_wp2_with fail
  generalize ((w.alloc (Obj.cells #[Value.slice A n c, Value.slice B m d] 38)).alloc (Obj.cells #[Value.slice C n' c', Value.slice D m' d'] 38)).alloc (Obj.cells #[Value.slice none 0 0, Value.slice none 0 0] 38) = W0 at *
  obtain ⟨k0, k1⟩ := hB1.cells
  obtain ⟨k2, k3⟩ := hB2.cells
  refine (crossed_bad _ _ _ _ _ _ _ _ _ _ _ _ xs ys us vs _ (ha.below hb0) (hb.below hb0) (hc.below hb0) (hd.below hb0) f).mono ?_
  rintro e w1 ⟨A3, n3, c3, B3, m3, d3, rfl, hN3, hM3, hb3⟩
  have hb01 := hb0.trans (hb3.mono hb0.size)
  have hB3a := hB3.below hb3 (by omega)
  clear k0 k1 k2 k3
  obtain ⟨k0, k1⟩ := hB3a.cells
  have f0 := hB3a.frozen 0
  have f1 := hB3a.frozen 1
  have HF := Lib.hid (outR2_nil (g := w.heap.size + 2) 1 hb01 (by omega))
  clear hB1 hB2 hB3 hB3a hb0 hb01 hb3 hN3 hM3
  go_wp2
  refine bodyPost_ret (v := .tuple #[.agg #[.slice none 0 0, .slice none 0 0], .int .i64 1]) (by simp [results, Tryz.results48, go_sem, k0, k1]) rfl ?_
  exact HF.out
set_option maxHeartbeats 1600000 in
theorem joinadd_long (ha : Rd w A n c (digs p)) (hb : Rd w B m d (digs q)) (hc : Rd w C n' c' (digs r)) (hd : Rd w D m' d' (digs s)) (h1 : Fr p q) (h2 : Fr r s) (hl : 400 < (digs (p * s)).length ∨ 400 < (digs (r * q)).length) :
    Calls Tryz.prog 48 #[.agg #[.slice A n c, .slice B m d], .agg #[.slice C n' c', .slice D m' d'], .func (.func 49) #[] #[]] w (OutR2 w [] [] 4) := by
  have e : prR p s r q = ([], [], 4) := by unfold prR; rw [if_neg (by omega)]
  have hcr := fun W g1 g2 g3 g4 => crossed_any A B C D n c m d n' c' m' d' p q r s W g1 g2 g3 g4 h1 h2
  rw [e] at hcr
  have HCR := Lib.hid hcr
  clear hcr e
  obtain ⟨hB1, hB2, hB3, hb0, hs0⟩ := boxes3 w 38 38 38 (.slice A n c) (.slice B m d) (.slice C n' c') (.slice D m' d') (.slice none 0 0) (.slice none 0 0)
  go_enter Tryz.func48, Tryz.ntmps48
  go_wp2_with fail
  generalize ((w.alloc (Obj.cells #[Value.slice A n c, Value.slice B m d] 38)).alloc (Obj.cells #[Value.slice C n' c', Value.slice D m' d'] 38)).alloc (Obj.cells #[Value.slice none 0 0, Value.slice none 0 0] 38) = W0 at *
  obtain ⟨k0, k1⟩ := hB1.cells
  obtain ⟨k2, k3⟩ := hB2.cells
  refine (HCR.out _ (ha.below hb0) (hb.below hb0) (hc.below hb0) (hd.below hb0)).mono ?_
  rintro e w1 ⟨A3, n3, c3, B3, m3, d3, rfl, hN3, hM3, hb3⟩
  have hb01 := hb0.trans (hb3.mono hb0.size)
  have hB1a := hB1.below hb3 (by omega)
  have hB2a := hB2.below hb3 (by omega)
  have hB3a := hB3.below hb3 (by omega)
  have hs3 := hb3.size
  clear hB1 hB2 hB3 k0 k1 k2 k3
  obtain ⟨k0, k1⟩ := hB1a.cells
  obtain ⟨k2, k3⟩ := hB2a.cells
  clear k0 k1 k2 k3
  obtain ⟨k0, k1⟩ := hB3a.cells
  have f0 := hB3a.frozen 0
  have f1 := hB3a.frozen 1
  have HF := Lib.hid (outR2_nil (g := w.heap.size + 2) 4 hb01 (by omega))
  clear hB1a hB2a hB3a hb0 hb01 hb3 hN3 hM3
  go_wp2
  refine bodyPost_ret (v := .tuple #[.agg #[.slice none 0 0, .slice none 0 0], .int .i64 4]) (by simp [results, Tryz.results48, go_sem, k0, k1]) rfl ?_
  exact HF.out
set_option maxHeartbeats 1600000 in
theorem joinadd_den (ha : Rd w A n c (digs p)) (hb : Rd w B m d (digs q)) (hc : Rd w C n' c' (digs r)) (hd : Rd w D m' d' (digs s)) (h1 : Fr p q) (h2 : Fr r s) (l1 : (digs (p * s)).length ≤ 400) (l2 : (digs (r * q)).length ≤ 400) (l3 : 400 < (digs (q * s)).length) :
    Calls Tryz.prog 48 #[.agg #[.slice A n c, .slice B m d], .agg #[.slice C n' c', .slice D m' d'], .func (.func 49) #[] #[]] w (OutR2 w [] [] 4) := by
  have e : prR p s r q = (digs (p * s), digs (r * q), 0) := by unfold prR; rw [if_pos ⟨l1, l2⟩]
  have hcr := fun W g1 g2 g3 g4 => crossed_any A B C D n c m d n' c' m' d' p q r s W g1 g2 g3 g4 h1 h2
  rw [e] at hcr
  have HCR := Lib.hid hcr
  clear hcr e
  obtain ⟨hB1, hB2, hB3, hb0, hs0⟩ := boxes3 w 38 38 38 (.slice A n c) (.slice B m d) (.slice C n' c') (.slice D m' d') (.slice none 0 0) (.slice none 0 0)
  go_enter Tryz.func48, Tryz.ntmps48
  go_wp2_with fail
  generalize ((w.alloc (Obj.cells #[Value.slice A n c, Value.slice B m d] 38)).alloc (Obj.cells #[Value.slice C n' c', Value.slice D m' d'] 38)).alloc (Obj.cells #[Value.slice none 0 0, Value.slice none 0 0] 38) = W0 at *
  obtain ⟨k0, k1⟩ := hB1.cells
  obtain ⟨k2, k3⟩ := hB2.cells
  refine (HCR.out _ (ha.below hb0) (hb.below hb0) (hc.below hb0) (hd.below hb0)).mono ?_
  rintro e w1 ⟨A3, n3, c3, B3, m3, d3, rfl, hN3, hM3, hb3⟩
  have hb01 := hb0.trans (hb3.mono hb0.size)
  have hB1a := hB1.below hb3 (by omega)
  have hB2a := hB2.below hb3 (by omega)
  have hB3a := hB3.below hb3 (by omega)
  have hs3 := hb3.size
  clear hB1 hB2 hB3 k0 k1 k2 k3
  obtain ⟨k0, k1⟩ := hB1a.cells
  obtain ⟨k2, k3⟩ := hB2a.cells
  go_wp2_with fail
  refine (mul_nat_long _ _ _ _ _ _ q s _ (hb.below hb01) (hd.below hb01) h1.2.1 h2.2.1 l3).mono ?_
  rintro e w2 ⟨A4, n4, c4, rfl, hN4, hb4⟩
  have hb02 := hb01.trans (hb4.mono hb01.size)
  have hB3b := hB3a.below hb4 (by omega)
  have hs4 := hb4.size
  have hN3b := hN3.below hb4
  have hM3b := hM3.below hb4
  clear k0 k1 k2 k3
  obtain ⟨k0, k1⟩ := hB3b.cells
  have f0 := hB3b.frozen 0
  have f1 := hB3b.frozen 1
  have HF := Lib.hid (outR2_nil (g := w.heap.size + 2) 4 hb02 (by omega))
  clear hB1a hB2a hB3a hB3b hb0 hb01 hb02 hb3 hb4 hN3 hM3 hN3b hM3b hN4
  go_wp2
  refine bodyPost_ret (v := .tuple #[.agg #[.slice none 0 0, .slice none 0 0], .int .i64 4]) (by simp [results, Tryz.results48, go_sem, k0, k1]) rfl ?_
  exact HF.out
set_option maxHeartbeats 1600000 in
theorem joinadd_yes (ha : Rd w A n c (digs p)) (hb : Rd w B m d (digs q)) (hc : Rd w C n' c' (digs r)) (hd : Rd w D m' d' (digs s)) (h1 : Fr p q) (h2 : Fr r s) (l1 : (digs (p * s)).length ≤ 400) (l2 : (digs (r * q)).length ≤ 400) (l3 : (digs (q * s)).length ≤ 400) (l4 : (digs (p * s + r * q)).length ≤ 400) :
    Calls Tryz.prog 48 #[.agg #[.slice A n c, .slice B m d], .agg #[.slice C n' c', .slice D m' d'], .func (.func 49) #[] #[]] w (OutR2 w (digs ((p * s + r * q) / Nat.gcd (p * s + r * q) (q * s))) (digs ((q * s) / Nat.gcd (p * s + r * q) (q * s))) 0) := by
  have hD : q * s ≠ 0 := Nat.mul_ne_zero h1.2.2.1 h2.2.2.1
  have e : prR p s r q = (digs (p * s), digs (r * q), 0) := by unfold prR; rw [if_pos ⟨l1, l2⟩]
  have hcr := fun W g1 g2 g3 g4 => crossed_any A B C D n c m d n' c' m' d' p q r s W g1 g2 g3 g4 h1 h2
  rw [e] at hcr
  have HCR := Lib.hid hcr
  clear hcr e
  obtain ⟨hB1, hB2, hB3, hb0, hs0⟩ := boxes3 w 38 38 38 (.slice A n c) (.slice B m d) (.slice C n' c') (.slice D m' d') (.slice none 0 0) (.slice none 0 0)
  go_enter Tryz.func48, Tryz.ntmps48
  go_wp2_with fail
  generalize ((w.alloc (Obj.cells #[Value.slice A n c, Value.slice B m d] 38)).alloc (Obj.cells #[Value.slice C n' c', Value.slice D m' d'] 38)).alloc (Obj.cells #[Value.slice none 0 0, Value.slice none 0 0] 38) = W0 at *
  obtain ⟨k0, k1⟩ := hB1.cells
  obtain ⟨k2, k3⟩ := hB2.cells
  refine (HCR.out _ (ha.below hb0) (hb.below hb0) (hc.below hb0) (hd.below hb0)).mono ?_
  rintro e w1 ⟨A3, n3, c3, B3, m3, d3, rfl, hN3, hM3, hb3⟩
  have hb01 := hb0.trans (hb3.mono hb0.size)
  have hB1a := hB1.below hb3 (by omega)
  have hB2a := hB2.below hb3 (by omega)
  have hB3a := hB3.below hb3 (by omega)
  have hs3 := hb3.size
  clear hB1 hB2 hB3 k0 k1 k2 k3
  obtain ⟨k0, k1⟩ := hB1a.cells
  obtain ⟨k2, k3⟩ := hB2a.cells
  go_wp2_with fail
  refine (mul_nat _ _ _ _ _ _ q s _ (hb.below hb01) (hd.below hb01) h1.2.1 h2.2.1 l3).mono ?_
  rintro e w2 ⟨A4, n4, c4, rfl, hN4, hb4⟩
  have hb02 := hb01.trans (hb4.mono hb01.size)
  have hB3b := hB3a.below hb4 (by omega)
  have hs4 := hb4.size
  have hN3b := hN3.below hb4
  have hM3b := hM3.below hb4
  go_wp2_with fail
  refine (add_nat _ _ _ _ _ _ (p * s) (r * q) _ hN3b.1 hM3b.1 l1 l2 l4).mono ?_
  rintro e w3 ⟨A5, n5, c5, rfl, hN5, hb5⟩
  have hb03 := hb02.trans (hb5.mono hb02.size)
  have hB3c := hB3b.below hb5 (by omega)
  have hs5 := hb5.size
  have hN4c := hN4.below hb5
  go_wp2_with fail
  refine (quot_yes _ _ _ _ _ _ (p * s + r * q) (q * s) _ hN5.1 hN4c.1 l4 l3 hD).mono ?_
  rintro e w4 ⟨A6, n6, c6, B6, m6, d6, rfl, hN6, hM6, hb6⟩
  have hb04 := hb03.trans (hb6.mono hb03.size)
  have hB3d := hB3c.below hb6 (by omega)
  clear k0 k1 k2 k3
  obtain ⟨k0, k1⟩ := hB3d.cells
  have f0 := hB3d.frozen 0
  have f1 := hB3d.frozen 1
  have HF := Lib.hid (outR2_end 0 (g := w.heap.size + 2) hN6 hM6 hb04 (by omega) (by omega))
  clear hB1a hB2a hB3a hB3b hB3c hB3d hb0 hb01 hb02 hb03 hb04 hb3 hb4 hb5 hb6 hN3 hM3 hN3b hM3b hN4 hN5 hN4c hN6 hM6
  go_wp2
  refine bodyPost_ret (v := .tuple #[.agg #[.slice A6 n6 c6, .slice B6 m6 d6], .int .i64 0]) (by simp [results, Tryz.results48, go_sem, k0, k1]) rfl ?_
  exact HF.out
set_option maxHeartbeats 1600000 in
theorem joinadd_no (ha : Rd w A n c (digs p)) (hb : Rd w B m d (digs q)) (hc : Rd w C n' c' (digs r)) (hd : Rd w D m' d' (digs s)) (h1 : Fr p q) (h2 : Fr r s) (l1 : (digs (p * s)).length ≤ 400) (l2 : (digs (r * q)).length ≤ 400) (l3 : (digs (q * s)).length ≤ 400) (l4 : 400 < (digs (p * s + r * q)).length) :
    Calls Tryz.prog 48 #[.agg #[.slice A n c, .slice B m d], .agg #[.slice C n' c', .slice D m' d'], .func (.func 49) #[] #[]] w (OutR2 w [] [] 4) := by
  have e : prR p s r q = (digs (p * s), digs (r * q), 0) := by unfold prR; rw [if_pos ⟨l1, l2⟩]
  have hcr := fun W g1 g2 g3 g4 => crossed_any A B C D n c m d n' c' m' d' p q r s W g1 g2 g3 g4 h1 h2
  rw [e] at hcr
  have HCR := Lib.hid hcr
  clear hcr e
  obtain ⟨hB1, hB2, hB3, hb0, hs0⟩ := boxes3 w 38 38 38 (.slice A n c) (.slice B m d) (.slice C n' c') (.slice D m' d') (.slice none 0 0) (.slice none 0 0)
  go_enter Tryz.func48, Tryz.ntmps48
  go_wp2_with fail
  generalize ((w.alloc (Obj.cells #[Value.slice A n c, Value.slice B m d] 38)).alloc (Obj.cells #[Value.slice C n' c', Value.slice D m' d'] 38)).alloc (Obj.cells #[Value.slice none 0 0, Value.slice none 0 0] 38) = W0 at *
  obtain ⟨k0, k1⟩ := hB1.cells
  obtain ⟨k2, k3⟩ := hB2.cells
  refine (HCR.out _ (ha.below hb0) (hb.below hb0) (hc.below hb0) (hd.below hb0)).mono ?_
  rintro e w1 ⟨A3, n3, c3, B3, m3, d3, rfl, hN3, hM3, hb3⟩
  have hb01 := hb0.trans (hb3.mono hb0.size)
  have hB1a := hB1.below hb3 (by omega)
  have hB2a := hB2.below hb3 (by omega)
  have hB3a := hB3.below hb3 (by omega)
  have hs3 := hb3.size
  clear hB1 hB2 hB3 k0 k1 k2 k3
  obtain ⟨k0, k1⟩ := hB1a.cells
  obtain ⟨k2, k3⟩ := hB2a.cells
  go_wp2_with fail
  refine (mul_nat _ _ _ _ _ _ q s _ (hb.below hb01) (hd.below hb01) h1.2.1 h2.2.1 l3).mono ?_
  rintro e w2 ⟨A4, n4, c4, rfl, hN4, hb4⟩
  have hb02 := hb01.trans (hb4.mono hb01.size)
  have hB3b := hB3a.below hb4 (by omega)
  have hs4 := hb4.size
  have hN3b := hN3.below hb4
  have hM3b := hM3.below hb4
  go_wp2_with fail
  refine (add_nat_long _ _ _ _ _ _ (p * s) (r * q) _ hN3b.1 hM3b.1 l1 l2 l4).mono ?_
  rintro e w3 ⟨A5, n5, c5, rfl, hN5, hb5⟩
  have hb03 := hb02.trans (hb5.mono hb02.size)
  have hB3c := hB3b.below hb5 (by omega)
  have hs5 := hb5.size
  go_wp2_with fail
  refine (quot_no _ _ _ _ _ _ _ 4 (Or.inr rfl)).mono ?_
  rintro e w4 ⟨A6, n6, c6, B6, m6, d6, rfl, hN6, hM6, hb6⟩
  have hb04 := hb03.trans (hb6.mono hb03.size)
  have hB3d := hB3c.below hb6 (by omega)
  clear k0 k1 k2 k3
  obtain ⟨k0, k1⟩ := hB3d.cells
  have f0 := hB3d.frozen 0
  have f1 := hB3d.frozen 1
  have HF := Lib.hid (outR2_end 4 (g := w.heap.size + 2) hN6 hM6 hb04 (by omega) (by omega))
  clear hB1a hB2a hB3a hB3b hB3c hB3d hb0 hb01 hb02 hb03 hb04 hb3 hb4 hb5 hb6 hN3 hM3 hN3b hM3b hN4 hN5 hN6 hM6
  go_wp2
  refine bodyPost_ret (v := .tuple #[.agg #[.slice A6 n6 c6, .slice B6 m6 d6], .int .i64 4]) (by simp [results, Tryz.results48, go_sem, k0, k1]) rfl ?_
  exact HF.out
/-- The document's add of two well formed fractions. -/
def addF (p q r s : Nat) : List Nat × List Nat × Int := (if (digs (p * s)).length ≤ 400 ∧ (digs (r * q)).length ≤ 400 ∧ (digs (q * s)).length ≤ 400 then (if (digs (p * s + r * q)).length ≤ 400 then (digs ((p * s + r * q) / Nat.gcd (p * s + r * q) (q * s)), digs ((q * s) / Nat.gcd (p * s + r * q) (q * s)), 0) else ([], [], 4)) else ([], [], 4))
theorem joinadd_any (ha : Rd w A n c (digs p)) (hb : Rd w B m d (digs q)) (hc : Rd w C n' c' (digs r)) (hd : Rd w D m' d' (digs s)) (h1 : Fr p q) (h2 : Fr r s) :
    Calls Tryz.prog 48 #[.agg #[.slice A n c, .slice B m d], .agg #[.slice C n' c', .slice D m' d'], .func (.func 49) #[] #[]] w (OutR2 w (addF p q r s).1 (addF p q r s).2.1 (addF p q r s).2.2) := by
  by_cases l1 : (digs (p * s)).length ≤ 400
  · by_cases l2 : (digs (r * q)).length ≤ 400
    · by_cases l3 : (digs (q * s)).length ≤ 400
      · by_cases l4 : (digs (p * s + r * q)).length ≤ 400
        · have e : addF p q r s = (digs ((p * s + r * q) / Nat.gcd (p * s + r * q) (q * s)), digs ((q * s) / Nat.gcd (p * s + r * q) (q * s)), 0) := by unfold addF; rw [if_pos ⟨l1, l2, l3⟩, if_pos l4]
          rw [e]; exact joinadd_yes A B C D n c m d n' c' m' d' p q r s w ha hb hc hd h1 h2 l1 l2 l3 l4
        · have e : addF p q r s = ([], [], 4) := by unfold addF; rw [if_pos ⟨l1, l2, l3⟩, if_neg l4]
          rw [e]; exact joinadd_no A B C D n c m d n' c' m' d' p q r s w ha hb hc hd h1 h2 l1 l2 l3 (by omega)
      · have e : addF p q r s = ([], [], 4) := by unfold addF; rw [if_neg (fun h => l3 h.2.2)]
        rw [e]; exact joinadd_den A B C D n c m d n' c' m' d' p q r s w ha hb hc hd h1 h2 l1 l2 (by omega)
    · have e : addF p q r s = ([], [], 4) := by unfold addF; rw [if_neg (fun h => l2 h.2.1)]
      rw [e]; exact joinadd_long A B C D n c m d n' c' m' d' p q r s w ha hb hc hd h1 h2 (by omega)
  · have e : addF p q r s = ([], [], 4) := by unfold addF; rw [if_neg (fun h => l1 h.1)]
    rw [e]; exact joinadd_long A B C D n c m d n' c' m' d' p q r s w ha hb hc hd h1 h2 (by omega)
set_option maxHeartbeats 1600000 in
/-- ratio.Add, of fractions that are well formed. -/
theorem radd_any2 (ha : Rd w A n c (digs p)) (hb : Rd w B m d (digs q)) (hc : Rd w C n' c' (digs r)) (hd : Rd w D m' d' (digs s)) (h1 : Fr p q) (h2 : Fr r s) :
    Calls Tryz.prog 17 #[.agg #[.slice A n c, .slice B m d], .agg #[.slice C n' c', .slice D m' d']] w (OutR2 w (addF p q r s).1 (addF p q r s).2.1 (addF p q r s).2.2) := by
  obtain ⟨zs, hzs⟩ : ∃ zs, (addF p q r s).1 = zs := ⟨_, rfl⟩
  obtain ⟨ts, hts⟩ : ∃ ts, (addF p q r s).2.1 = ts := ⟨_, rfl⟩
  obtain ⟨k, hk⟩ : ∃ k : Int, (addF p q r s).2.2 = k := ⟨_, rfl⟩
  have hj := fun W g1 g2 g3 g4 => joinadd_any A B C D n c m d n' c' m' d' p q r s W g1 g2 g3 g4 h1 h2
  rw [hzs, hts, hk] at hj ⊢
  have HJ := Lib.hid hj
  clear hj hzs hts hk
  obtain ⟨hB1, hB2, hB3, hb0, hs0⟩ := boxes3 w 38 38 38 (.slice A n c) (.slice B m d) (.slice C n' c') (.slice D m' d') (.slice none 0 0) (.slice none 0 0)
  go_enter Tryz.func17, Tryz.ntmps17
  go_wp2_with fail
  generalize ((w.alloc (Obj.cells #[Value.slice A n c, Value.slice B m d] 38)).alloc (Obj.cells #[Value.slice C n' c', Value.slice D m' d'] 38)).alloc (Obj.cells #[Value.slice none 0 0, Value.slice none 0 0] 38) = W0 at *
  obtain ⟨k0, k1⟩ := hB1.cells
  obtain ⟨k2, k3⟩ := hB2.cells
  refine (HJ.out _ (ha.below hb0) (hb.below hb0) (hc.below hb0) (hd.below hb0)).mono ?_
  rintro e w1 ⟨A6, n6, c6, B6, m6, d6, rfl, hN6, hM6, hb6⟩
  have hb01 := hb0.trans (hb6.mono hb0.size)
  have hB3a := hB3.below hb6 (by omega)
  clear k0 k1 k2 k3
  obtain ⟨k0, k1⟩ := hB3a.cells
  have f0 := hB3a.frozen 0
  have f1 := hB3a.frozen 1
  have HF := Lib.hid (outR2_end k (g := w.heap.size + 2) hN6 hM6 hb01 (by omega) (by omega))
  clear hB1 hB2 hB3 hB3a hb0 hb01 hb6 hN6 hM6
  go_wp2
  refine bodyPost_ret (v := .tuple #[.agg #[.slice A6 n6 c6, .slice B6 m6 d6], .int .i64 k]) (by simp [results, Tryz.results17, go_sem, k0, k1]) rfl ?_
  exact HF.out
set_option maxHeartbeats 1600000 in
theorem radd_bad2 (ha : Rd w A n c xs) (hb : Rd w B m d ys) (hc : Rd w C n' c' us) (hd : Rd w D m' d' vs) (f : (frB xs ys && frB us vs) = false) :
    Calls Tryz.prog 17 #[.agg #[.slice A n c, .slice B m d], .agg #[.slice C n' c', .slice D m' d']] w (OutR2 w [] [] 1) := by
  have hj := fun W g1 g2 g3 g4 => joinadd_bad A B C D n c m d n' c' m' d' xs ys us vs W g1 g2 g3 g4 f
  have HJ := Lib.hid hj
  clear hj
  obtain ⟨hB1, hB2, hB3, hb0, hs0⟩ := boxes3 w 38 38 38 (.slice A n c) (.slice B m d) (.slice C n' c') (.slice D m' d') (.slice none 0 0) (.slice none 0 0)
  go_enter Tryz.func17, Tryz.ntmps17
  go_wp2_with fail
  generalize ((w.alloc (Obj.cells #[Value.slice A n c, Value.slice B m d] 38)).alloc (Obj.cells #[Value.slice C n' c', Value.slice D m' d'] 38)).alloc (Obj.cells #[Value.slice none 0 0, Value.slice none 0 0] 38) = W0 at *
  obtain ⟨k0, k1⟩ := hB1.cells
  obtain ⟨k2, k3⟩ := hB2.cells
  refine (HJ.out _ (ha.below hb0) (hb.below hb0) (hc.below hb0) (hd.below hb0)).mono ?_
  rintro e w1 ⟨A6, n6, c6, B6, m6, d6, rfl, hN6, hM6, hb6⟩
  have hb01 := hb0.trans (hb6.mono hb0.size)
  have hB3a := hB3.below hb6 (by omega)
  clear k0 k1 k2 k3
  obtain ⟨k0, k1⟩ := hB3a.cells
  have f0 := hB3a.frozen 0
  have f1 := hB3a.frozen 1
  have HF := Lib.hid (outR2_end 1 (g := w.heap.size + 2) hN6 hM6 hb01 (by omega) (by omega))
  clear hB1 hB2 hB3 hB3a hb0 hb01 hb6 hN6 hM6
  go_wp2
  refine bodyPost_ret (v := .tuple #[.agg #[.slice A6 n6 c6, .slice B6 m6 d6], .int .i64 1]) (by simp [results, Tryz.results17, go_sem, k0, k1]) rfl ?_
  exact HF.out
set_option maxHeartbeats 1600000 in
theorem joinsub_bad (ha : Rd w A n c xs) (hb : Rd w B m d ys) (hc : Rd w C n' c' us) (hd : Rd w D m' d' vs) (f : (frB xs ys && frB us vs) = false) :
    Calls Tryz.prog 48 #[.agg #[.slice A n c, .slice B m d], .agg #[.slice C n' c', .slice D m' d'], .func (.func 123) #[] #[]] w (OutR2 w [] [] 1) := by
  obtain ⟨hB1, hB2, hB3, hb0, hs0⟩ := boxes3 w 38 38 38 (.slice A n c) (.slice B m d) (.slice C n' c') (.slice D m' d') (.slice none 0 0) (.slice none 0 0)
  go_enter Tryz.func48, Tryz.ntmps48
  go_wp2_with fail
  generalize ((w.alloc (Obj.cells #[Value.slice A n c, Value.slice B m d] 38)).alloc (Obj.cells #[Value.slice C n' c', Value.slice D m' d'] 38)).alloc (Obj.cells #[Value.slice none 0 0, Value.slice none 0 0] 38) = W0 at *
  obtain ⟨k0, k1⟩ := hB1.cells
  obtain ⟨k2, k3⟩ := hB2.cells
  refine (crossed_bad _ _ _ _ _ _ _ _ _ _ _ _ xs ys us vs _ (ha.below hb0) (hb.below hb0) (hc.below hb0) (hd.below hb0) f).mono ?_
  rintro e w1 ⟨A3, n3, c3, B3, m3, d3, rfl, hN3, hM3, hb3⟩
  have hb01 := hb0.trans (hb3.mono hb0.size)
  have hB3a := hB3.below hb3 (by omega)
  clear k0 k1 k2 k3
  obtain ⟨k0, k1⟩ := hB3a.cells
  have f0 := hB3a.frozen 0
  have f1 := hB3a.frozen 1
  have HF := Lib.hid (outR2_nil (g := w.heap.size + 2) 1 hb01 (by omega))
  clear hB1 hB2 hB3 hB3a hb0 hb01 hb3 hN3 hM3
  go_wp2
  refine bodyPost_ret (v := .tuple #[.agg #[.slice none 0 0, .slice none 0 0], .int .i64 1]) (by simp [results, Tryz.results48, go_sem, k0, k1]) rfl ?_
  exact HF.out
set_option maxHeartbeats 1600000 in
theorem joinsub_long (ha : Rd w A n c (digs p)) (hb : Rd w B m d (digs q)) (hc : Rd w C n' c' (digs r)) (hd : Rd w D m' d' (digs s)) (h1 : Fr p q) (h2 : Fr r s) (hl : 400 < (digs (p * s)).length ∨ 400 < (digs (r * q)).length) :
    Calls Tryz.prog 48 #[.agg #[.slice A n c, .slice B m d], .agg #[.slice C n' c', .slice D m' d'], .func (.func 123) #[] #[]] w (OutR2 w [] [] 4) := by
  have e : prR p s r q = ([], [], 4) := by unfold prR; rw [if_neg (by omega)]
  have hcr := fun W g1 g2 g3 g4 => crossed_any A B C D n c m d n' c' m' d' p q r s W g1 g2 g3 g4 h1 h2
  rw [e] at hcr
  have HCR := Lib.hid hcr
  clear hcr e
  obtain ⟨hB1, hB2, hB3, hb0, hs0⟩ := boxes3 w 38 38 38 (.slice A n c) (.slice B m d) (.slice C n' c') (.slice D m' d') (.slice none 0 0) (.slice none 0 0)
  go_enter Tryz.func48, Tryz.ntmps48
  go_wp2_with fail
  generalize ((w.alloc (Obj.cells #[Value.slice A n c, Value.slice B m d] 38)).alloc (Obj.cells #[Value.slice C n' c', Value.slice D m' d'] 38)).alloc (Obj.cells #[Value.slice none 0 0, Value.slice none 0 0] 38) = W0 at *
  obtain ⟨k0, k1⟩ := hB1.cells
  obtain ⟨k2, k3⟩ := hB2.cells
  refine (HCR.out _ (ha.below hb0) (hb.below hb0) (hc.below hb0) (hd.below hb0)).mono ?_
  rintro e w1 ⟨A3, n3, c3, B3, m3, d3, rfl, hN3, hM3, hb3⟩
  have hb01 := hb0.trans (hb3.mono hb0.size)
  have hB1a := hB1.below hb3 (by omega)
  have hB2a := hB2.below hb3 (by omega)
  have hB3a := hB3.below hb3 (by omega)
  have hs3 := hb3.size
  clear hB1 hB2 hB3 k0 k1 k2 k3
  obtain ⟨k0, k1⟩ := hB1a.cells
  obtain ⟨k2, k3⟩ := hB2a.cells
  clear k0 k1 k2 k3
  obtain ⟨k0, k1⟩ := hB3a.cells
  have f0 := hB3a.frozen 0
  have f1 := hB3a.frozen 1
  have HF := Lib.hid (outR2_nil (g := w.heap.size + 2) 4 hb01 (by omega))
  clear hB1a hB2a hB3a hb0 hb01 hb3 hN3 hM3
  go_wp2
  refine bodyPost_ret (v := .tuple #[.agg #[.slice none 0 0, .slice none 0 0], .int .i64 4]) (by simp [results, Tryz.results48, go_sem, k0, k1]) rfl ?_
  exact HF.out
set_option maxHeartbeats 1600000 in
theorem joinsub_den (ha : Rd w A n c (digs p)) (hb : Rd w B m d (digs q)) (hc : Rd w C n' c' (digs r)) (hd : Rd w D m' d' (digs s)) (h1 : Fr p q) (h2 : Fr r s) (l1 : (digs (p * s)).length ≤ 400) (l2 : (digs (r * q)).length ≤ 400) (l3 : 400 < (digs (q * s)).length) :
    Calls Tryz.prog 48 #[.agg #[.slice A n c, .slice B m d], .agg #[.slice C n' c', .slice D m' d'], .func (.func 123) #[] #[]] w (OutR2 w [] [] 4) := by
  have e : prR p s r q = (digs (p * s), digs (r * q), 0) := by unfold prR; rw [if_pos ⟨l1, l2⟩]
  have hcr := fun W g1 g2 g3 g4 => crossed_any A B C D n c m d n' c' m' d' p q r s W g1 g2 g3 g4 h1 h2
  rw [e] at hcr
  have HCR := Lib.hid hcr
  clear hcr e
  obtain ⟨hB1, hB2, hB3, hb0, hs0⟩ := boxes3 w 38 38 38 (.slice A n c) (.slice B m d) (.slice C n' c') (.slice D m' d') (.slice none 0 0) (.slice none 0 0)
  go_enter Tryz.func48, Tryz.ntmps48
  go_wp2_with fail
  generalize ((w.alloc (Obj.cells #[Value.slice A n c, Value.slice B m d] 38)).alloc (Obj.cells #[Value.slice C n' c', Value.slice D m' d'] 38)).alloc (Obj.cells #[Value.slice none 0 0, Value.slice none 0 0] 38) = W0 at *
  obtain ⟨k0, k1⟩ := hB1.cells
  obtain ⟨k2, k3⟩ := hB2.cells
  refine (HCR.out _ (ha.below hb0) (hb.below hb0) (hc.below hb0) (hd.below hb0)).mono ?_
  rintro e w1 ⟨A3, n3, c3, B3, m3, d3, rfl, hN3, hM3, hb3⟩
  have hb01 := hb0.trans (hb3.mono hb0.size)
  have hB1a := hB1.below hb3 (by omega)
  have hB2a := hB2.below hb3 (by omega)
  have hB3a := hB3.below hb3 (by omega)
  have hs3 := hb3.size
  clear hB1 hB2 hB3 k0 k1 k2 k3
  obtain ⟨k0, k1⟩ := hB1a.cells
  obtain ⟨k2, k3⟩ := hB2a.cells
  go_wp2_with fail
  refine (mul_nat_long _ _ _ _ _ _ q s _ (hb.below hb01) (hd.below hb01) h1.2.1 h2.2.1 l3).mono ?_
  rintro e w2 ⟨A4, n4, c4, rfl, hN4, hb4⟩
  have hb02 := hb01.trans (hb4.mono hb01.size)
  have hB3b := hB3a.below hb4 (by omega)
  have hs4 := hb4.size
  have hN3b := hN3.below hb4
  have hM3b := hM3.below hb4
  clear k0 k1 k2 k3
  obtain ⟨k0, k1⟩ := hB3b.cells
  have f0 := hB3b.frozen 0
  have f1 := hB3b.frozen 1
  have HF := Lib.hid (outR2_nil (g := w.heap.size + 2) 4 hb02 (by omega))
  clear hB1a hB2a hB3a hB3b hb0 hb01 hb02 hb3 hb4 hN3 hM3 hN3b hM3b hN4
  go_wp2
  refine bodyPost_ret (v := .tuple #[.agg #[.slice none 0 0, .slice none 0 0], .int .i64 4]) (by simp [results, Tryz.results48, go_sem, k0, k1]) rfl ?_
  exact HF.out
set_option maxHeartbeats 1600000 in
theorem joinsub_yes (ha : Rd w A n c (digs p)) (hb : Rd w B m d (digs q)) (hc : Rd w C n' c' (digs r)) (hd : Rd w D m' d' (digs s)) (h1 : Fr p q) (h2 : Fr r s) (l1 : (digs (p * s)).length ≤ 400) (l2 : (digs (r * q)).length ≤ 400) (l3 : (digs (q * s)).length ≤ 400) (hle : r * q ≤ p * s) :
    Calls Tryz.prog 48 #[.agg #[.slice A n c, .slice B m d], .agg #[.slice C n' c', .slice D m' d'], .func (.func 123) #[] #[]] w (OutR2 w (digs ((p * s - r * q) / Nat.gcd (p * s - r * q) (q * s))) (digs ((q * s) / Nat.gcd (p * s - r * q) (q * s))) 0) := by
  have hD : q * s ≠ 0 := Nat.mul_ne_zero h1.2.2.1 h2.2.2.1
  have e : prR p s r q = (digs (p * s), digs (r * q), 0) := by unfold prR; rw [if_pos ⟨l1, l2⟩]
  have hcr := fun W g1 g2 g3 g4 => crossed_any A B C D n c m d n' c' m' d' p q r s W g1 g2 g3 g4 h1 h2
  rw [e] at hcr
  have HCR := Lib.hid hcr
  clear hcr e
  obtain ⟨hB1, hB2, hB3, hb0, hs0⟩ := boxes3 w 38 38 38 (.slice A n c) (.slice B m d) (.slice C n' c') (.slice D m' d') (.slice none 0 0) (.slice none 0 0)
  go_enter Tryz.func48, Tryz.ntmps48
  go_wp2_with fail
  generalize ((w.alloc (Obj.cells #[Value.slice A n c, Value.slice B m d] 38)).alloc (Obj.cells #[Value.slice C n' c', Value.slice D m' d'] 38)).alloc (Obj.cells #[Value.slice none 0 0, Value.slice none 0 0] 38) = W0 at *
  obtain ⟨k0, k1⟩ := hB1.cells
  obtain ⟨k2, k3⟩ := hB2.cells
  refine (HCR.out _ (ha.below hb0) (hb.below hb0) (hc.below hb0) (hd.below hb0)).mono ?_
  rintro e w1 ⟨A3, n3, c3, B3, m3, d3, rfl, hN3, hM3, hb3⟩
  have hb01 := hb0.trans (hb3.mono hb0.size)
  have hB1a := hB1.below hb3 (by omega)
  have hB2a := hB2.below hb3 (by omega)
  have hB3a := hB3.below hb3 (by omega)
  have hs3 := hb3.size
  clear hB1 hB2 hB3 k0 k1 k2 k3
  obtain ⟨k0, k1⟩ := hB1a.cells
  obtain ⟨k2, k3⟩ := hB2a.cells
  go_wp2_with fail
  refine (mul_nat _ _ _ _ _ _ q s _ (hb.below hb01) (hd.below hb01) h1.2.1 h2.2.1 l3).mono ?_
  rintro e w2 ⟨A4, n4, c4, rfl, hN4, hb4⟩
  have hb02 := hb01.trans (hb4.mono hb01.size)
  have hB3b := hB3a.below hb4 (by omega)
  have hs4 := hb4.size
  have hN3b := hN3.below hb4
  have hM3b := hM3.below hb4
  go_wp2_with fail
  refine (sub_nat _ _ _ _ _ _ (p * s) (r * q) _ hN3b.1 hM3b.1 l1 l2 hle).mono ?_
  rintro e w3 ⟨A5, n5, c5, rfl, hN5, hb5⟩
  have hb03 := hb02.trans (hb5.mono hb02.size)
  have hB3c := hB3b.below hb5 (by omega)
  have hs5 := hb5.size
  have hN4c := hN4.below hb5
  go_wp2_with fail
  refine (quot_yes _ _ _ _ _ _ (p * s - r * q) (q * s) _ hN5.1 hN4c.1 (Nat.le_trans (len_digs_mono (Nat.sub_le _ _)) l1) l3 hD).mono ?_
  rintro e w4 ⟨A6, n6, c6, B6, m6, d6, rfl, hN6, hM6, hb6⟩
  have hb04 := hb03.trans (hb6.mono hb03.size)
  have hB3d := hB3c.below hb6 (by omega)
  clear k0 k1 k2 k3
  obtain ⟨k0, k1⟩ := hB3d.cells
  have f0 := hB3d.frozen 0
  have f1 := hB3d.frozen 1
  have HF := Lib.hid (outR2_end 0 (g := w.heap.size + 2) hN6 hM6 hb04 (by omega) (by omega))
  clear hB1a hB2a hB3a hB3b hB3c hB3d hb0 hb01 hb02 hb03 hb04 hb3 hb4 hb5 hb6 hN3 hM3 hN3b hM3b hN4 hN5 hN4c hN6 hM6
  go_wp2
  refine bodyPost_ret (v := .tuple #[.agg #[.slice A6 n6 c6, .slice B6 m6 d6], .int .i64 0]) (by simp [results, Tryz.results48, go_sem, k0, k1]) rfl ?_
  exact HF.out
set_option maxHeartbeats 1600000 in
theorem joinsub_no (ha : Rd w A n c (digs p)) (hb : Rd w B m d (digs q)) (hc : Rd w C n' c' (digs r)) (hd : Rd w D m' d' (digs s)) (h1 : Fr p q) (h2 : Fr r s) (l1 : (digs (p * s)).length ≤ 400) (l2 : (digs (r * q)).length ≤ 400) (l3 : (digs (q * s)).length ≤ 400) (hlt : p * s < r * q) :
    Calls Tryz.prog 48 #[.agg #[.slice A n c, .slice B m d], .agg #[.slice C n' c', .slice D m' d'], .func (.func 123) #[] #[]] w (OutR2 w [] [] 3) := by
  have e : prR p s r q = (digs (p * s), digs (r * q), 0) := by unfold prR; rw [if_pos ⟨l1, l2⟩]
  have hcr := fun W g1 g2 g3 g4 => crossed_any A B C D n c m d n' c' m' d' p q r s W g1 g2 g3 g4 h1 h2
  rw [e] at hcr
  have HCR := Lib.hid hcr
  clear hcr e
  obtain ⟨hB1, hB2, hB3, hb0, hs0⟩ := boxes3 w 38 38 38 (.slice A n c) (.slice B m d) (.slice C n' c') (.slice D m' d') (.slice none 0 0) (.slice none 0 0)
  go_enter Tryz.func48, Tryz.ntmps48
  go_wp2_with fail
  generalize ((w.alloc (Obj.cells #[Value.slice A n c, Value.slice B m d] 38)).alloc (Obj.cells #[Value.slice C n' c', Value.slice D m' d'] 38)).alloc (Obj.cells #[Value.slice none 0 0, Value.slice none 0 0] 38) = W0 at *
  obtain ⟨k0, k1⟩ := hB1.cells
  obtain ⟨k2, k3⟩ := hB2.cells
  refine (HCR.out _ (ha.below hb0) (hb.below hb0) (hc.below hb0) (hd.below hb0)).mono ?_
  rintro e w1 ⟨A3, n3, c3, B3, m3, d3, rfl, hN3, hM3, hb3⟩
  have hb01 := hb0.trans (hb3.mono hb0.size)
  have hB1a := hB1.below hb3 (by omega)
  have hB2a := hB2.below hb3 (by omega)
  have hB3a := hB3.below hb3 (by omega)
  have hs3 := hb3.size
  clear hB1 hB2 hB3 k0 k1 k2 k3
  obtain ⟨k0, k1⟩ := hB1a.cells
  obtain ⟨k2, k3⟩ := hB2a.cells
  go_wp2_with fail
  refine (mul_nat _ _ _ _ _ _ q s _ (hb.below hb01) (hd.below hb01) h1.2.1 h2.2.1 l3).mono ?_
  rintro e w2 ⟨A4, n4, c4, rfl, hN4, hb4⟩
  have hb02 := hb01.trans (hb4.mono hb01.size)
  have hB3b := hB3a.below hb4 (by omega)
  have hs4 := hb4.size
  have hN3b := hN3.below hb4
  have hM3b := hM3.below hb4
  go_wp2_with fail
  refine (sub_nat_less _ _ _ _ _ _ (p * s) (r * q) _ hN3b.1 hM3b.1 l1 l2 hlt).mono ?_
  rintro e w3 ⟨A5, n5, c5, rfl, hN5, hb5⟩
  have hb03 := hb02.trans (hb5.mono hb02.size)
  have hB3c := hB3b.below hb5 (by omega)
  have hs5 := hb5.size
  go_wp2_with fail
  refine (quot_no _ _ _ _ _ _ _ 3 (Or.inl rfl)).mono ?_
  rintro e w4 ⟨A6, n6, c6, B6, m6, d6, rfl, hN6, hM6, hb6⟩
  have hb04 := hb03.trans (hb6.mono hb03.size)
  have hB3d := hB3c.below hb6 (by omega)
  clear k0 k1 k2 k3
  obtain ⟨k0, k1⟩ := hB3d.cells
  have f0 := hB3d.frozen 0
  have f1 := hB3d.frozen 1
  have HF := Lib.hid (outR2_end 3 (g := w.heap.size + 2) hN6 hM6 hb04 (by omega) (by omega))
  clear hB1a hB2a hB3a hB3b hB3c hB3d hb0 hb01 hb02 hb03 hb04 hb3 hb4 hb5 hb6 hN3 hM3 hN3b hM3b hN4 hN5 hN6 hM6
  go_wp2
  refine bodyPost_ret (v := .tuple #[.agg #[.slice A6 n6 c6, .slice B6 m6 d6], .int .i64 3]) (by simp [results, Tryz.results48, go_sem, k0, k1]) rfl ?_
  exact HF.out
/-- The document's sub of two well formed fractions. -/
def subF (p q r s : Nat) : List Nat × List Nat × Int := (if (digs (p * s)).length ≤ 400 ∧ (digs (r * q)).length ≤ 400 ∧ (digs (q * s)).length ≤ 400 then (if p * s < r * q then ([], [], 3) else (digs ((p * s - r * q) / Nat.gcd (p * s - r * q) (q * s)), digs ((q * s) / Nat.gcd (p * s - r * q) (q * s)), 0)) else ([], [], 4))
theorem joinsub_any (ha : Rd w A n c (digs p)) (hb : Rd w B m d (digs q)) (hc : Rd w C n' c' (digs r)) (hd : Rd w D m' d' (digs s)) (h1 : Fr p q) (h2 : Fr r s) :
    Calls Tryz.prog 48 #[.agg #[.slice A n c, .slice B m d], .agg #[.slice C n' c', .slice D m' d'], .func (.func 123) #[] #[]] w (OutR2 w (subF p q r s).1 (subF p q r s).2.1 (subF p q r s).2.2) := by
  by_cases l1 : (digs (p * s)).length ≤ 400
  · by_cases l2 : (digs (r * q)).length ≤ 400
    · by_cases l3 : (digs (q * s)).length ≤ 400
      · by_cases l4 : p * s < r * q
        · have e : subF p q r s = ([], [], 3) := by unfold subF; rw [if_pos ⟨l1, l2, l3⟩, if_pos l4]
          rw [e]; exact joinsub_no A B C D n c m d n' c' m' d' p q r s w ha hb hc hd h1 h2 l1 l2 l3 l4
        · have e : subF p q r s = (digs ((p * s - r * q) / Nat.gcd (p * s - r * q) (q * s)), digs ((q * s) / Nat.gcd (p * s - r * q) (q * s)), 0) := by unfold subF; rw [if_pos ⟨l1, l2, l3⟩, if_neg l4]
          rw [e]; exact joinsub_yes A B C D n c m d n' c' m' d' p q r s w ha hb hc hd h1 h2 l1 l2 l3 (by omega)
      · have e : subF p q r s = ([], [], 4) := by unfold subF; rw [if_neg (fun h => l3 h.2.2)]
        rw [e]; exact joinsub_den A B C D n c m d n' c' m' d' p q r s w ha hb hc hd h1 h2 l1 l2 (by omega)
    · have e : subF p q r s = ([], [], 4) := by unfold subF; rw [if_neg (fun h => l2 h.2.1)]
      rw [e]; exact joinsub_long A B C D n c m d n' c' m' d' p q r s w ha hb hc hd h1 h2 (by omega)
  · have e : subF p q r s = ([], [], 4) := by unfold subF; rw [if_neg (fun h => l1 h.1)]
    rw [e]; exact joinsub_long A B C D n c m d n' c' m' d' p q r s w ha hb hc hd h1 h2 (by omega)
set_option maxHeartbeats 1600000 in
/-- ratio.Sub, of fractions that are well formed. -/
theorem rsub_any2 (ha : Rd w A n c (digs p)) (hb : Rd w B m d (digs q)) (hc : Rd w C n' c' (digs r)) (hd : Rd w D m' d' (digs s)) (h1 : Fr p q) (h2 : Fr r s) :
    Calls Tryz.prog 143 #[.agg #[.slice A n c, .slice B m d], .agg #[.slice C n' c', .slice D m' d']] w (OutR2 w (subF p q r s).1 (subF p q r s).2.1 (subF p q r s).2.2) := by
  obtain ⟨zs, hzs⟩ : ∃ zs, (subF p q r s).1 = zs := ⟨_, rfl⟩
  obtain ⟨ts, hts⟩ : ∃ ts, (subF p q r s).2.1 = ts := ⟨_, rfl⟩
  obtain ⟨k, hk⟩ : ∃ k : Int, (subF p q r s).2.2 = k := ⟨_, rfl⟩
  have hj := fun W g1 g2 g3 g4 => joinsub_any A B C D n c m d n' c' m' d' p q r s W g1 g2 g3 g4 h1 h2
  rw [hzs, hts, hk] at hj ⊢
  have HJ := Lib.hid hj
  clear hj hzs hts hk
  obtain ⟨hB1, hB2, hB3, hb0, hs0⟩ := boxes3 w 38 38 38 (.slice A n c) (.slice B m d) (.slice C n' c') (.slice D m' d') (.slice none 0 0) (.slice none 0 0)
  go_enter Tryz.func143, Tryz.ntmps143
  go_wp2_with fail
  generalize ((w.alloc (Obj.cells #[Value.slice A n c, Value.slice B m d] 38)).alloc (Obj.cells #[Value.slice C n' c', Value.slice D m' d'] 38)).alloc (Obj.cells #[Value.slice none 0 0, Value.slice none 0 0] 38) = W0 at *
  obtain ⟨k0, k1⟩ := hB1.cells
  obtain ⟨k2, k3⟩ := hB2.cells
  refine (HJ.out _ (ha.below hb0) (hb.below hb0) (hc.below hb0) (hd.below hb0)).mono ?_
  rintro e w1 ⟨A6, n6, c6, B6, m6, d6, rfl, hN6, hM6, hb6⟩
  have hb01 := hb0.trans (hb6.mono hb0.size)
  have hB3a := hB3.below hb6 (by omega)
  clear k0 k1 k2 k3
  obtain ⟨k0, k1⟩ := hB3a.cells
  have f0 := hB3a.frozen 0
  have f1 := hB3a.frozen 1
  have HF := Lib.hid (outR2_end k (g := w.heap.size + 2) hN6 hM6 hb01 (by omega) (by omega))
  clear hB1 hB2 hB3 hB3a hb0 hb01 hb6 hN6 hM6
  go_wp2
  refine bodyPost_ret (v := .tuple #[.agg #[.slice A6 n6 c6, .slice B6 m6 d6], .int .i64 k]) (by simp [results, Tryz.results143, go_sem, k0, k1]) rfl ?_
  exact HF.out
set_option maxHeartbeats 1600000 in
theorem rsub_bad2 (ha : Rd w A n c xs) (hb : Rd w B m d ys) (hc : Rd w C n' c' us) (hd : Rd w D m' d' vs) (f : (frB xs ys && frB us vs) = false) :
    Calls Tryz.prog 143 #[.agg #[.slice A n c, .slice B m d], .agg #[.slice C n' c', .slice D m' d']] w (OutR2 w [] [] 1) := by
  have hj := fun W g1 g2 g3 g4 => joinsub_bad A B C D n c m d n' c' m' d' xs ys us vs W g1 g2 g3 g4 f
  have HJ := Lib.hid hj
  clear hj
  obtain ⟨hB1, hB2, hB3, hb0, hs0⟩ := boxes3 w 38 38 38 (.slice A n c) (.slice B m d) (.slice C n' c') (.slice D m' d') (.slice none 0 0) (.slice none 0 0)
  go_enter Tryz.func143, Tryz.ntmps143
  go_wp2_with fail
  generalize ((w.alloc (Obj.cells #[Value.slice A n c, Value.slice B m d] 38)).alloc (Obj.cells #[Value.slice C n' c', Value.slice D m' d'] 38)).alloc (Obj.cells #[Value.slice none 0 0, Value.slice none 0 0] 38) = W0 at *
  obtain ⟨k0, k1⟩ := hB1.cells
  obtain ⟨k2, k3⟩ := hB2.cells
  refine (HJ.out _ (ha.below hb0) (hb.below hb0) (hc.below hb0) (hd.below hb0)).mono ?_
  rintro e w1 ⟨A6, n6, c6, B6, m6, d6, rfl, hN6, hM6, hb6⟩
  have hb01 := hb0.trans (hb6.mono hb0.size)
  have hB3a := hB3.below hb6 (by omega)
  clear k0 k1 k2 k3
  obtain ⟨k0, k1⟩ := hB3a.cells
  have f0 := hB3a.frozen 0
  have f1 := hB3a.frozen 1
  have HF := Lib.hid (outR2_end 1 (g := w.heap.size + 2) hN6 hM6 hb01 (by omega) (by omega))
  clear hB1 hB2 hB3 hB3a hb0 hb01 hb6 hN6 hM6
  go_wp2
  refine bodyPost_ret (v := .tuple #[.agg #[.slice A6 n6 c6, .slice B6 m6 d6], .int .i64 1]) (by simp [results, Tryz.results143, go_sem, k0, k1]) rfl ?_
  exact HF.out
end
end Go.Proofs.YtehekjlakegkpaaGreat
end
