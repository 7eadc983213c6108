/-
  What ratio.Of, products, quotient, crossed, Cmp, Mul, Div and Floor do. For every fraction that can be read: an error number where the document asks for one, else the fraction in lowest terms.
-/
import Derived.Test.YtehekjlakegkpaaGreatX15
section
namespace Go.Proofs.YtehekjlakegkpaaGreat
open Go.RowKit

theorem mkR_digs {p q : Nat} (lp : (digs p).length ≤ 400) (lq : (digs q).length ≤ 400) (hq : q ≠ 0) : mkR (digs p) (digs q) = (digs (p / Nat.gcd p q), digs (q / Nat.gcd p q), 0) := by
  have : (digs q).isEmpty = false := by
    cases e : digs q with
    | nil => exact absurd e (digs_ne hq)
    | cons x xs => rfl
  unfold mkR; rw [fm_digs lp, fm_digs lq, this, val_digs, val_digs]; rfl
theorem len64 {p : Nat} (h : p < 18446744073709551616) : (digs p).length ≤ 2 := len_digs_lt (by simpa [pw] using h)

set_option maxHeartbeats 800000 in
/-- ratio.Of. -/
theorem qof_any (p q : Nat) (w : World) (hp : p < 18446744073709551616) (hq : q < 18446744073709551616) :
    Calls Tryz.prog 16 #[.int .u64 p, .int .u64 q] w (OutR2 w (mkR (digs p) (digs q)).1 (mkR (digs p) (digs q)).2.1 (mkR (digs p) (digs q)).2.2) := by
  obtain ⟨us, vs, k, hR⟩ : ∃ us vs k, mkR (digs p) (digs q) = (us, vs, k) := ⟨_, _, _, rfl⟩
  have hmk := fun A n c B m d W (h1 : Rd W A n c (digs p)) (h2 : Rd W B m d (digs q)) => make_any A B n c m d (digs p) (digs q) W h1 h2
  rw [hR] at hmk ⊢
  have HMK := Lib.hid hmk
  clear hmk hR
  have hb0 : Below w.heap.size w (w.alloc (.cells #[.slice none 0 0, .slice none 0 0] 38)) := (Below.refl _ _).alloc (Nat.le_refl _) _
  have hB0 := Bs.new w 38 (.slice none 0 0) (.slice none 0 0)
  go_enter Tryz.func16, Tryz.ntmps16
  go_wp2_with fail
  generalize w.alloc (Obj.cells #[Value.slice none 0 0, Value.slice none 0 0] 38) = W0 at *
  refine (of_any p _ hp).mono ?_
  rintro e w1 ⟨A1, n1, c1, rfl, hN1, hb1⟩
  have hb01 := hb0.trans (hb1.mono hb0.size)
  have hB1 := hB0.below hb1 hB0.lt
  go_wp2_with fail
  refine (of_any q _ hq).mono ?_
  rintro e w2 ⟨A2, n2, c2, rfl, hN2, hb2⟩
  have hb02 := hb01.trans (hb2.mono hb01.size)
  have hB2 := hB1.below hb2 hB1.lt
  have hR1 := hN1.1.below hb2
  go_wp2_with fail
  refine (HMK.out _ _ _ _ _ _ _ hR1 hN2.1).mono ?_
  rintro e w3 ⟨A3, n3, c3, B3, m3, d3, rfl, hN3, hM3, hb3⟩
  have hb03 := hb02.trans (hb3.mono hb02.size)
  have hB3 := hB2.below hb3 hB2.lt
  have hlt := hB2.lt
  obtain ⟨k0, k1⟩ := hB3.cells
  have f0 := hB3.frozen 0
  have f1 := hB3.frozen 1
  have HF := Lib.hid (outR2_end k (g := w.heap.size) hN3 hM3 hb03 (Nat.le_refl _) hlt)
  clear hB0 hB1 hB2 hB3 hN1 hN2 hN3 hM3 hb0 hb1 hb2 hb3 hb01 hb02 hb03 hR1
  go_wp2
  refine bodyPost_ret (v := .tuple #[.agg #[.slice A3 n3 c3, .slice B3 m3 d3], .int .i64 k]) (by simp [results, Tryz.results16, go_sem, k0, k1]) rfl ?_
  exact HF.out

theorem mul_nat_long (A B : Option Addr) (n c m d a b : Nat) (w : World) (ha : Rd w A n c (digs a)) (hb : Rd w B m d (digs b)) (la : (digs a).length ≤ 400) (lb : (digs b).length ≤ 400) (lr : 400 < (digs (a * b)).length) :
    Calls Tryz.prog 102 #[.slice A n c, .slice B m d] w (Out2 w [] 4) :=
  mul_long A B n c m d (digs a) (digs b) w ha hb (fm_digs la) (fm_digs lb) (by rw [val_digs, val_digs]; exact lr)
section
variable (A B C D : Option Addr) (n c m d n' c' m' d' p q r s : Nat) (w : World)
set_option maxHeartbeats 800000 in
theorem prods_yes (ha : Rd w A n c (digs p)) (hb : Rd w B m d (digs q)) (hc : Rd w C n' c' (digs r)) (hd : Rd w D m' d' (digs s))
    (lp : (digs p).length ≤ 400) (lq : (digs q).length ≤ 400) (lr : (digs r).length ≤ 400) (ls : (digs s).length ≤ 400) (l1 : (digs (p * q)).length ≤ 400) (l2 : (digs (r * s)).length ≤ 400) :
    Calls Tryz.prog 65 #[.slice A n c, .slice B m d, .slice C n' c', .slice D m' d'] w (Out3 w (digs (p * q)) (digs (r * s)) 0) := by
  go_enter Tryz.func65, Tryz.ntmps65
  go_wp2_with fail
  refine (mul_nat _ _ _ _ _ _ p q _ ha hb lp lq l1).mono ?_
  rintro e w1 ⟨A1, n1, c1, rfl, hN1, hb1⟩
  go_wp2_with fail
  refine (mul_nat _ _ _ _ _ _ r s _ (hc.below hb1) (hd.below hb1) lr ls l2).mono ?_
  rintro e w2 ⟨A2, n2, c2, rfl, hN2, hb2⟩
  have HF := Lib.hid (show Out3 w (digs (p * q)) (digs (r * s)) 0 (.returned (.tuple #[.slice A1 n1 c1, .slice A2 n2 c2, .int .i64 0])) w2 from
    ⟨_, _, _, _, _, _, rfl, hN1.below hb2, hN2.mono hb1.size, hb1.trans (hb2.mono hb1.size)⟩)
  clear hN1 hN2 hb1 hb2
  go_wp2
  go_ret3
  exact HF.out
set_option maxHeartbeats 800000 in
theorem prods_long1 (ha : Rd w A n c (digs p)) (hb : Rd w B m d (digs q))
    (lp : (digs p).length ≤ 400) (lq : (digs q).length ≤ 400) (l1 : 400 < (digs (p * q)).length) :
    Calls Tryz.prog 65 #[.slice A n c, .slice B m d, .slice C n' c', .slice D m' d'] w (Out3 w [] [] 4) := by
  go_enter Tryz.func65, Tryz.ntmps65
  go_wp2_with fail
  refine (mul_nat_long _ _ _ _ _ _ p q _ ha hb lp lq l1).mono ?_
  rintro e w1 ⟨A1, n1, c1, rfl, hN1, hb1⟩
  have HF := Lib.hid (show Out3 w [] [] 4 (.returned (.tuple #[.slice none 0 0, .slice none 0 0, .int .i64 4])) w1 from
    ⟨_, _, _, _, _, _, rfl, Nw.nil _ _, Nw.nil _ _, hb1⟩)
  clear hN1 hb1
  go_wp2
  go_ret3
  exact HF.out
set_option maxHeartbeats 800000 in
theorem prods_long2 (ha : Rd w A n c (digs p)) (hb : Rd w B m d (digs q)) (hc : Rd w C n' c' (digs r)) (hd : Rd w D m' d' (digs s))
    (lp : (digs p).length ≤ 400) (lq : (digs q).length ≤ 400) (lr : (digs r).length ≤ 400) (ls : (digs s).length ≤ 400) (l1 : (digs (p * q)).length ≤ 400) (l2 : 400 < (digs (r * s)).length) :
    Calls Tryz.prog 65 #[.slice A n c, .slice B m d, .slice C n' c', .slice D m' d'] w (Out3 w [] [] 4) := by
  go_enter Tryz.func65, Tryz.ntmps65
  go_wp2_with fail
  refine (mul_nat _ _ _ _ _ _ p q _ ha hb lp lq l1).mono ?_
  rintro e w1 ⟨A1, n1, c1, rfl, hN1, hb1⟩
  go_wp2_with fail
  refine (mul_nat_long _ _ _ _ _ _ r s _ (hc.below hb1) (hd.below hb1) lr ls l2).mono ?_
  rintro e w2 ⟨A2, n2, c2, rfl, hN2, hb2⟩
  have HF := Lib.hid (show Out3 w [] [] 4 (.returned (.tuple #[.slice none 0 0, .slice none 0 0, .int .i64 4])) w2 from
    ⟨_, _, _, _, _, _, rfl, Nw.nil _ _, Nw.nil _ _, hb1.trans (hb2.mono hb1.size)⟩)
  clear hN1 hN2 hb1 hb2
  go_wp2
  go_ret3
  exact HF.out
/-- What the two products give. -/
def prR (p q r s : Nat) : List Nat × List Nat × Int := if (digs (p * q)).length ≤ 400 ∧ (digs (r * s)).length ≤ 400 then (digs (p * q), digs (r * s), 0) else ([], [], 4)
/-- ratio.products. -/
theorem prods_any (ha : Rd w A n c (digs p)) (hb : Rd w B m d (digs q)) (hc : Rd w C n' c' (digs r)) (hd : Rd w D m' d' (digs s))
    (lp : (digs p).length ≤ 400) (lq : (digs q).length ≤ 400) (lr : (digs r).length ≤ 400) (ls : (digs s).length ≤ 400) :
    Calls Tryz.prog 65 #[.slice A n c, .slice B m d, .slice C n' c', .slice D m' d'] w (Out3 w (prR p q r s).1 (prR p q r s).2.1 (prR p q r s).2.2) := by
  by_cases l1 : (digs (p * q)).length ≤ 400
  · by_cases l2 : (digs (r * s)).length ≤ 400
    · have e : prR p q r s = (digs (p * q), digs (r * s), 0) := by unfold prR; rw [if_pos ⟨l1, l2⟩]
      rw [e]; exact prods_yes A B C D n c m d n' c' m' d' p q r s w ha hb hc hd lp lq lr ls l1 l2
    · have e : prR p q r s = ([], [], 4) := by unfold prR; rw [if_neg (fun h => l2 h.2)]
      rw [e]; exact prods_long2 A B C D n c m d n' c' m' d' p q r s w ha hb hc hd lp lq lr ls l1 (by omega)
  · have e : prR p q r s = ([], [], 4) := by unfold prR; rw [if_neg (fun h => l1 h.1)]
    rw [e]; exact prods_long1 A B C D n c m d n' c' m' d' p q w ha hb lp lq (by omega)
end
section
variable (A B : Option Addr) (n c m d p q : Nat) (w : World)
set_option maxHeartbeats 800000 in
theorem quot_yes (ha : Rd w A n c (digs p)) (hb : Rd w B m d (digs q)) (lp : (digs p).length ≤ 400) (lq : (digs q).length ≤ 400) (hq : q ≠ 0) :
    Calls Tryz.prog 64 #[.slice A n c, .slice B m d, .int .i64 0] w (OutR2 w (digs (p / Nat.gcd p q)) (digs (q / Nat.gcd p q)) 0) := by
  have hb0 : Below w.heap.size w (w.alloc (.cells #[.slice none 0 0, .slice none 0 0] 38)) := (Below.refl _ _).alloc (Nat.le_refl _) _
  have hB0 := Bs.new w 38 (.slice none 0 0) (.slice none 0 0)
  go_enter Tryz.func64, Tryz.ntmps64
  go_wp2_with fail
  generalize w.alloc (Obj.cells #[Value.slice none 0 0, Value.slice none 0 0] 38) = W0 at *
  refine (reduced_any _ _ _ _ _ _ p q _ (ha.below hb0) (hb.below hb0) lp lq hq).mono ?_
  rintro e w1 ⟨A1, n1, c1, B1, m1, d1, rfl, hN1, hM1, hb1⟩
  have hB1 := hB0.below hb1 hB0.lt
  have hlt := hB0.lt
  have hb01 := hb0.trans (hb1.mono hb0.size)
  obtain ⟨k0, k1⟩ := hB1.cells
  have f0 := hB1.frozen 0
  have f1 := hB1.frozen 1
  have HF := Lib.hid (outR2_end 0 (g := w.heap.size) hN1 hM1 hb01 (Nat.le_refl _) hlt)
  clear hB0 hB1 hN1 hM1 hb0 hb1 hb01
  go_wp2
  refine bodyPost_ret (v := .tuple #[.agg #[.slice A1 n1 c1, .slice B1 m1 d1], .int .i64 0]) (by simp [results, Tryz.results64, go_sem, k0, k1]) rfl ?_
  exact HF.out
set_option maxHeartbeats 800000 in
theorem quot_no (k : Int) (hk : k = 3 ∨ k = 4) :
    Calls Tryz.prog 64 #[.slice A n c, .slice B m d, .int .i64 k] w (OutR2 w [] [] k) := by
  have hb0 : Below w.heap.size w (w.alloc (.cells #[.slice none 0 0, .slice none 0 0] 38)) := (Below.refl _ _).alloc (Nat.le_refl _) _
  have hB0 := Bs.new w 38 (.slice none 0 0) (.slice none 0 0)
  obtain ⟨k0, k1⟩ := hB0.cells
  have f0 := hB0.frozen 0
  have f1 := hB0.frozen 1
  have HF := Lib.hid (show OutR2 w [] [] k (.returned (.tuple #[.agg #[.slice none 0 0, .slice none 0 0], .int .i64 k])) (w.alloc (.cells #[.slice none 0 0, .slice none 0 0] 38)) from ⟨_, _, _, _, _, _, rfl, Nw.nil _ _, Nw.nil _ _, hb0⟩)
  clear hB0 hb0
  rcases hk with rfl | rfl
  · go_enter Tryz.func64, Tryz.ntmps64
    go_wp2
    refine bodyPost_ret (v := .tuple #[.agg #[.slice none 0 0, .slice none 0 0], .int .i64 3]) (by simp [results, Tryz.results64, go_sem, k0, k1]) rfl ?_
    exact HF.out
  · go_enter Tryz.func64, Tryz.ntmps64
    go_wp2
    refine bodyPost_ret (v := .tuple #[.agg #[.slice none 0 0, .slice none 0 0], .int .i64 4]) (by simp [results, Tryz.results64, go_sem, k0, k1]) rfl ?_
    exact HF.out
end
section
variable (A B C D : Option Addr) (n c m d n' c' m' d' : Nat) (xs ys us vs : List Nat) (p q r s : Nat) (w : World)
theorem frmd_nat (ha : Rd w A n c (digs p)) (hb : Rd w B m d (digs q)) (h : Fr p q) :
    Calls Tryz.prog 58 #[.agg #[.slice A n c, .slice B m d]] w fun e w' => e = .returned (.bool true) ∧ Below w.heap.size w w' := by
  have := frmd_any A B n c m d (digs p) (digs q) w ha hb
  rw [frB_digs h] at this; exact this
set_option maxHeartbeats 1600000 in
theorem crossed_bad (ha : Rd w A n c xs) (hb : Rd w B m d ys) (hc : Rd w C n' c' us) (hd : Rd w D m' d' vs) (f : (frB xs ys && frB us vs) = false) :
    Calls Tryz.prog 44 #[.agg #[.slice A n c, .slice B m d], .agg #[.slice C n' c', .slice D m' d']] w (Out3 w [] [] 1) := by
  obtain ⟨hB1, hB2, hb0, hs0⟩ := boxes2 w 38 38 (.slice A n c) (.slice B m d) (.slice C n' c') (.slice D m' d')
  go_enter Tryz.func44, Tryz.ntmps44
  go_wp2_with fail
  generalize (w.alloc (Obj.cells #[Value.slice A n c, Value.slice B m d] 38)).alloc (Obj.cells #[Value.slice C n' c', Value.slice D m' d'] 38) = W0 at *
  obtain ⟨k0, k1⟩ := hB1.cells
  obtain ⟨k2, k3⟩ := hB2.cells
  cases fa : frB xs ys
  · refine (frmd_any _ _ _ _ _ _ xs ys _ (ha.below hb0) (hb.below hb0)).mono ?_
    rw [fa]
    rintro e w1 ⟨rfl, hb1⟩
    have hb01 := hb0.trans (hb1.mono hb0.size)
    clear k0 k1 k2 k3
    have HF := Lib.hid (show Out3 w [] [] 1 (.returned (.tuple #[.slice none 0 0, .slice none 0 0, .int .i64 1])) w1 from ⟨_, _, _, _, _, _, rfl, Nw.nil _ _, Nw.nil _ _, hb01⟩)
    clear hB1 hB2 hb0 hb1 hb01
    go_wp2
    go_ret3
    exact HF.out
  · have fb : frB us vs = false := by rw [fa] at f; simpa using f
    refine (frmd_any _ _ _ _ _ _ xs ys _ (ha.below hb0) (hb.below hb0)).mono ?_
    rw [fa]
    rintro e w0 ⟨rfl, hbx⟩
    have hbA := hb0.trans (hbx.mono hb0.size)
    have hB1a := hB1.below hbx (by omega)
    have hB2a := hB2.below hbx (by omega)
    have hsx := hbx.size
    clear hB1 hB2 k0 k1 k2 k3
    obtain ⟨k0, k1⟩ := hB1a.cells
    obtain ⟨k2, k3⟩ := hB2a.cells
    go_wp2_with fail
    refine (frmd_any _ _ _ _ _ _ us vs _ (hc.below hbA) (hd.below hbA)).mono ?_
    rw [fb]
    rintro e w1 ⟨rfl, hb1⟩
    have hb01 := hbA.trans (hb1.mono hbA.size)
    clear k0 k1 k2 k3
    have HF := Lib.hid (show Out3 w [] [] 1 (.returned (.tuple #[.slice none 0 0, .slice none 0 0, .int .i64 1])) w1 from ⟨_, _, _, _, _, _, rfl, Nw.nil _ _, Nw.nil _ _, hb01⟩)
    clear hB1a hB2a hbx hbA hb0 hb1 hb01
    go_wp2
    go_ret3
    exact HF.out
set_option maxHeartbeats 1600000 in
/-- ratio.crossed. -/
theorem crossed_any (ha : Rd w A n c (digs p)) (hb : Rd w B m d (digs q)) (hc : Rd w C n' c' (digs r)) (hd : Rd w D m' d' (digs s)) (h1 : Fr p q) (h2 : Fr r s) :
    Calls Tryz.prog 44 #[.agg #[.slice A n c, .slice B m d], .agg #[.slice C n' c', .slice D m' d']] w (Out3 w (prR p s r q).1 (prR p s r q).2.1 (prR p s r q).2.2) := by
  obtain ⟨zs, ts, k, hR⟩ : ∃ zs ts k, prR p s r q = (zs, ts, k) := ⟨_, _, _, rfl⟩
  have hpr := fun W (g1 : Rd W A n c (digs p)) (g2 : Rd W D m' d' (digs s)) (g3 : Rd W C n' c' (digs r)) (g4 : Rd W B m d (digs q)) => prods_any A D C B n c m' d' n' c' m d p s r q W g1 g2 g3 g4 h1.1 h2.2.1 h2.1 h1.2.1
  rw [hR] at hpr ⊢
  have HPR := Lib.hid hpr
  clear hpr hR
  obtain ⟨hB1, hB2, hb0, hs0⟩ := boxes2 w 38 38 (.slice A n c) (.slice B m d) (.slice C n' c') (.slice D m' d')
  go_enter Tryz.func44, Tryz.ntmps44
  go_wp2_with fail
  generalize (w.alloc (Obj.cells #[Value.slice A n c, Value.slice B m d] 38)).alloc (Obj.cells #[Value.slice C n' c', Value.slice D m' d'] 38) = W0 at *
  obtain ⟨k0, k1⟩ := hB1.cells
  obtain ⟨k2, k3⟩ := hB2.cells
  refine (frmd_nat _ _ _ _ _ _ p q _ (ha.below hb0) (hb.below hb0) h1).mono ?_
  rintro e w1 ⟨rfl, hbx⟩
  have hbA := hb0.trans (hbx.mono hb0.size)
  have hB1a := hB1.below hbx (by omega)
  have hB2a := hB2.below hbx (by omega)
  have hsx := hbx.size
  clear hB1 hB2 k0 k1 k2 k3
  obtain ⟨k0, k1⟩ := hB1a.cells
  obtain ⟨k2, k3⟩ := hB2a.cells
  go_wp2_with fail
  refine (frmd_nat _ _ _ _ _ _ r s _ (hc.below hbA) (hd.below hbA) h2).mono ?_
  rintro e w2 ⟨rfl, hby⟩
  have hbB := hbA.trans (hby.mono hbA.size)
  have hB1b := hB1a.below hby (by omega)
  have hB2b := hB2a.below hby (by omega)
  have hsy := hby.size
  clear hB1a hB2a k0 k1 k2 k3 hbA hb0 hbx hby
  obtain ⟨k0, k1⟩ := hB1b.cells
  obtain ⟨k2, k3⟩ := hB2b.cells
  go_wp2_with fail
  refine (HPR.out _ (ha.below hbB) (hd.below hbB) (hc.below hbB) (hb.below hbB)).mono ?_
  rintro e w3 ⟨A3, n3, c3, B3, m3, d3, rfl, hN3, hM3, hb3⟩
  have hs3 := hb3.size
  have HF := Lib.hid (show Out3 w zs ts k (.returned (.tuple #[.slice A3 n3 c3, .slice B3 m3 d3, .int .i64 k])) w3 from
    ⟨_, _, _, _, _, _, rfl, hN3.mono hbB.size, hM3.mono hbB.size, hbB.trans (hb3.mono hbB.size)⟩)
  clear hN3 hM3 hb3 hbB hB1b hB2b k0 k1 k2 k3
  go_wp2
  go_ret3
  exact HF.out
set_option maxHeartbeats 1600000 in
theorem rmul_bad2 (ha : Rd w A n c xs) (hb : Rd w B m d ys) (hc : Rd w C n' c' us) (hd : Rd w D m' d' vs) (f : (frB xs ys && frB us vs) = false) :
    Calls Tryz.prog 26 #[.agg #[.slice A n c, .slice B m d], .agg #[.slice C n' c', .slice D m' d']] w (OutR2 w [] [] 1) := by
  obtain ⟨hB1, hB2, hB3, hb0, hs0⟩ := boxes3 w 38 38 38 (.slice A n c) (.slice B m d) (.slice C n' c') (.slice D m' d') (.slice none 0 0) (.slice none 0 0)
  go_enter Tryz.func26, Tryz.ntmps26
  go_wp2_with fail
  generalize ((w.alloc (Obj.cells #[Value.slice A n c, Value.slice B m d] 38)).alloc (Obj.cells #[Value.slice C n' c', Value.slice D m' d'] 38)).alloc (Obj.cells #[Value.slice none 0 0, Value.slice none 0 0] 38) = W0 at *
  obtain ⟨k0, k1⟩ := hB1.cells
  obtain ⟨k2, k3⟩ := hB2.cells
  cases fa : frB xs ys
  · refine (frmd_any _ _ _ _ _ _ xs ys _ (ha.below hb0) (hb.below hb0)).mono ?_
    rw [fa]
    rintro e w1 ⟨rfl, hb1⟩
    have hb01 := hb0.trans (hb1.mono hb0.size)
    clear k0 k1 k2 k3
    have hB3' := hB3.below hb1 (by omega)
    obtain ⟨k0, k1⟩ := hB3'.cells
    have f0 := hB3'.frozen 0
    have f1 := hB3'.frozen 1
    have HF := Lib.hid (outR2_nil (g := w.heap.size + 2) 1 hb01 (by omega))
    clear hB1 hB2 hB3 hB3' hb0 hb1 hb01
    go_wp2
    refine bodyPost_ret (v := .tuple #[.agg #[.slice none 0 0, .slice none 0 0], .int .i64 1]) (by simp [results, Tryz.results26, go_sem, k0, k1]) rfl ?_
    exact HF.out
  · have fb : frB us vs = false := by rw [fa] at f; simpa using f
    refine (frmd_any _ _ _ _ _ _ xs ys _ (ha.below hb0) (hb.below hb0)).mono ?_
    rw [fa]
    rintro e w0 ⟨rfl, hbx⟩
    have hbA := hb0.trans (hbx.mono hb0.size)
    have hB1a := hB1.below hbx (by omega)
    have hB2a := hB2.below hbx (by omega)
    have hB3a := hB3.below hbx (by omega)
    have hsx := hbx.size
    clear hB1 hB2 k0 k1 k2 k3
    obtain ⟨k0, k1⟩ := hB1a.cells
    obtain ⟨k2, k3⟩ := hB2a.cells
    go_wp2_with fail
    refine (frmd_any _ _ _ _ _ _ us vs _ (hc.below hbA) (hd.below hbA)).mono ?_
    rw [fb]
    rintro e w1 ⟨rfl, hb1⟩
    have hb01 := hbA.trans (hb1.mono hbA.size)
    clear k0 k1 k2 k3
    have hB3' := hB3a.below hb1 (by omega)
    obtain ⟨k0, k1⟩ := hB3'.cells
    have f0 := hB3'.frozen 0
    have f1 := hB3'.frozen 1
    have HF := Lib.hid (outR2_nil (g := w.heap.size + 2) 1 hb01 (by omega))
    clear hB1a hB2a hB3a hbx hbA hB3 hB3' hb0 hb1 hb01
    go_wp2
    refine bodyPost_ret (v := .tuple #[.agg #[.slice none 0 0, .slice none 0 0], .int .i64 1]) (by simp [results, Tryz.results26, go_sem, k0, k1]) rfl ?_
    exact HF.out
set_option maxHeartbeats 1600000 in
theorem rdiv_bad2 (ha : Rd w A n c xs) (hb : Rd w B m d ys) (hc : Rd w C n' c' us) (hd : Rd w D m' d' vs) (f : (frB xs ys && frB us vs) = false) :
    Calls Tryz.prog 144 #[.agg #[.slice A n c, .slice B m d], .agg #[.slice C n' c', .slice D m' d']] w (OutR2 w [] [] 1) := by
  obtain ⟨hB1, hB2, hB3, hb0, hs0⟩ := boxes3 w 38 38 38 (.slice A n c) (.slice B m d) (.slice C n' c') (.slice D m' d') (.slice none 0 0) (.slice none 0 0)
  go_enter Tryz.func144, Tryz.ntmps144
  go_wp2_with fail
  generalize ((w.alloc (Obj.cells #[Value.slice A n c, Value.slice B m d] 38)).alloc (Obj.cells #[Value.slice C n' c', Value.slice D m' d'] 38)).alloc (Obj.cells #[Value.slice none 0 0, Value.slice none 0 0] 38) = W0 at *
  obtain ⟨k0, k1⟩ := hB1.cells
  obtain ⟨k2, k3⟩ := hB2.cells
  cases fa : frB xs ys
  · refine (frmd_any _ _ _ _ _ _ xs ys _ (ha.below hb0) (hb.below hb0)).mono ?_
    rw [fa]
    rintro e w1 ⟨rfl, hb1⟩
    have hb01 := hb0.trans (hb1.mono hb0.size)
    clear k0 k1 k2 k3
    have hB3' := hB3.below hb1 (by omega)
    obtain ⟨k0, k1⟩ := hB3'.cells
    have f0 := hB3'.frozen 0
    have f1 := hB3'.frozen 1
    have HF := Lib.hid (outR2_nil (g := w.heap.size + 2) 1 hb01 (by omega))
    clear hB1 hB2 hB3 hB3' hb0 hb1 hb01
    go_wp2
    refine bodyPost_ret (v := .tuple #[.agg #[.slice none 0 0, .slice none 0 0], .int .i64 1]) (by simp [results, Tryz.results144, go_sem, k0, k1]) rfl ?_
    exact HF.out
  · have fb : frB us vs = false := by rw [fa] at f; simpa using f
    refine (frmd_any _ _ _ _ _ _ xs ys _ (ha.below hb0) (hb.below hb0)).mono ?_
    rw [fa]
    rintro e w0 ⟨rfl, hbx⟩
    have hbA := hb0.trans (hbx.mono hb0.size)
    have hB1a := hB1.below hbx (by omega)
    have hB2a := hB2.below hbx (by omega)
    have hB3a := hB3.below hbx (by omega)
    have hsx := hbx.size
    clear hB1 hB2 k0 k1 k2 k3
    obtain ⟨k0, k1⟩ := hB1a.cells
    obtain ⟨k2, k3⟩ := hB2a.cells
    go_wp2_with fail
    refine (frmd_any _ _ _ _ _ _ us vs _ (hc.below hbA) (hd.below hbA)).mono ?_
    rw [fb]
    rintro e w1 ⟨rfl, hb1⟩
    have hb01 := hbA.trans (hb1.mono hbA.size)
    clear k0 k1 k2 k3
    have hB3' := hB3a.below hb1 (by omega)
    obtain ⟨k0, k1⟩ := hB3'.cells
    have f0 := hB3'.frozen 0
    have f1 := hB3'.frozen 1
    have HF := Lib.hid (outR2_nil (g := w.heap.size + 2) 1 hb01 (by omega))
    clear hB1a hB2a hB3a hbx hbA hB3 hB3' hb0 hb1 hb01
    go_wp2
    refine bodyPost_ret (v := .tuple #[.agg #[.slice none 0 0, .slice none 0 0], .int .i64 1]) (by simp [results, Tryz.results144, go_sem, k0, k1]) rfl ?_
    exact HF.out
set_option maxHeartbeats 1600000 in
theorem rmul_yes (ha : Rd w A n c (digs p)) (hb : Rd w B m d (digs q)) (hc : Rd w C n' c' (digs r)) (hd : Rd w D m' d' (digs s)) (h1 : Fr p q) (h2 : Fr r s)  (l1 : (digs (p * r)).length ≤ 400) (l2 : (digs (q * s)).length ≤ 400) :
    Calls Tryz.prog 26 #[.agg #[.slice A n c, .slice B m d], .agg #[.slice C n' c', .slice D m' d']] w (OutR2 w (digs ((p * r) / Nat.gcd (p * r) (q * s))) (digs ((q * s) / Nat.gcd (p * r) (q * s))) 0) := by
  have hD : q * s ≠ 0 := Nat.mul_ne_zero h1.2.2.1 h2.2.2.1
  obtain ⟨hB1, hB2, hB3, hb0, hs0⟩ := boxes3 w 38 38 38 (.slice A n c) (.slice B m d) (.slice C n' c') (.slice D m' d') (.slice none 0 0) (.slice none 0 0)
  go_enter Tryz.func26, Tryz.ntmps26
  go_wp2_with fail
  generalize ((w.alloc (Obj.cells #[Value.slice A n c, Value.slice B m d] 38)).alloc (Obj.cells #[Value.slice C n' c', Value.slice D m' d'] 38)).alloc (Obj.cells #[Value.slice none 0 0, Value.slice none 0 0] 38) = W0 at *
  obtain ⟨k0, k1⟩ := hB1.cells
  obtain ⟨k2, k3⟩ := hB2.cells
  refine (frmd_nat _ _ _ _ _ _ p q _ (ha.below hb0) (hb.below hb0) h1).mono ?_
  rintro e w1 ⟨rfl, hbx⟩
  have hbA := hb0.trans (hbx.mono hb0.size)
  have hB1a := hB1.below hbx (by omega)
  have hB2a := hB2.below hbx (by omega)
  have hB3a := hB3.below hbx (by omega)
  have hsx := hbx.size
  clear hB1 hB2 hB3 k0 k1 k2 k3
  obtain ⟨k0, k1⟩ := hB1a.cells
  obtain ⟨k2, k3⟩ := hB2a.cells
  go_wp2_with fail
  refine (frmd_nat _ _ _ _ _ _ r s _ (hc.below hbA) (hd.below hbA) h2).mono ?_
  rintro e w2 ⟨rfl, hby⟩
  have hbB := hbA.trans (hby.mono hbA.size)
  have hB1b := hB1a.below hby (by omega)
  have hB2b := hB2a.below hby (by omega)
  have hB3b := hB3a.below hby (by omega)
  have hsy := hby.size
  clear hB1a hB2a hB3a k0 k1 k2 k3 hbA hb0 hbx hby
  obtain ⟨k0, k1⟩ := hB1b.cells
  obtain ⟨k2, k3⟩ := hB2b.cells
  go_wp2_with fail
  refine (prods_yes _ _ _ _ _ _ _ _ _ _ _ _ p r q s _ (ha.below hbB) (hc.below hbB) (hb.below hbB) (hd.below hbB) h1.1 h2.1 h1.2.1 h2.2.1 l1 l2).mono ?_
  rintro e w3 ⟨A3, n3, c3, B3, m3, d3, rfl, hN3, hM3, hb3⟩
  have hbC := hbB.trans (hb3.mono hbB.size)
  have hB3c := hB3b.below hb3 (by omega)
  have hs3 := hb3.size
  go_wp2_with fail
  refine (quot_yes _ _ _ _ _ _ (p * r) (q * s) _ hN3.1 hM3.1 l1 l2 hD).mono ?_
  rintro e w4 ⟨A4, n4, c4, B4, m4, d4, rfl, hN4, hM4, hb4⟩
  have hbD := hbC.trans (hb4.mono hbC.size)
  have hB3d := hB3c.below hb4 (by omega)
  clear k0 k1 k2 k3
  obtain ⟨k0, k1⟩ := hB3d.cells
  have f0 := hB3d.frozen 0
  have f1 := hB3d.frozen 1
  have HF := Lib.hid (outR2_end 0 (g := w.heap.size + 2) hN4 hM4 hbD (by omega) (by omega))
  clear hN3 hM3 hN4 hM4 hb3 hb4 hbB hbC hbD hB1b hB2b hB3b hB3c hB3d
  go_wp2
  refine bodyPost_ret (v := .tuple #[.agg #[.slice A4 n4 c4, .slice B4 m4 d4], .int .i64 0]) (by simp [results, Tryz.results26, go_sem, k0, k1]) rfl ?_
  exact HF.out
set_option maxHeartbeats 1600000 in
theorem rmul_long (ha : Rd w A n c (digs p)) (hb : Rd w B m d (digs q)) (hc : Rd w C n' c' (digs r)) (hd : Rd w D m' d' (digs s)) (h1 : Fr p q) (h2 : Fr r s)  (hl : 400 < (digs (p * r)).length ∨ 400 < (digs (q * s)).length) :
    Calls Tryz.prog 26 #[.agg #[.slice A n c, .slice B m d], .agg #[.slice C n' c', .slice D m' d']] w (OutR2 w [] [] 4) := by
  have e : prR p r q s = ([], [], 4) := by unfold prR; rw [if_neg (by omega)]
  have hpr := fun W g1 g2 g3 g4 => prods_any A C B D n c n' c' m d m' d' p r q s W g1 g2 g3 g4
  rw [e] at hpr
  have HPR := Lib.hid hpr
  clear hpr e
  obtain ⟨hB1, hB2, hB3, hb0, hs0⟩ := boxes3 w 38 38 38 (.slice A n c) (.slice B m d) (.slice C n' c') (.slice D m' d') (.slice none 0 0) (.slice none 0 0)
  go_enter Tryz.func26, Tryz.ntmps26
  go_wp2_with fail
  generalize ((w.alloc (Obj.cells #[Value.slice A n c, Value.slice B m d] 38)).alloc (Obj.cells #[Value.slice C n' c', Value.slice D m' d'] 38)).alloc (Obj.cells #[Value.slice none 0 0, Value.slice none 0 0] 38) = W0 at *
  obtain ⟨k0, k1⟩ := hB1.cells
  obtain ⟨k2, k3⟩ := hB2.cells
  refine (frmd_nat _ _ _ _ _ _ p q _ (ha.below hb0) (hb.below hb0) h1).mono ?_
  rintro e w1 ⟨rfl, hbx⟩
  have hbA := hb0.trans (hbx.mono hb0.size)
  have hB1a := hB1.below hbx (by omega)
  have hB2a := hB2.below hbx (by omega)
  have hB3a := hB3.below hbx (by omega)
  have hsx := hbx.size
  clear hB1 hB2 hB3 k0 k1 k2 k3
  obtain ⟨k0, k1⟩ := hB1a.cells
  obtain ⟨k2, k3⟩ := hB2a.cells
  go_wp2_with fail
  refine (frmd_nat _ _ _ _ _ _ r s _ (hc.below hbA) (hd.below hbA) h2).mono ?_
  rintro e w2 ⟨rfl, hby⟩
  have hbB := hbA.trans (hby.mono hbA.size)
  have hB1b := hB1a.below hby (by omega)
  have hB2b := hB2a.below hby (by omega)
  have hB3b := hB3a.below hby (by omega)
  have hsy := hby.size
  clear hB1a hB2a hB3a k0 k1 k2 k3 hbA hb0 hbx hby
  obtain ⟨k0, k1⟩ := hB1b.cells
  obtain ⟨k2, k3⟩ := hB2b.cells
  go_wp2_with fail
  refine (HPR.out _ (ha.below hbB) (hc.below hbB) (hb.below hbB) (hd.below hbB) h1.1 h2.1 h1.2.1 h2.2.1).mono ?_
  rintro e w3 ⟨A3, n3, c3, B3, m3, d3, rfl, hN3, hM3, hb3⟩
  have hbC := hbB.trans (hb3.mono hbB.size)
  have hB3c := hB3b.below hb3 (by omega)
  have hs3 := hb3.size
  go_wp2_with fail
  refine (quot_no _ _ _ _ _ _ _ 4 (Or.inr rfl)).mono ?_
  rintro e w4 ⟨A4, n4, c4, B4, m4, d4, rfl, hN4, hM4, hb4⟩
  have hbD := hbC.trans (hb4.mono hbC.size)
  have hB3d := hB3c.below hb4 (by omega)
  clear k0 k1 k2 k3
  obtain ⟨k0, k1⟩ := hB3d.cells
  have f0 := hB3d.frozen 0
  have f1 := hB3d.frozen 1
  have HF := Lib.hid (outR2_end 4 (g := w.heap.size + 2) hN4 hM4 hbD (by omega) (by omega))
  clear hN3 hM3 hN4 hM4 hb3 hb4 hbB hbC hbD hB1b hB2b hB3b hB3c hB3d
  go_wp2
  refine bodyPost_ret (v := .tuple #[.agg #[.slice A4 n4 c4, .slice B4 m4 d4], .int .i64 4]) (by simp [results, Tryz.results26, go_sem, k0, k1]) rfl ?_
  exact HF.out
set_option maxHeartbeats 1600000 in
theorem rdiv_yes (ha : Rd w A n c (digs p)) (hb : Rd w B m d (digs q)) (hc : Rd w C n' c' (digs r)) (hd : Rd w D m' d' (digs s)) (h1 : Fr p q) (h2 : Fr r s) (hr : r ≠ 0) (l1 : (digs (p * s)).length ≤ 400) (l2 : (digs (q * r)).length ≤ 400) :
    Calls Tryz.prog 144 #[.agg #[.slice A n c, .slice B m d], .agg #[.slice C n' c', .slice D m' d']] w (OutR2 w (digs ((p * s) / Nat.gcd (p * s) (q * r))) (digs ((q * r) / Nat.gcd (p * s) (q * r))) 0) := by
  have hD : q * r ≠ 0 := Nat.mul_ne_zero h1.2.2.1 hr
  have hn0 : n' ≠ 0 := by rw [← hc.len]; exact fun e => hr (len_digs_eq_zero.1 e)
  obtain ⟨hB1, hB2, hB3, hb0, hs0⟩ := boxes3 w 38 38 38 (.slice A n c) (.slice B m d) (.slice C n' c') (.slice D m' d') (.slice none 0 0) (.slice none 0 0)
  go_enter Tryz.func144, Tryz.ntmps144
  go_wp2_with fail
  generalize ((w.alloc (Obj.cells #[Value.slice A n c, Value.slice B m d] 38)).alloc (Obj.cells #[Value.slice C n' c', Value.slice D m' d'] 38)).alloc (Obj.cells #[Value.slice none 0 0, Value.slice none 0 0] 38) = W0 at *
  obtain ⟨k0, k1⟩ := hB1.cells
  obtain ⟨k2, k3⟩ := hB2.cells
  refine (frmd_nat _ _ _ _ _ _ p q _ (ha.below hb0) (hb.below hb0) h1).mono ?_
  rintro e w1 ⟨rfl, hbx⟩
  have hbA := hb0.trans (hbx.mono hb0.size)
  have hB1a := hB1.below hbx (by omega)
  have hB2a := hB2.below hbx (by omega)
  have hB3a := hB3.below hbx (by omega)
  have hsx := hbx.size
  clear hB1 hB2 hB3 k0 k1 k2 k3
  obtain ⟨k0, k1⟩ := hB1a.cells
  obtain ⟨k2, k3⟩ := hB2a.cells
  go_wp2_with fail
  refine (frmd_nat _ _ _ _ _ _ r s _ (hc.below hbA) (hd.below hbA) h2).mono ?_
  rintro e w2 ⟨rfl, hby⟩
  have hbB := hbA.trans (hby.mono hbA.size)
  have hB1b := hB1a.below hby (by omega)
  have hB2b := hB2a.below hby (by omega)
  have hB3b := hB3a.below hby (by omega)
  have hsy := hby.size
  clear hB1a hB2a hB3a k0 k1 k2 k3 hbA hb0 hbx hby
  obtain ⟨k0, k1⟩ := hB1b.cells
  obtain ⟨k2, k3⟩ := hB2b.cells
  go_wp2_with fail
  refine (isZero_no _ _ _ _ hn0).mono ?_
  rintro e w' ⟨rfl, rfl⟩
  go_wp2_with fail
  refine (prods_yes _ _ _ _ _ _ _ _ _ _ _ _ p s q r _ (ha.below hbB) (hd.below hbB) (hb.below hbB) (hc.below hbB) h1.1 h2.2.1 h1.2.1 h2.1 l1 l2).mono ?_
  rintro e w3 ⟨A3, n3, c3, B3, m3, d3, rfl, hN3, hM3, hb3⟩
  have hbC := hbB.trans (hb3.mono hbB.size)
  have hB3c := hB3b.below hb3 (by omega)
  have hs3 := hb3.size
  go_wp2_with fail
  refine (quot_yes _ _ _ _ _ _ (p * s) (q * r) _ hN3.1 hM3.1 l1 l2 hD).mono ?_
  rintro e w4 ⟨A4, n4, c4, B4, m4, d4, rfl, hN4, hM4, hb4⟩
  have hbD := hbC.trans (hb4.mono hbC.size)
  have hB3d := hB3c.below hb4 (by omega)
  clear k0 k1 k2 k3
  obtain ⟨k0, k1⟩ := hB3d.cells
  have f0 := hB3d.frozen 0
  have f1 := hB3d.frozen 1
  have HF := Lib.hid (outR2_end 0 (g := w.heap.size + 2) hN4 hM4 hbD (by omega) (by omega))
  clear hN3 hM3 hN4 hM4 hb3 hb4 hbB hbC hbD hB1b hB2b hB3b hB3c hB3d
  go_wp2
  refine bodyPost_ret (v := .tuple #[.agg #[.slice A4 n4 c4, .slice B4 m4 d4], .int .i64 0]) (by simp [results, Tryz.results144, go_sem, k0, k1]) rfl ?_
  exact HF.out
set_option maxHeartbeats 1600000 in
theorem rdiv_long (ha : Rd w A n c (digs p)) (hb : Rd w B m d (digs q)) (hc : Rd w C n' c' (digs r)) (hd : Rd w D m' d' (digs s)) (h1 : Fr p q) (h2 : Fr r s) (hr : r ≠ 0) (hl : 400 < (digs (p * s)).length ∨ 400 < (digs (q * r)).length) :
    Calls Tryz.prog 144 #[.agg #[.slice A n c, .slice B m d], .agg #[.slice C n' c', .slice D m' d']] w (OutR2 w [] [] 4) := by
  have e : prR p s q r = ([], [], 4) := by unfold prR; rw [if_neg (by omega)]
  have hpr := fun W g1 g2 g3 g4 => prods_any A D B C n c m' d' m d n' c' p s q r W g1 g2 g3 g4
  rw [e] at hpr
  have HPR := Lib.hid hpr
  clear hpr e
  have hn0 : n' ≠ 0 := by rw [← hc.len]; exact fun e => hr (len_digs_eq_zero.1 e)
  obtain ⟨hB1, hB2, hB3, hb0, hs0⟩ := boxes3 w 38 38 38 (.slice A n c) (.slice B m d) (.slice C n' c') (.slice D m' d') (.slice none 0 0) (.slice none 0 0)
  go_enter Tryz.func144, Tryz.ntmps144
  go_wp2_with fail
  generalize ((w.alloc (Obj.cells #[Value.slice A n c, Value.slice B m d] 38)).alloc (Obj.cells #[Value.slice C n' c', Value.slice D m' d'] 38)).alloc (Obj.cells #[Value.slice none 0 0, Value.slice none 0 0] 38) = W0 at *
  obtain ⟨k0, k1⟩ := hB1.cells
  obtain ⟨k2, k3⟩ := hB2.cells
  refine (frmd_nat _ _ _ _ _ _ p q _ (ha.below hb0) (hb.below hb0) h1).mono ?_
  rintro e w1 ⟨rfl, hbx⟩
  have hbA := hb0.trans (hbx.mono hb0.size)
  have hB1a := hB1.below hbx (by omega)
  have hB2a := hB2.below hbx (by omega)
  have hB3a := hB3.below hbx (by omega)
  have hsx := hbx.size
  clear hB1 hB2 hB3 k0 k1 k2 k3
  obtain ⟨k0, k1⟩ := hB1a.cells
  obtain ⟨k2, k3⟩ := hB2a.cells
  go_wp2_with fail
  refine (frmd_nat _ _ _ _ _ _ r s _ (hc.below hbA) (hd.below hbA) h2).mono ?_
  rintro e w2 ⟨rfl, hby⟩
  have hbB := hbA.trans (hby.mono hbA.size)
  have hB1b := hB1a.below hby (by omega)
  have hB2b := hB2a.below hby (by omega)
  have hB3b := hB3a.below hby (by omega)
  have hsy := hby.size
  clear hB1a hB2a hB3a k0 k1 k2 k3 hbA hb0 hbx hby
  obtain ⟨k0, k1⟩ := hB1b.cells
  obtain ⟨k2, k3⟩ := hB2b.cells
  go_wp2_with fail
  refine (isZero_no _ _ _ _ hn0).mono ?_
  rintro e w' ⟨rfl, rfl⟩
  go_wp2_with fail
  refine (HPR.out _ (ha.below hbB) (hd.below hbB) (hb.below hbB) (hc.below hbB) h1.1 h2.2.1 h1.2.1 h2.1).mono ?_
  rintro e w3 ⟨A3, n3, c3, B3, m3, d3, rfl, hN3, hM3, hb3⟩
  have hbC := hbB.trans (hb3.mono hbB.size)
  have hB3c := hB3b.below hb3 (by omega)
  have hs3 := hb3.size
  go_wp2_with fail
  refine (quot_no _ _ _ _ _ _ _ 4 (Or.inr rfl)).mono ?_
  rintro e w4 ⟨A4, n4, c4, B4, m4, d4, rfl, hN4, hM4, hb4⟩
  have hbD := hbC.trans (hb4.mono hbC.size)
  have hB3d := hB3c.below hb4 (by omega)
  clear k0 k1 k2 k3
  obtain ⟨k0, k1⟩ := hB3d.cells
  have f0 := hB3d.frozen 0
  have f1 := hB3d.frozen 1
  have HF := Lib.hid (outR2_end 4 (g := w.heap.size + 2) hN4 hM4 hbD (by omega) (by omega))
  clear hN3 hM3 hN4 hM4 hb3 hb4 hbB hbC hbD hB1b hB2b hB3b hB3c hB3d
  go_wp2
  refine bodyPost_ret (v := .tuple #[.agg #[.slice A4 n4 c4, .slice B4 m4 d4], .int .i64 4]) (by simp [results, Tryz.results144, go_sem, k0, k1]) rfl ?_
  exact HF.out
set_option maxHeartbeats 1600000 in
theorem rdiv_none (ha : Rd w A n c (digs p)) (hb : Rd w B m d (digs q)) (hc : Rd w C 0 c' (digs r)) (hd : Rd w D m' d' (digs s)) (h1 : Fr p q) (h2 : Fr r s) :
    Calls Tryz.prog 144 #[.agg #[.slice A n c, .slice B m d], .agg #[.slice C 0 c', .slice D m' d']] w (OutR2 w [] [] 5) := by
  obtain ⟨hB1, hB2, hB3, hb0, hs0⟩ := boxes3 w 38 38 38 (.slice A n c) (.slice B m d) (.slice C 0 c') (.slice D m' d') (.slice none 0 0) (.slice none 0 0)
  go_enter Tryz.func144, Tryz.ntmps144
  go_wp2_with fail
  generalize ((w.alloc (Obj.cells #[Value.slice A n c, Value.slice B m d] 38)).alloc (Obj.cells #[Value.slice C 0 c', Value.slice D m' d'] 38)).alloc (Obj.cells #[Value.slice none 0 0, Value.slice none 0 0] 38) = W0 at *
  obtain ⟨k0, k1⟩ := hB1.cells
  obtain ⟨k2, k3⟩ := hB2.cells
  refine (frmd_nat _ _ _ _ _ _ p q _ (ha.below hb0) (hb.below hb0) h1).mono ?_
  rintro e w1 ⟨rfl, hbx⟩
  have hbA := hb0.trans (hbx.mono hb0.size)
  have hB1a := hB1.below hbx (by omega)
  have hB2a := hB2.below hbx (by omega)
  have hB3a := hB3.below hbx (by omega)
  have hsx := hbx.size
  clear hB1 hB2 hB3 k0 k1 k2 k3
  obtain ⟨k0, k1⟩ := hB1a.cells
  obtain ⟨k2, k3⟩ := hB2a.cells
  go_wp2_with fail
  refine (frmd_nat _ _ _ _ _ _ r s _ (hc.below hbA) (hd.below hbA) h2).mono ?_
  rintro e w2 ⟨rfl, hby⟩
  have hbB := hbA.trans (hby.mono hbA.size)
  have hB1b := hB1a.below hby (by omega)
  have hB2b := hB2a.below hby (by omega)
  have hB3b := hB3a.below hby (by omega)
  have hsy := hby.size
  clear hB1a hB2a hB3a k0 k1 k2 k3 hbA hb0 hbx hby
  obtain ⟨k0, k1⟩ := hB1b.cells
  obtain ⟨k2, k3⟩ := hB2b.cells
  go_wp2_with fail
  refine (isZero_yes _ _ _).mono ?_
  rintro e w' ⟨rfl, rfl⟩
  clear k0 k1 k2 k3
  obtain ⟨k0, k1⟩ := hB3b.cells
  have f0 := hB3b.frozen 0
  have f1 := hB3b.frozen 1
  have HF := Lib.hid (outR2_nil (g := w.heap.size + 2) 5 hbB (by omega))
  clear hbB hB1b hB2b hB3b
  go_wp2
  refine bodyPost_ret (v := .tuple #[.agg #[.slice none 0 0, .slice none 0 0], .int .i64 5]) (by simp [results, Tryz.results144, go_sem, k0, k1]) rfl ?_
  exact HF.out
set_option maxHeartbeats 1600000 in
theorem rcmp_bad2 (ha : Rd w A n c xs) (hb : Rd w B m d ys) (hc : Rd w C n' c' us) (hd : Rd w D m' d' vs) (f : (frB xs ys && frB us vs) = false) :
    Calls Tryz.prog 15 #[.agg #[.slice A n c, .slice B m d], .agg #[.slice C n' c', .slice D m' d']] w fun e w' => e = .returned (.int .i64 0) ∧ Below w.heap.size w w' := by
  obtain ⟨hB1, hB2, hb0, hs0⟩ := boxes2 w 38 38 (.slice A n c) (.slice B m d) (.slice C n' c') (.slice D m' d')
  go_enter Tryz.func15, Tryz.ntmps15
  go_wp2_with fail
  generalize (w.alloc (Obj.cells #[Value.slice A n c, Value.slice B m d] 38)).alloc (Obj.cells #[Value.slice C n' c', Value.slice D m' d'] 38) = W0 at *
  refine (crossed_bad _ _ _ _ _ _ _ _ _ _ _ _ xs ys us vs _ (ha.below hb0) (hb.below hb0) (hc.below hb0) (hd.below hb0) f).mono ?_
  rintro e w1 ⟨A3, n3, c3, B3, m3, d3, rfl, hN3, hM3, hb3⟩
  have HF := Lib.hid (hb0.trans (hb3.mono hb0.size))
  clear hN3 hM3 hb3 hb0 hB1 hB2
  go_wp2
  go_ret
  exact ⟨rfl, HF.out⟩
set_option maxHeartbeats 1600000 in
theorem rcmp_long2 (ha : Rd w A n c (digs p)) (hb : Rd w B m d (digs q)) (hc : Rd w C n' c' (digs r)) (hd : Rd w D m' d' (digs s)) (h1 : Fr p q) (h2 : Fr r s) (hl : 400 < (digs (p * s)).length ∨ 400 < (digs (r * q)).length) :
    Calls Tryz.prog 15 #[.agg #[.slice A n c, .slice B m d], .agg #[.slice C n' c', .slice D m' d']] w fun e w' => e = .returned (.int .i64 0) ∧ Below w.heap.size w w' := by
  have e : prR p s r q = ([], [], 4) := by unfold prR; rw [if_neg (by omega)]
  have hcr := fun W g1 g2 g3 g4 => crossed_any A B C D n c m d n' c' m' d' p q r s W g1 g2 g3 g4 h1 h2
  rw [e] at hcr
  have HCR := Lib.hid hcr
  clear hcr e
  obtain ⟨hB1, hB2, hb0, hs0⟩ := boxes2 w 38 38 (.slice A n c) (.slice B m d) (.slice C n' c') (.slice D m' d')
  go_enter Tryz.func15, Tryz.ntmps15
  go_wp2_with fail
  generalize (w.alloc (Obj.cells #[Value.slice A n c, Value.slice B m d] 38)).alloc (Obj.cells #[Value.slice C n' c', Value.slice D m' d'] 38) = W0 at *
  refine (HCR.out _ (ha.below hb0) (hb.below hb0) (hc.below hb0) (hd.below hb0)).mono ?_
  rintro e w1 ⟨A3, n3, c3, B3, m3, d3, rfl, hN3, hM3, hb3⟩
  have HF := Lib.hid (hb0.trans (hb3.mono hb0.size))
  clear hN3 hM3 hb3 hb0 hB1 hB2
  go_wp2
  go_ret
  exact ⟨rfl, HF.out⟩
set_option maxHeartbeats 1600000 in
theorem rcmp_yes2 (ha : Rd w A n c (digs p)) (hb : Rd w B m d (digs q)) (hc : Rd w C n' c' (digs r)) (hd : Rd w D m' d' (digs s)) (h1 : Fr p q) (h2 : Fr r s) (l1 : (digs (p * s)).length ≤ 400) (l2 : (digs (r * q)).length ≤ 400) :
    Calls Tryz.prog 15 #[.agg #[.slice A n c, .slice B m d], .agg #[.slice C n' c', .slice D m' d']] w fun e w' => e = .returned (.int .i64 (cmpN (p * s) (r * q))) ∧ Below w.heap.size w w' := by
  have e : prR p s r q = (digs (p * s), digs (r * q), 0) := by unfold prR; rw [if_pos ⟨l1, l2⟩]
  have hcr := fun W g1 g2 g3 g4 => crossed_any A B C D n c m d n' c' m' d' p q r s W g1 g2 g3 g4 h1 h2
  rw [e] at hcr
  have HCR := Lib.hid hcr
  clear hcr e
  obtain ⟨hB1, hB2, hb0, hs0⟩ := boxes2 w 38 38 (.slice A n c) (.slice B m d) (.slice C n' c') (.slice D m' d')
  go_enter Tryz.func15, Tryz.ntmps15
  go_wp2_with fail
  generalize (w.alloc (Obj.cells #[Value.slice A n c, Value.slice B m d] 38)).alloc (Obj.cells #[Value.slice C n' c', Value.slice D m' d'] 38) = W0 at *
  refine (HCR.out _ (ha.below hb0) (hb.below hb0) (hc.below hb0) (hd.below hb0)).mono ?_
  rintro e w1 ⟨A3, n3, c3, B3, m3, d3, rfl, hN3, hM3, hb3⟩
  have HF := Lib.hid (hb0.trans (hb3.mono hb0.size))
  go_wp2_with fail
  refine (cmp_nat _ _ _ _ _ _ (p * s) (r * q) _ hN3.1 hM3.1 l1 l2).mono ?_
  rintro e w2 ⟨rfl, nq, rfl⟩
  clear hN3 hM3 hb3 hb0 hB1 hB2
  go_wp2
  go_ret
  exact ⟨rfl, below_drewN' HF.out nq⟩
end
end Go.Proofs.YtehekjlakegkpaaGreat
end
