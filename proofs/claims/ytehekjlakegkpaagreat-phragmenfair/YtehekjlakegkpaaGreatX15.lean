/-
  What ratio.Formed, Make, Of, products, quotient and crossed do. For every fraction that can be read: an error number where the document asks for one, else the fraction in lowest terms.
-/
import Derived.Test.YtehekjlakegkpaaGreatX14
section
namespace Go.Proofs.YtehekjlakegkpaaGreat
open Go.RowKit

/-- The fraction xs / ys is well formed. -/
def frB (xs ys : List Nat) : Bool := fmB xs && (fmB ys && (!ys.isEmpty && (Nat.gcd (val xs) (val ys) == 1)))
/-- p / q is a well formed fraction. -/
def Fr (p q : Nat) : Prop := (digs p).length ≤ 400 ∧ (digs q).length ≤ 400 ∧ q ≠ 0 ∧ Nat.gcd p q = 1
theorem fr_of {xs ys : List Nat} (hx : Lim xs) (hy : Lim ys) (h : frB xs ys = true) : ∃ p q, xs = digs p ∧ ys = digs q ∧ Fr p q := by
  unfold frB at h
  simp only [Bool.and_eq_true, beq_iff_eq] at h
  obtain ⟨h1, h2, h3, h4⟩ := h
  obtain ⟨p, rfl, lp⟩ := digs_of hx h1
  obtain ⟨q, rfl, lq⟩ := digs_of hy h2
  rw [val_digs, val_digs] at h4
  refine ⟨p, q, rfl, rfl, lp, lq, ?_, h4⟩
  rintro rfl
  rw [digs_zero] at h3
  simp at h3
theorem frB_digs {p q : Nat} (h : Fr p q) : frB (digs p) (digs q) = true := by
  obtain ⟨h1, h2, h3, h4⟩ := h
  unfold frB
  have h5 : (digs q).isEmpty = false := by
    cases e : digs q with
    | nil => exact absurd e (digs_ne h3)
    | cons x xs => rfl
  rw [fm_digs h1, fm_digs h2, val_digs, val_digs, h5]
  simp [h4]
/-- Two blocks that hold two values each, one behind the other. -/
theorem boxes2 (w : World) (S T : TypeId) (u v x y : Value) : Bs ((w.alloc (.cells #[u, v] S)).alloc (.cells #[x, y] T)) S w.heap.size u v ∧ Bs ((w.alloc (.cells #[u, v] S)).alloc (.cells #[x, y] T)) T (w.heap.size + 1) x y ∧
    Below w.heap.size w ((w.alloc (.cells #[u, v] S)).alloc (.cells #[x, y] T)) ∧ ((w.alloc (.cells #[u, v] S)).alloc (.cells #[x, y] T)).heap.size = w.heap.size + 2 := by
  have hs : (w.alloc (.cells #[u, v] S)).heap.size = w.heap.size + 1 := by simp
  refine ⟨(Bs.new w S u v).alloc _, ?_, ((Below.refl _ _).alloc (Nat.le_refl _) _).alloc (by omega) _, by simp⟩
  have := Bs.new (w.alloc (.cells #[u, v] S)) T x y
  rw [hs] at this; exact this
/-- Three such blocks. -/
theorem boxes3 (w : World) (S T U : TypeId) (u v x y z t : Value) : Bs (((w.alloc (.cells #[u, v] S)).alloc (.cells #[x, y] T)).alloc (.cells #[z, t] U)) S w.heap.size u v ∧ Bs (((w.alloc (.cells #[u, v] S)).alloc (.cells #[x, y] T)).alloc (.cells #[z, t] U)) T (w.heap.size + 1) x y ∧
    Bs (((w.alloc (.cells #[u, v] S)).alloc (.cells #[x, y] T)).alloc (.cells #[z, t] U)) U (w.heap.size + 2) z t ∧
    Below w.heap.size w (((w.alloc (.cells #[u, v] S)).alloc (.cells #[x, y] T)).alloc (.cells #[z, t] U)) ∧ (((w.alloc (.cells #[u, v] S)).alloc (.cells #[x, y] T)).alloc (.cells #[z, t] U)).heap.size = w.heap.size + 3 := by
  obtain ⟨h1, h2, h3, h4⟩ := boxes2 w S T u v x y
  refine ⟨h1.alloc _, h2.alloc _, ?_, h3.alloc (by omega) _, by simp⟩
  have := Bs.new ((w.alloc (.cells #[u, v] S)).alloc (.cells #[x, y] T)) U z t
  rw [h4] at this; exact this

set_option maxHeartbeats 800000 in
/-- ratio.Formed. -/
theorem frmd_any (A B : Option Addr) (n c m d : Nat) (xs ys : List Nat) (w : World) (ha : Rd w A n c xs) (hb : Rd w B m d ys) :
    Calls Tryz.prog 58 #[.agg #[.slice A n c, .slice B m d]] w fun e w' => e = .returned (.bool (frB xs ys)) ∧ Below w.heap.size w w' := by
  have hb0 : Below w.heap.size w (w.alloc (.cells #[.slice A n c, .slice B m d] 38)) := (Below.refl _ _).alloc (Nat.le_refl _) _
  have hB0 := Bs.new w 38 (.slice A n c) (.slice B m d)
  cases fa : fmB xs
  · have HV := Lib.hid (show false = frB xs ys by unfold frB; rw [fa]; rfl)
    go_enter Tryz.func58, Tryz.ntmps58
    go_wp2_with fail
    refine (formed_any _ _ _ xs _ (ha.below hb0)).mono ?_
    rintro e w' ⟨rfl, rfl⟩
    go_wp2
    go_ret
    exact ⟨ret_b HV.out, hb0⟩
  cases fb : fmB ys
  · have HV := Lib.hid (show false = frB xs ys by unfold frB; rw [fa, fb]; rfl)
    go_enter Tryz.func58, Tryz.ntmps58
    go_wp2_with fail
    refine (formed_any _ _ _ xs _ (ha.below hb0)).mono ?_
    rintro e w' ⟨rfl, rfl⟩
    go_wp2_with fail
    refine (formed_any _ _ _ ys _ (hb.below hb0)).mono ?_
    rintro e w' ⟨rfl, rfl⟩
    go_wp2
    go_ret
    exact ⟨ret_b HV.out, hb0⟩
  by_cases hm : m = 0
  · subst hm
    have HV := Lib.hid (show false = frB xs ys by
      have : ys = [] := List.length_eq_zero_iff.1 hb.len
      unfold frB; rw [fa, fb, this]; rfl)
    go_enter Tryz.func58, Tryz.ntmps58
    go_wp2_with fail
    refine (formed_any _ _ _ xs _ (ha.below hb0)).mono ?_
    rintro e w' ⟨rfl, rfl⟩
    go_wp2_with fail
    refine (formed_any _ _ _ ys _ (hb.below hb0)).mono ?_
    rintro e w' ⟨rfl, rfl⟩
    go_wp2_with fail
    refine (isZero_yes _ _ _).mono ?_
    rintro e w' ⟨rfl, rfl⟩
    go_wp2
    go_ret
    exact ⟨ret_b HV.out, hb0⟩
  obtain ⟨G, hG⟩ : ∃ G, Nat.gcd (val xs) (val ys) = G := ⟨_, rfl⟩
  have HV := Lib.hid (show (G == 1) = frB xs ys by
    have : ys.isEmpty = false := by
      cases e : ys with
      | nil => rw [e] at hb; exact absurd hb.len.symm hm
      | cons x xs => rfl
    unfold frB; rw [fa, fb, this, hG]; rfl)
  have hgc := fun W (h1 : Rd W A n c xs) (h2 : Rd W B m d ys) => gcd_yes A B n c m d xs ys W h1 h2 fa fb
  rw [hG] at hgc
  have HGC := Lib.hid hgc
  clear hgc hG
  by_cases hg1 : G = 1
  · subst hg1
    go_enter Tryz.func58, Tryz.ntmps58
    go_wp2_with fail
    refine (formed_any _ _ _ xs _ (ha.below hb0)).mono ?_
    rintro e w' ⟨rfl, rfl⟩
    go_wp2_with fail
    refine (formed_any _ _ _ ys _ (hb.below hb0)).mono ?_
    rintro e w' ⟨rfl, rfl⟩
    go_wp2_with fail
    refine (isZero_no _ _ _ _ hm).mono ?_
    rintro e w' ⟨rfl, rfl⟩
    go_wp2_with fail
    refine (HGC.out _ (ha.below hb0) (hb.below hb0)).mono ?_
    rintro e w1 ⟨A1, n1, c1, rfl, hN1, hb1⟩
    have hb01 := Lib.hid (hb0.trans (hb1.mono hb0.size))
    go_wp2_with fail
    refine (isOne_yes _ _ _ _ hN1.1).mono ?_
    rintro e w' ⟨rfl, rfl⟩
    go_wp2
    go_ret
    exact ⟨ret_b HV.out, hb01.out⟩
  · have hf : (G == 1) = false := by simpa using hg1
    rw [hf] at HV
    go_enter Tryz.func58, Tryz.ntmps58
    go_wp2_with fail
    refine (formed_any _ _ _ xs _ (ha.below hb0)).mono ?_
    rintro e w' ⟨rfl, rfl⟩
    go_wp2_with fail
    refine (formed_any _ _ _ ys _ (hb.below hb0)).mono ?_
    rintro e w' ⟨rfl, rfl⟩
    go_wp2_with fail
    refine (isZero_no _ _ _ _ hm).mono ?_
    rintro e w' ⟨rfl, rfl⟩
    go_wp2_with fail
    refine (HGC.out _ (ha.below hb0) (hb.below hb0)).mono ?_
    rintro e w1 ⟨A1, n1, c1, rfl, hN1, hb1⟩
    have hb01 := Lib.hid (hb0.trans (hb1.mono hb0.size))
    go_wp2_with fail
    refine (isOne_no _ _ _ G _ hN1.1 hg1).mono ?_
    rintro e w' ⟨rfl, rfl⟩
    go_wp2
    go_ret
    exact ⟨ret_b HV.out, hb01.out⟩

/-- What Make gives: the numerator, the denominator and the error number. -/
def mkR (xs ys : List Nat) : List Nat × List Nat × Int :=
  if fmB xs && fmB ys then (if ys.isEmpty then ([], [], 5) else (digs (val xs / Nat.gcd (val xs) (val ys)), digs (val ys / Nat.gcd (val xs) (val ys)), 0)) else ([], [], 1)
theorem Below.bs {w W : World} {g : Nat} (hb : Below w.heap.size w W) (hg : w.heap.size ≤ g) {u v : Value} : Below w.heap.size w (put2 W g u v) := put2_below hb hg
theorem outR2_nil {w w3 : World} {g : Nat} (k : Int) (hb : Below w.heap.size w w3) (hg : w.heap.size ≤ g) : OutR2 w [] [] k (.returned (.tuple #[.agg #[.slice none 0 0, .slice none 0 0], .int .i64 k])) (put2 w3 g (.slice none 0 0) (.slice none 0 0)) :=
  ⟨_, _, _, _, _, _, rfl, Nw.nil _ _, Nw.nil _ _, put2_below hb hg⟩

set_option maxHeartbeats 800000 in
/-- ratio.Make. -/
theorem make_any (A B : Option Addr) (n c m d : Nat) (xs ys : List Nat) (w : World) (ha : Rd w A n c xs) (hb : Rd w B m d ys) :
    Calls Tryz.prog 46 #[.slice A n c, .slice B m d] w (OutR2 w (mkR xs ys).1 (mkR xs ys).2.1 (mkR xs ys).2.2) := by
  have hb0 : Below w.heap.size w (w.alloc (.cells #[.slice none 0 0, .slice none 0 0] 38)) := (Below.refl _ _).alloc (Nat.le_refl _) _
  have hB0 := Bs.new w 38 (.slice none 0 0) (.slice none 0 0)
  cases fa : fmB xs
  · have e : mkR xs ys = ([], [], 1) := by unfold mkR; rw [fa]; rfl
    rw [e]
    clear e
    go_enter Tryz.func46, Tryz.ntmps46
    go_wp2_with fail
    generalize w.alloc (Obj.cells #[Value.slice none 0 0, Value.slice none 0 0] 38) = W0 at *
    refine (formed_any _ _ _ xs _ (ha.below hb0)).mono ?_
    rintro e w' ⟨rfl, rfl⟩
    obtain ⟨k0, k1⟩ := hB0.cells
    have f0 := hB0.frozen 0
    have f1 := hB0.frozen 1
    have HF := Lib.hid (outR2_nil 1 hb0 (Nat.le_refl _))
    go_wp2
    refine bodyPost_ret (v := .tuple #[.agg #[.slice none 0 0, .slice none 0 0], .int .i64 1]) (by simp [results, Tryz.results46, go_sem, k0, k1]) rfl ?_
    exact HF.out
  cases fb : fmB ys
  · have e : mkR xs ys = ([], [], 1) := by unfold mkR; rw [fa, fb]; rfl
    rw [e]
    clear e
    go_enter Tryz.func46, Tryz.ntmps46
    go_wp2_with fail
    generalize w.alloc (Obj.cells #[Value.slice none 0 0, Value.slice none 0 0] 38) = W0 at *
    refine (formed_any _ _ _ xs _ (ha.below hb0)).mono ?_
    rintro e w' ⟨rfl, rfl⟩
    go_wp2_with fail
    refine (formed_any _ _ _ ys _ (hb.below hb0)).mono ?_
    rintro e w' ⟨rfl, rfl⟩
    obtain ⟨k0, k1⟩ := hB0.cells
    have f0 := hB0.frozen 0
    have f1 := hB0.frozen 1
    have HF := Lib.hid (outR2_nil 1 hb0 (Nat.le_refl _))
    go_wp2
    refine bodyPost_ret (v := .tuple #[.agg #[.slice none 0 0, .slice none 0 0], .int .i64 1]) (by simp [results, Tryz.results46, go_sem, k0, k1]) rfl ?_
    exact HF.out
  by_cases hm : m = 0
  · subst hm
    have hy : ys = [] := List.length_eq_zero_iff.1 hb.len
    have e : mkR xs ys = ([], [], 5) := by unfold mkR; rw [fa, fb, hy]; rfl
    rw [e]
    clear e
    go_enter Tryz.func46, Tryz.ntmps46
    go_wp2_with fail
    generalize w.alloc (Obj.cells #[Value.slice none 0 0, Value.slice none 0 0] 38) = W0 at *
    refine (formed_any _ _ _ xs _ (ha.below hb0)).mono ?_
    rintro e w' ⟨rfl, rfl⟩
    go_wp2_with fail
    refine (formed_any _ _ _ ys _ (hb.below hb0)).mono ?_
    rintro e w' ⟨rfl, rfl⟩
    go_wp2_with fail
    refine (isZero_yes _ _ _).mono ?_
    rintro e w' ⟨rfl, rfl⟩
    obtain ⟨k0, k1⟩ := hB0.cells
    have f0 := hB0.frozen 0
    have f1 := hB0.frozen 1
    have HF := Lib.hid (outR2_nil 5 hb0 (Nat.le_refl _))
    go_wp2
    refine bodyPost_ret (v := .tuple #[.agg #[.slice none 0 0, .slice none 0 0], .int .i64 5]) (by simp [results, Tryz.results46, go_sem, k0, k1]) rfl ?_
    exact HF.out
  obtain ⟨p, rfl, lp⟩ := digs_of ha.lim fa
  obtain ⟨q, rfl, lq⟩ := digs_of hb.lim fb
  have hq : q ≠ 0 := by
    rintro rfl
    have := hb.len
    rw [digs_zero] at this
    exact hm this.symm
  have e : mkR (digs p) (digs q) = (digs (p / Nat.gcd p q), digs (q / Nat.gcd p q), 0) := by
    have : (digs q).isEmpty = false := by
      cases e : digs q with
      | nil => exact absurd e (digs_ne hq)
      | cons x xs => rfl
    unfold mkR; rw [fa, fb, this, val_digs, val_digs]; rfl
  rw [e]
  clear e
  go_enter Tryz.func46, Tryz.ntmps46
  go_wp2_with fail
  generalize w.alloc (Obj.cells #[Value.slice none 0 0, Value.slice none 0 0] 38) = W0 at *
  refine (formed_any _ _ _ (digs p) _ (ha.below hb0)).mono ?_
  rintro e w' ⟨rfl, rfl⟩
  go_wp2_with fail
  refine (formed_any _ _ _ (digs q) _ (hb.below hb0)).mono ?_
  rintro e w' ⟨rfl, rfl⟩
  go_wp2_with fail
  refine (isZero_no _ _ _ _ hm).mono ?_
  rintro e w' ⟨rfl, rfl⟩
  go_wp2_with fail
  refine (reduced_any _ _ _ _ _ _ p q _ (ha.below hb0) (hb.below hb0) lp lq hq).mono ?_
  rintro e w1 ⟨A1, n1, c1, B1, m1, d1, rfl, hN1, hM1, hb1⟩
  have hB1 := hB0.below hb1 hB0.lt
  have hlt := hB0.lt
  have hb01 := hb0.trans (hb1.mono hb0.size)
  obtain ⟨k0, k1⟩ := hB1.cells
  have f0 := hB1.frozen 0
  have f1 := hB1.frozen 1
  have HF := Lib.hid (outR2_end 0 (g := w.heap.size) hN1 hM1 hb01 (Nat.le_refl _) hlt)
  go_wp2
  refine bodyPost_ret (v := .tuple #[.agg #[.slice A1 n1 c1, .slice B1 m1 d1], .int .i64 0]) (by simp [results, Tryz.results46, go_sem, k0, k1]) rfl ?_
  exact HF.out
end Go.Proofs.YtehekjlakegkpaaGreat
end
