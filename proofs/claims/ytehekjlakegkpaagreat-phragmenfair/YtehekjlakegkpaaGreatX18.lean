/-
  Fractions in memory, as rational numbers: what ratio.Of, Cmp, Add, Sub, Mul, Div answer for fractions that are far from too long; phragmen.number, plus, minus, times, over.
  graph.Supported: the candidates that a voter approves; Seats and Total. For every snapshot that can be read.
  graph.Seats and graph.Total, the reference's Small, and that the law is awake. For every snapshot that can be read.
  The walk of the law GraphSupported: it returns true, whatever the snapshot, and writes nothing that was there.
-/
import Derived.Test.YtehekjlakegkpaaGreatX05
import Derived.Test.YtehekjlakegkpaaGreatX17
import Derived.Test.YtehekjlakegkpaaGreatX04
import Derived.Deep.LoopGhost
section
namespace Go.Proofs.YtehekjlakegkpaaGreat
open Go.RowKit
set_option linter.unusedVariables false

/-- Where a fraction lies. -/
structure Fp where
  A : Option Addr
  n : Nat
  c : Nat
  B : Option Addr
  m : Nat
  d : Nat
def Fp.val (f : Fp) : Value := .agg #[.slice f.A f.n f.c, .slice f.B f.m f.d]
/-- It reads as this number. -/
def RX (w : World) (f : Fp) (x : Rat) : Prop := Rd w f.A f.n f.c (digs x.num.toNat) ∧ Rd w f.B f.m f.d (digs x.den)
theorem RX.below {B : Nat} {w w' : World} {f : Fp} {x : Rat} (h : RX w f x) (hb : Below B w w') (hB : w.heap.size ≤ B) : RX w' f x := ⟨h.1.below (hb.mono hB), h.2.below (hb.mono hB)⟩
/-- It reads as this number, in blocks from lo on. -/
def NX (w : World) (lo : Nat) (f : Fp) (x : Rat) : Prop := Nw w lo f.A f.n f.c (digs x.num.toNat) ∧ Nw w lo f.B f.m f.d (digs x.den)
theorem NX.rx {w : World} {lo : Nat} {f : Fp} {x : Rat} (h : NX w lo f x) : RX w f x := ⟨h.1.1, h.2.1⟩
theorem NX.mono {w : World} {lo lo' : Nat} {f : Fp} {x : Rat} (h : NX w lo f x) (hl : lo' ≤ lo) : NX w lo' f x := ⟨h.1.mono hl, h.2.mono hl⟩
theorem NX.below {w w' : World} {lo : Nat} {f : Fp} {x : Rat} (h : NX w lo f x) (hb : Below w.heap.size w w') : NX w' lo f x := ⟨h.1.below hb, h.2.below hb⟩
/-- A fraction is answered, and what was there is as it was. -/
def OutX (w : World) (x : Rat) : Ending → World → Prop := fun e w' => ∃ f : Fp, e = .returned f.val ∧ NX w' w.heap.size f x ∧ Below w.heap.size w w'
/-- A fraction and no error. -/
def OutX2 (w : World) (x : Rat) : Ending → World → Prop := fun e w' => ∃ f : Fp, e = .returned (.tuple #[f.val, .int .i64 0]) ∧ NX w' w.heap.size f x ∧ Below w.heap.size w w'

/-! Lowest terms. -/
theorem ratN (N D : Nat) (hD : D ≠ 0) (z : Rat) (h : z * (D : Rat) = (N : Rat)) : z.num.toNat = N / Nat.gcd N D ∧ z.den = D / Nat.gcd N D := by
  have hD' : (D : Rat) ≠ 0 := by exact_mod_cast hD
  have e : z = mkRat (N : Int) D := by
    rw [Rat.mkRat_eq_div]
    show z = (N : Rat) / (D : Rat)
    rw [← h, Rat.div_def]
    have := Rat.mul_inv_cancel (D : Rat) hD'
    grind
  subst e
  rw [Rat.num_mkRat, Rat.den_mkRat, if_neg hD, if_neg hD]
  refine ⟨?_, by rw [Int.natAbs_natCast, Nat.gcd_comm]⟩
  rw [Int.natAbs_natCast, Nat.gcd_comm]
  exact Int.toNat_natCast _
theorem Sm.fr {x : Rat} (h : Sm x) : Fr x.num.toNat x.den := by
  have h1 := len_digs_lt h.2.1
  have h2 := len_digs_lt h.2.2
  refine ⟨by omega, by omega, x.den_nz, ?_⟩
  have := x.reduced
  unfold Nat.Coprime at this
  rw [← this]
  congr 1
  have h0 := Rat.num_nonneg.2 h.1
  omega
theorem len_prod {a b : Nat} (ha : a < pw 32) (hb : b < pw 32) : (digs (a * b)).length ≤ 400 := by
  have : a * b < pw 64 := by
    rw [show 64 = 32 + 32 from rfl, pw_add]
    exact Nat.mul_lt_mul_of_lt_of_le ha (Nat.le_of_lt hb) (pw_pos 32)
  have := len_digs_lt this
  omega
theorem len_sum {a b c d : Nat} (ha : a < pw 32) (hb : b < pw 32) (hc : c < pw 32) (hd : d < pw 32) : (digs (a * b + c * d)).length ≤ 400 := by
  have h1 : a * b < pw 64 := by
    rw [show 64 = 32 + 32 from rfl, pw_add]
    exact Nat.mul_lt_mul_of_lt_of_le ha (Nat.le_of_lt hb) (pw_pos 32)
  have h2 : c * d < pw 64 := by
    rw [show 64 = 32 + 32 from rfl, pw_add]
    exact Nat.mul_lt_mul_of_lt_of_le hc (Nat.le_of_lt hd) (pw_pos 32)
  have h3 : pw 65 = 4294967296 * pw 64 := rfl
  have := len_digs_lt (n := a * b + c * d) (k := 65) (by omega)
  omega
section
variable {x y : Rat} {w : World} {f g : Fp}
theorem ratX (hx : 0 ≤ x) : x * (x.den : Rat) = (x.num.toNat : Rat) := by
  rw [ratOf, ← num_nn hx]; rfl
theorem addF_sm (hx : Sm x) (hy : Sm y) : addF x.num.toNat x.den y.num.toNat y.den = (digs (x + y).num.toNat, digs (x + y).den, 0) := by
  have h1 := ratX hx.1
  have h2 := ratX hy.1
  unfold addF
  rw [if_pos ⟨len_prod hx.2.1 hy.2.2, len_prod hy.2.1 hx.2.2, len_prod hx.2.2 hy.2.2⟩, if_pos (len_sum hx.2.1 hy.2.2 hy.2.1 hx.2.2)]
  obtain ⟨e1, e2⟩ := ratN (x.num.toNat * y.den + y.num.toNat * x.den) (x.den * y.den) (Nat.mul_ne_zero x.den_nz y.den_nz) (x + y) (by
    simp only [Rat.natCast_mul, Rat.natCast_add]; rw [← h1, ← h2]; grind)
  rw [e1, e2]
theorem subF_sm (hx : Sm x) (hy : Sm y) (hl : y ≤ x) : subF x.num.toNat x.den y.num.toNat y.den = (digs (x - y).num.toNat, digs (x - y).den, 0) := by
  have h1 := ratX hx.1
  have h2 := ratX hy.1
  have hle : y.num.toNat * x.den ≤ x.num.toNat * y.den := by
    have : ((y.num.toNat * x.den : Nat) : Rat) ≤ ((x.num.toNat * y.den : Nat) : Rat) := by
      simp only [Rat.natCast_mul]; rw [← h1, ← h2]
      have a := Rat.mul_le_mul_of_nonneg_right hl (Rat.mul_nonneg (st_nonneg x.den) (st_nonneg y.den))
      grind
    exact_mod_cast this
  unfold subF
  rw [if_pos ⟨len_prod hx.2.1 hy.2.2, len_prod hy.2.1 hx.2.2, len_prod hx.2.2 hy.2.2⟩, if_neg (by omega)]
  obtain ⟨e1, e2⟩ := ratN (x.num.toNat * y.den - y.num.toNat * x.den) (x.den * y.den) (Nat.mul_ne_zero x.den_nz y.den_nz) (x - y) (by
    have : ((x.num.toNat * y.den - y.num.toNat * x.den : Nat) : Rat) + ((y.num.toNat * x.den : Nat) : Rat) = ((x.num.toNat * y.den : Nat) : Rat) := by rw [← Rat.natCast_add, Nat.sub_add_cancel hle]
    simp only [Rat.natCast_mul] at this ⊢; rw [← h1, ← h2] at this; grind)
  rw [e1, e2]
theorem outX2_of {xs ys : List Nat} {z : Rat} {e : Ending} {w' : World} (h1 : xs = digs z.num.toNat) (h2 : ys = digs z.den) (h : OutR2 w xs ys 0 e w') : OutX2 w z e w' := by
  obtain ⟨A, n, c, B, m, d, rfl, hA, hB, hb⟩ := h
  subst h1; subst h2
  exact ⟨⟨A, n, c, B, m, d⟩, rfl, ⟨hA, hB⟩, hb⟩
theorem xof_any (p : Nat) (w : World) (hp : p < 18446744073709551616) : Calls Tryz.prog 16 #[.int .u64 p, .int .u64 1] w (OutX2 w (p : Rat)) := by
  refine (qof_any p 1 w hp (by omega)).mono fun e w' h => ?_
  rw [mkR_digs (Nat.le_trans (len64 hp) (by omega)) (Nat.le_trans (len64 (p := 1) (by omega)) (by omega)) (by omega)] at h
  refine outX2_of ?_ ?_ h
  · dsimp only; rw [Rat.num_natCast, Nat.gcd_one_right, Nat.div_one]; rfl
  · dsimp only; rw [Rat.den_natCast, Nat.gcd_one_right]
theorem xadd2_any (hf : RX w f x) (hg : RX w g y) (hx : Sm x) (hy : Sm y) : Calls Tryz.prog 17 #[f.val, g.val] w (OutX2 w (x + y)) := by
  refine (radd_any2 _ _ _ _ _ _ _ _ _ _ _ _ _ _ _ _ _ hf.1 hf.2 hg.1 hg.2 hx.fr hy.fr).mono fun e w' h => ?_
  rw [addF_sm hx hy] at h
  exact outX2_of rfl rfl h
theorem xsub2_any (hf : RX w f x) (hg : RX w g y) (hx : Sm x) (hy : Sm y) (hl : y ≤ x) : Calls Tryz.prog 143 #[f.val, g.val] w (OutX2 w (x - y)) := by
  refine (rsub_any2 _ _ _ _ _ _ _ _ _ _ _ _ _ _ _ _ _ hf.1 hf.2 hg.1 hg.2 hx.fr hy.fr).mono fun e w' h => ?_
  rw [subF_sm hx hy hl] at h
  exact outX2_of rfl rfl h
theorem xmul2_any (hf : RX w f x) (hg : RX w g y) (hx : Sm x) (hy : Sm y) : Calls Tryz.prog 26 #[f.val, g.val] w (OutX2 w (x * y)) := by
  have h1 := ratX hx.1
  have h2 := ratX hy.1
  obtain ⟨e1, e2⟩ := ratN (x.num.toNat * y.num.toNat) (x.den * y.den) (Nat.mul_ne_zero x.den_nz y.den_nz) (x * y) (by
    simp only [Rat.natCast_mul]; rw [← h1, ← h2]; grind)
  refine (rmul_yes _ _ _ _ _ _ _ _ _ _ _ _ _ _ _ _ _ hf.1 hf.2 hg.1 hg.2 hx.fr hy.fr (len_prod hx.2.1 hy.2.1) (len_prod hx.2.2 hy.2.2)).mono fun e w' h => ?_
  exact outX2_of (by rw [e1]) (by rw [e2]) h
theorem num_ne {y : Rat} (hp : 0 < y) : y.num.toNat ≠ 0 := by
  intro e
  have h2 := ratX (Rat.le_of_lt hp)
  rw [e] at h2
  rcases Rat.mul_eq_zero.1 (show y * (y.den : Rat) = 0 from h2) with h | h
  · grind
  · exact y.den_nz (by exact_mod_cast h)
theorem xdiv2_any (hf : RX w f x) (hg : RX w g y) (hx : Sm x) (hy : Sm y) (hp : 0 < y) : Calls Tryz.prog 144 #[f.val, g.val] w (OutX2 w (x / y)) := by
  have h1 := ratX hx.1
  have h2 := ratX hy.1
  have hn := num_ne hp
  obtain ⟨e1, e2⟩ := ratN (x.num.toNat * y.den) (x.den * y.num.toNat) (Nat.mul_ne_zero x.den_nz hn) (x / y) (by
    simp only [Rat.natCast_mul]; rw [← h1, ← h2]
    have := Rat.div_mul_cancel (a := x) (b := y) (by grind)
    grind)
  refine (rdiv_yes _ _ _ _ _ _ _ _ _ _ _ _ _ _ _ _ _ hf.1 hf.2 hg.1 hg.2 hx.fr hy.fr hn (len_prod hx.2.1 hy.2.2) (len_prod hx.2.2 hy.2.1)).mono fun e w' h => ?_
  exact outX2_of (by rw [e1]) (by rw [e2]) h
/-- How two fractions are. -/
def cmpX (x y : Rat) : Int := if x < y then -1 else if x = y then 0 else 1
theorem xcmp2_any (hf : RX w f x) (hg : RX w g y) (hx : Sm x) (hy : Sm y) : Calls Tryz.prog 15 #[f.val, g.val] w fun e w' => e = .returned (.int .i64 (cmpX x y)) ∧ Below w.heap.size w w' := by
  have h1 := ratX hx.1
  have h2 := ratX hy.1
  have hp : 0 < (x.den : Rat) * (y.den : Rat) := Rat.mul_pos (by exact_mod_cast x.den_pos) (by exact_mod_cast y.den_pos)
  have el : ((x.num.toNat * y.den : Nat) : Rat) = x * ((x.den : Rat) * (y.den : Rat)) := by rw [Rat.natCast_mul, ← h1]; grind
  have er : ((y.num.toNat * x.den : Nat) : Rat) = y * ((x.den : Rat) * (y.den : Rat)) := by rw [Rat.natCast_mul, ← h2]; grind
  have hlt : x.num.toNat * y.den < y.num.toNat * x.den ↔ x < y := by
    rw [← Rat.natCast_lt_natCast, el, er]
    exact ⟨fun h => Rat.lt_of_mul_lt_mul_right h (Rat.le_of_lt hp), fun h => Rat.mul_lt_mul_of_pos_right h hp⟩
  have heq : x.num.toNat * y.den = y.num.toNat * x.den ↔ x = y := by
    constructor
    · intro h
      have := congrArg (fun n : Nat => (n : Rat)) h
      rw [el, er] at this
      have a : x ≤ y := Rat.le_of_mul_le_mul_right (by rw [this]; exact Rat.le_refl) hp
      have b : y ≤ x := Rat.le_of_mul_le_mul_right (by rw [this]; exact Rat.le_refl) hp
      grind
    · intro h; rw [h]
  have e : cmpX x y = cmpN (x.num.toNat * y.den) (y.num.toNat * x.den) := by
    unfold cmpX cmpN
    by_cases a : x < y
    · rw [if_pos a, if_pos (hlt.2 a)]
    · rw [if_neg a, if_neg (fun h => a (hlt.1 h))]
      by_cases b : x = y
      · rw [if_pos b, if_pos (heq.2 b)]
      · rw [if_neg b, if_neg (fun h => b (heq.1 h))]
  rw [e]
  exact rcmp_yes2 _ _ _ _ _ _ _ _ _ _ _ _ _ _ _ _ _ hf.1 hf.2 hg.1 hg.2 hx.fr hy.fr (len_prod hx.2.1 hy.2.2) (len_prod hy.2.1 hx.2.2)
end

/-! phragmen.number, plus, minus, times, over. -/
theorem outX_end {w w3 : World} {g lo : Nat} {f : Fp} {x : Rat} (hf : NX w3 lo f x) (hb : Below w.heap.size w w3) (hg : w.heap.size ≤ g) (hlo : g < lo) :
    OutX w x (.returned f.val) (put2 w3 g (.slice f.A f.n f.c) (.slice f.B f.m f.d)) :=
  ⟨f, rfl, ⟨(hf.1.put2 hlo).mono (by omega), (hf.2.put2 hlo).mono (by omega)⟩, put2_below hb hg⟩
set_option maxHeartbeats 800000 in
theorem number_any (p : Nat) (w : World) (hp : p < 18446744073709551616) : Calls Tryz.prog 88 #[.int .u64 p] w (OutX w (p : Rat)) := by
  have h1 := fun W => xof_any p W hp
  have H1 := Lib.hid h1
  clear h1
  have hb0 : Below w.heap.size w (w.alloc (.cells #[.slice none 0 0, .slice none 0 0] 38)) := (Below.refl _ _).alloc (Nat.le_refl _) _
  have hB0 := Bs.new w 38 (.slice none 0 0) (.slice none 0 0)
  go_enter Tryz.func88, Tryz.ntmps88
  go_wp2_with fail
  generalize w.alloc (Obj.cells #[Value.slice none 0 0, Value.slice none 0 0] 38) = W0 at *
  refine (H1.out _).mono ?_
  rintro e w1 ⟨f, rfl, hf, hb1⟩
  have hb01 := hb0.trans (hb1.mono hb0.size)
  have hlt := hB0.lt
  have hsz := hb01.size
  have hB1 := hB0.below hb1 hB0.lt
  have hB2 := hB1.alloc (.cells #[.slice f.A f.n f.c, .slice f.B f.m f.d] 38)
  have hf2 := hf.below ((Below.refl _ w1).alloc (Nat.le_refl _) (.cells #[.slice f.A f.n f.c, .slice f.B f.m f.d] 38))
  have hb2 := hb01.alloc (by omega) (.cells #[.slice f.A f.n f.c, .slice f.B f.m f.d] 38)
  obtain ⟨k0, k1⟩ := hB2.cells
  have f0 := hB2.frozen 0
  have f1 := hB2.frozen 1
  have HF := Lib.hid (outX_end (g := w.heap.size) hf2 hb2 (Nat.le_refl _) hlt)
  clear hB0 hB1 hB2 hf hf2 hb0 hb1 hb01 hb2 H1
  obtain ⟨A, n, c, B, m, d⟩ := f
  unfold Fp.val at HF ⊢
  dsimp only at *
  go_wp2
  refine bodyPost_ret (v := .agg #[.slice A n c, .slice B m d]) (by simp [results, Tryz.results88, go_sem, k0, k1]) rfl ?_
  exact HF.out
set_option maxHeartbeats 800000 in
theorem plus_any {x y : Rat} {w : World} {f g : Fp} (hf : RX w f x) (hg : RX w g y) (hx : Sm x) (hy : Sm y) : Calls Tryz.prog 166 #[f.val, g.val] w (OutX w (x + y)) := by
  obtain ⟨A, n, c, B, m, d⟩ := f
  obtain ⟨A', n', c', B', m', d'⟩ := g
  have h1 := fun W g1 g2 => xadd2_any (w := W) (f := ⟨A, n, c, B, m, d⟩) (g := ⟨A', n', c', B', m', d'⟩) g1 g2 hx hy
  have H1 := Lib.hid h1
  clear h1
  unfold Fp.val at H1 ⊢
  dsimp only at H1 ⊢
  obtain ⟨hB1, hB2, hB3, hb0, hs0⟩ := boxes3 w 38 38 38 (.slice A n c) (.slice B m d) (.slice A' n' c') (.slice B' m' d') (.slice none 0 0) (.slice none 0 0)
  go_enter Tryz.func166, Tryz.ntmps166
  go_wp2_with fail
  generalize ((w.alloc (Obj.cells #[Value.slice A n c, Value.slice B m d] 38)).alloc (Obj.cells #[Value.slice A' n' c', Value.slice B' m' d'] 38)).alloc (Obj.cells #[Value.slice none 0 0, Value.slice none 0 0] 38) = W0 at *
  obtain ⟨k0, k1⟩ := hB1.cells
  obtain ⟨k2, k3⟩ := hB2.cells
  go_wp2_with fail
  refine (H1.out _ (hf.below hb0 (Nat.le_refl _)) (hg.below hb0 (Nat.le_refl _))).mono ?_
  rintro e w1 ⟨f, rfl, hf, hb1⟩
  have hb01 := hb0.trans (hb1.mono hb0.size)
  have hlt := hB3.lt
  have hsz := hb01.size
  have hB4 := hB3.below hb1 hB3.lt
  have hB5 := hB4.alloc (.cells #[.slice f.A f.n f.c, .slice f.B f.m f.d] 38)
  have hf2 := hf.below ((Below.refl _ w1).alloc (Nat.le_refl _) (.cells #[.slice f.A f.n f.c, .slice f.B f.m f.d] 38))
  have hb2 := hb01.alloc (by omega) (.cells #[.slice f.A f.n f.c, .slice f.B f.m f.d] 38)
  have HF := Lib.hid (outX_end (g := w.heap.size + 2) hf2 hb2 (by omega) hlt)
  clear k0 k1 k2 k3
  obtain ⟨k0, k1⟩ := hB5.cells
  have f0 := hB5.frozen 0
  have f1 := hB5.frozen 1
  clear hB1 hB2 hB3 hB4 hB5 hf hg hf2 hb0 hb1 hb01 hb2 H1
  obtain ⟨A2, n2, c2, B2, m2, d2⟩ := f
  unfold Fp.val at HF ⊢
  dsimp only at *
  go_wp2
  refine bodyPost_ret (v := .agg #[.slice A2 n2 c2, .slice B2 m2 d2]) (by simp [results, Tryz.results166, go_sem, k0, k1]) rfl ?_
  exact HF.out
set_option maxHeartbeats 800000 in
theorem minus_any {x y : Rat} {w : World} {f g : Fp} (hf : RX w f x) (hg : RX w g y) (hx : Sm x) (hy : Sm y) (hl : y ≤ x) : Calls Tryz.prog 90 #[f.val, g.val] w (OutX w (x - y)) := by
  obtain ⟨A, n, c, B, m, d⟩ := f
  obtain ⟨A', n', c', B', m', d'⟩ := g
  have h1 := fun W g1 g2 => xsub2_any (w := W) (f := ⟨A, n, c, B, m, d⟩) (g := ⟨A', n', c', B', m', d'⟩) g1 g2 hx hy hl
  have H1 := Lib.hid h1
  clear h1
  unfold Fp.val at H1 ⊢
  dsimp only at H1 ⊢
  obtain ⟨hB1, hB2, hB3, hb0, hs0⟩ := boxes3 w 38 38 38 (.slice A n c) (.slice B m d) (.slice A' n' c') (.slice B' m' d') (.slice none 0 0) (.slice none 0 0)
  go_enter Tryz.func90, Tryz.ntmps90
  go_wp2_with fail
  generalize ((w.alloc (Obj.cells #[Value.slice A n c, Value.slice B m d] 38)).alloc (Obj.cells #[Value.slice A' n' c', Value.slice B' m' d'] 38)).alloc (Obj.cells #[Value.slice none 0 0, Value.slice none 0 0] 38) = W0 at *
  obtain ⟨k0, k1⟩ := hB1.cells
  obtain ⟨k2, k3⟩ := hB2.cells
  go_wp2_with fail
  refine (H1.out _ (hf.below hb0 (Nat.le_refl _)) (hg.below hb0 (Nat.le_refl _))).mono ?_
  rintro e w1 ⟨f, rfl, hf, hb1⟩
  have hb01 := hb0.trans (hb1.mono hb0.size)
  have hlt := hB3.lt
  have hsz := hb01.size
  have hB4 := hB3.below hb1 hB3.lt
  have hB5 := hB4.alloc (.cells #[.slice f.A f.n f.c, .slice f.B f.m f.d] 38)
  have hf2 := hf.below ((Below.refl _ w1).alloc (Nat.le_refl _) (.cells #[.slice f.A f.n f.c, .slice f.B f.m f.d] 38))
  have hb2 := hb01.alloc (by omega) (.cells #[.slice f.A f.n f.c, .slice f.B f.m f.d] 38)
  have HF := Lib.hid (outX_end (g := w.heap.size + 2) hf2 hb2 (by omega) hlt)
  clear k0 k1 k2 k3
  obtain ⟨k0, k1⟩ := hB5.cells
  have f0 := hB5.frozen 0
  have f1 := hB5.frozen 1
  clear hB1 hB2 hB3 hB4 hB5 hf hg hf2 hb0 hb1 hb01 hb2 H1
  obtain ⟨A2, n2, c2, B2, m2, d2⟩ := f
  unfold Fp.val at HF ⊢
  dsimp only at *
  go_wp2
  refine bodyPost_ret (v := .agg #[.slice A2 n2 c2, .slice B2 m2 d2]) (by simp [results, Tryz.results90, go_sem, k0, k1]) rfl ?_
  exact HF.out
set_option maxHeartbeats 800000 in
theorem times_any {x y : Rat} {w : World} {f g : Fp} (hf : RX w f x) (hg : RX w g y) (hx : Sm x) (hy : Sm y) : Calls Tryz.prog 92 #[f.val, g.val] w (OutX w (x * y)) := by
  obtain ⟨A, n, c, B, m, d⟩ := f
  obtain ⟨A', n', c', B', m', d'⟩ := g
  have h1 := fun W g1 g2 => xmul2_any (w := W) (f := ⟨A, n, c, B, m, d⟩) (g := ⟨A', n', c', B', m', d'⟩) g1 g2 hx hy
  have H1 := Lib.hid h1
  clear h1
  unfold Fp.val at H1 ⊢
  dsimp only at H1 ⊢
  obtain ⟨hB1, hB2, hB3, hb0, hs0⟩ := boxes3 w 38 38 38 (.slice A n c) (.slice B m d) (.slice A' n' c') (.slice B' m' d') (.slice none 0 0) (.slice none 0 0)
  go_enter Tryz.func92, Tryz.ntmps92
  go_wp2_with fail
  generalize ((w.alloc (Obj.cells #[Value.slice A n c, Value.slice B m d] 38)).alloc (Obj.cells #[Value.slice A' n' c', Value.slice B' m' d'] 38)).alloc (Obj.cells #[Value.slice none 0 0, Value.slice none 0 0] 38) = W0 at *
  obtain ⟨k0, k1⟩ := hB1.cells
  obtain ⟨k2, k3⟩ := hB2.cells
  go_wp2_with fail
  refine (H1.out _ (hf.below hb0 (Nat.le_refl _)) (hg.below hb0 (Nat.le_refl _))).mono ?_
  rintro e w1 ⟨f, rfl, hf, hb1⟩
  have hb01 := hb0.trans (hb1.mono hb0.size)
  have hlt := hB3.lt
  have hsz := hb01.size
  have hB4 := hB3.below hb1 hB3.lt
  have hB5 := hB4.alloc (.cells #[.slice f.A f.n f.c, .slice f.B f.m f.d] 38)
  have hf2 := hf.below ((Below.refl _ w1).alloc (Nat.le_refl _) (.cells #[.slice f.A f.n f.c, .slice f.B f.m f.d] 38))
  have hb2 := hb01.alloc (by omega) (.cells #[.slice f.A f.n f.c, .slice f.B f.m f.d] 38)
  have HF := Lib.hid (outX_end (g := w.heap.size + 2) hf2 hb2 (by omega) hlt)
  clear k0 k1 k2 k3
  obtain ⟨k0, k1⟩ := hB5.cells
  have f0 := hB5.frozen 0
  have f1 := hB5.frozen 1
  clear hB1 hB2 hB3 hB4 hB5 hf hg hf2 hb0 hb1 hb01 hb2 H1
  obtain ⟨A2, n2, c2, B2, m2, d2⟩ := f
  unfold Fp.val at HF ⊢
  dsimp only at *
  go_wp2
  refine bodyPost_ret (v := .agg #[.slice A2 n2 c2, .slice B2 m2 d2]) (by simp [results, Tryz.results92, go_sem, k0, k1]) rfl ?_
  exact HF.out
set_option maxHeartbeats 800000 in
theorem over_any {x y : Rat} {w : World} {f g : Fp} (hf : RX w f x) (hg : RX w g y) (hx : Sm x) (hy : Sm y) (hp : 0 < y) : Calls Tryz.prog 91 #[f.val, g.val] w (OutX w (x / y)) := by
  obtain ⟨A, n, c, B, m, d⟩ := f
  obtain ⟨A', n', c', B', m', d'⟩ := g
  have h1 := fun W g1 g2 => xdiv2_any (w := W) (f := ⟨A, n, c, B, m, d⟩) (g := ⟨A', n', c', B', m', d'⟩) g1 g2 hx hy hp
  have H1 := Lib.hid h1
  clear h1
  unfold Fp.val at H1 ⊢
  dsimp only at H1 ⊢
  obtain ⟨hB1, hB2, hB3, hb0, hs0⟩ := boxes3 w 38 38 38 (.slice A n c) (.slice B m d) (.slice A' n' c') (.slice B' m' d') (.slice none 0 0) (.slice none 0 0)
  go_enter Tryz.func91, Tryz.ntmps91
  go_wp2_with fail
  generalize ((w.alloc (Obj.cells #[Value.slice A n c, Value.slice B m d] 38)).alloc (Obj.cells #[Value.slice A' n' c', Value.slice B' m' d'] 38)).alloc (Obj.cells #[Value.slice none 0 0, Value.slice none 0 0] 38) = W0 at *
  obtain ⟨k0, k1⟩ := hB1.cells
  obtain ⟨k2, k3⟩ := hB2.cells
  go_wp2_with fail
  refine (H1.out _ (hf.below hb0 (Nat.le_refl _)) (hg.below hb0 (Nat.le_refl _))).mono ?_
  rintro e w1 ⟨f, rfl, hf, hb1⟩
  have hb01 := hb0.trans (hb1.mono hb0.size)
  have hlt := hB3.lt
  have hsz := hb01.size
  have hB4 := hB3.below hb1 hB3.lt
  have hB5 := hB4.alloc (.cells #[.slice f.A f.n f.c, .slice f.B f.m f.d] 38)
  have hf2 := hf.below ((Below.refl _ w1).alloc (Nat.le_refl _) (.cells #[.slice f.A f.n f.c, .slice f.B f.m f.d] 38))
  have hb2 := hb01.alloc (by omega) (.cells #[.slice f.A f.n f.c, .slice f.B f.m f.d] 38)
  have HF := Lib.hid (outX_end (g := w.heap.size + 2) hf2 hb2 (by omega) hlt)
  clear k0 k1 k2 k3
  obtain ⟨k0, k1⟩ := hB5.cells
  have f0 := hB5.frozen 0
  have f1 := hB5.frozen 1
  clear hB1 hB2 hB3 hB4 hB5 hf hg hf2 hb0 hb1 hb01 hb2 H1
  obtain ⟨A2, n2, c2, B2, m2, d2⟩ := f
  unfold Fp.val at HF ⊢
  dsimp only at *
  go_wp2
  refine bodyPost_ret (v := .agg #[.slice A2 n2 c2, .slice B2 m2 d2]) (by simp [results, Tryz.results91, go_sem, k0, k1]) rfl ?_
  exact HF.out
end Go.Proofs.YtehekjlakegkpaaGreat
end
section
namespace Go.Proofs.YtehekjlakegkpaaGreat
open Go.RowKit
set_option linter.unusedVariables false

theorem supf_any (b : Nat) (v : Vr) (x : Int) (w : World) (h : Ri w v.a v.n v.c v.ps) (hup : Asc 8 v.ps) (hx : w.cell? ⟨b, 0, none⟩ = some (.int .i64 x)) (hb : b < w.heap.size) :
    Calls Tryz.prog 140 #[v.val, .pointer (some ⟨b, 0, none⟩)] w (OutF w (apv v x)) := by
  have hb1 : Below w.heap.size w (w.alloc (.cells #[.int .i64 v.id, .int .u64 (v.st : Int), .slice v.a v.n v.c] 43)) := (Below.refl _ _).alloc (Nat.le_refl _) _
  have hB := backs_any v 8 x _ (h.below hb1 (Nat.le_refl _)) hup (h.small hup (by omega))
  have hx1 := (hb1.cell (p := ⟨b, 0, none⟩) hb).trans hx
  rw [show decide (0 < v.st ∧ x ∈ v.ps) = apv v x from rfl] at hB
  generalize apv v x = r at *
  obtain ⟨vi, vst, va, vn, vc, vp⟩ := v
  unfold Vr.val at hB ⊢
  dsimp only at hB hb1 hx1 ⊢
  have HB1 := Lib.hid hb1
  clear hb1 h hx
  go_enter Tryz.func140, Tryz.ntmps140
  go_wp2_with fail
  refine hB.mono ?_
  rintro e w2 ⟨rfl, hb2⟩
  go_wp2
  go_ret
  exact ⟨rfl, HB1.out.trans (hb2.mono HB1.out.size)⟩

/-- A place is answered, not negative just if there is one. -/
def OutIb (w : World) (b : Bool) : Ending → World → Prop := fun e w' => (∃ i : Int, e = .returned (.int .i64 i) ∧ decide (0 ≤ i) = b) ∧ Below w.heap.size w w'
set_option maxHeartbeats 1600000 in
theorem ixf_any (A : Option Addr) (n c b : Nat) (vs : List Vr) (x : Int) (w : World) (h : Rv w A n c vs) (hup : ∀ v ∈ vs, Asc 8 v.ps) (hx : w.cell? ⟨b, 0, none⟩ = some (.int .i64 x)) (hb : b < w.heap.size) :
    Calls Tryz.prog 167 #[.slice A n c, .func (.func 140) #[] #[.pointer (some ⟨b, 0, none⟩)]] w (OutIb w (vs.any fun v => apv v x)) := by
  have HV := Lib.hid h
  have HL := Lib.hid h.len
  have HU := Lib.hid hup
  have hcap := h.cap
  have hmax := h.max
  obtain ⟨r, hr⟩ : ∃ r, (vs.any fun v => apv v x) = r := ⟨_, rfl⟩
  rw [hr]
  have HRR := Lib.hid hr
  have HX := Lib.hid hx
  clear h hup hr hx
  go_enter Tryz.func167, Tryz.ntmps167
  go_wp2_with fail
  go_loopw [8] (fun tv wr => ∃ (k : Nat), k ≤ n ∧ tv = .int .i64 (k : Int) ∧ (∀ v ∈ vs.take k, apv v x = false) ∧ Below w.heap.size w wr) (fun tv _ => n - (intOf tv).toNat)
  case atStart => exact ⟨0, by omega, rfl, fun v hv => by simp at hv, Below.refl _ _⟩
  case round =>
    obtain ⟨k, hk, rfl, hno, hbw⟩ := hrel
    have HN := Lib.hid hno
    have HB := Lib.hid hbw
    clear hno
    by_cases hlt : k < n
    · obtain ⟨b', o, v, rfl, hbb, hve, ok, ri, c0, c1, c2⟩ := HV.out.at_ hlt
      have d0 := (hbw.cell (p := ⟨b', o + k * 3, none⟩) hbb).trans c0
      have d1 := (hbw.cell (p := ⟨b', o + k * 3 + 1, none⟩) hbb).trans c1
      have d2 := (hbw.cell (p := ⟨b', o + k * 3 + 2, none⟩) hbb).trans c2
      have hF := supf_any b v x wr (ri.below hbw (Nat.le_refl _)) (HU.out v (List.mem_of_getElem? hve)) ((hbw.cell (p := ⟨b, 0, none⟩) hb).trans HX.out) (Nat.lt_of_lt_of_le hb hbw.size)
      have HS := Lib.hid hve
      have HA := Lib.hid (show apv v x = apv v x from rfl)
      clear c0 c1 c2 hve ok ri hbw
      unfold Vr.val at hF
      obtain ⟨q, hq⟩ : ∃ q, apv v x = q := ⟨_, rfl⟩
      rw [hq] at hF
      have HQ := Lib.hid hq
      clear hq HA
      cases q with
      | false =>
        go_wp2_with fail
        refine hF.mono ?_
        rintro e w2 ⟨rfl, hb2⟩
        go_wp2
        go_roundw
        case rel => exact ⟨k + 1, by omega, by go_num, fun u hu => by
          rw [List.take_add_one, HS.out] at hu
          rcases List.mem_append.1 hu with hu | hu
          · exact HN.out u hu
          · simp at hu; subst hu; exact HQ.out, HB.out.trans (hb2.mono HB.out.size)⟩
        case measure => simp [intOf]; omega
      | true =>
        have hT : (vs.any fun v => apv v x) = true := List.any_eq_true.2 ⟨v, List.mem_of_getElem? HS.out, HQ.out⟩
        have HT := Lib.hid hT
        clear hT
        go_wp2_with fail
        refine hF.mono ?_
        rintro e w2 ⟨rfl, hb2⟩
        go_wp2
        go_ret
        exact ⟨⟨_, rfl, by rw [← HRR.out, HT.out]; simp⟩, HB.out.trans (hb2.mono HB.out.size)⟩
    · have hT : (vs.any fun v => apv v x) = false := by
        rw [List.any_eq_false]
        intro v hv
        rw [HN.out v (by rw [List.take_of_length_le (by rw [HL.out]; omega)]; exact hv)]
        simp
      have HT := Lib.hid hT
      clear hT
      go_wp2
      go_ret
      exact ⟨⟨_, rfl, by rw [← HRR.out, HT.out]; simp⟩, HB.out⟩
theorem conf_any (A : Option Addr) (n c b : Nat) (vs : List Vr) (x : Int) (w : World) (h : Rv w A n c vs) (hup : ∀ v ∈ vs, Asc 8 v.ps) (hx : w.cell? ⟨b, 0, none⟩ = some (.int .i64 x)) (hb : b < w.heap.size) :
    Calls Tryz.prog 139 #[.slice A n c, .func (.func 140) #[] #[.pointer (some ⟨b, 0, none⟩)]] w (OutF w (vs.any fun v => apv v x)) := by
  have hI := ixf_any A n c b vs x w h hup hx hb
  generalize (vs.any fun v => apv v x) = r at *
  clear h hx
  go_enter Tryz.func139, Tryz.ntmps139
  go_wp2_with fail
  refine hI.mono ?_
  rintro e w1 ⟨⟨i, rfl, hi⟩, hb1⟩
  have HI := Lib.hid hi
  clear hi
  go_wp2
  go_ret
  exact ⟨by rw [← HI.out]; rfl, hb1⟩

theorem Owk.low {k : IntKind} {T : TypeId} {w : World} {base lo n c : Nat} {A : Option Addr} {xs : List Nat} (h : Owk k T w base A n c xs) (hl : lo ≤ base) : Owk k T w lo A n c xs :=
  ⟨h.1, by
    rcases h.2 with h0 | ⟨g, cap, cur, hv, hbg, hr⟩
    · exact .inl h0
    · exact .inr ⟨g, cap, cur, hv, Nat.le_trans hl hbg, hr⟩⟩
/-- The candidates that a voter approves. -/
def supN (vs : List Vr) (cs : List Int) : List Nat := (cs.filter fun x => vs.any fun v => apv v x).map Int.toNat
theorem supN_append (vs : List Vr) (cs ds : List Int) : supN vs (cs ++ ds) = supN vs cs ++ supN vs ds := by simp [supN]
theorem supN_one (vs : List Vr) (x : Int) : supN vs [x] = if (vs.any fun v => apv v x) = true then [x.toNat] else [] := by
  unfold supN
  by_cases h : (vs.any fun v => apv v x) = true
  · rw [if_pos h]; simp [h]
  · rw [if_neg h]; simp [h]
theorem supN_len (vs : List Vr) (cs : List Int) : (supN vs cs).length ≤ cs.length := by
  unfold supN; rw [List.length_map]; exact List.length_filter_le _ _
def supM (vs : List Vr) (cs : List Int) : List Nat := if Fd vs cs then supN vs cs else []
theorem supM_bl (vs : List Vr) (cs : List Int) : Bl 9223372036854775808 (supM vs cs) := by
  unfold supM
  split
  · rename_i h
    intro y hy
    obtain ⟨x, hx, rfl⟩ := List.mem_map.1 hy
    obtain ⟨j, hj, rfl⟩ := mem_zl.1 (List.mem_filter.1 hx).1
    have := h.2.1.le j hj
    omega
  · exact Bl_nil _
theorem supM_len (vs : List Vr) (cs : List Int) : (supM vs cs).length ≤ 32 := by
  unfold supM
  split
  · rename_i h
    have := supN_len vs cs
    have := h.2.1.1
    omega
  · simp

set_option maxHeartbeats 3200000 in
theorem supported_any (s : Sn) (w : World) (h : s.In w) : Calls Tryz.prog 87 #[s.val] w (OutN_ w (supM s.vs s.cs)) := by
  obtain ⟨A, n, c, B, m, d, vs, cs⟩ := s
  have hb1 : Below w.heap.size w (w.alloc (.cells #[.slice A n c, .slice B m d] 25)) := (Below.refl _ _).alloc (Nat.le_refl _) _
  have hk1 := KB.new w 25 #[.slice A n c, .slice B m d]
  have hF := formedG_any ⟨A, n, c, B, m, d, vs, cs⟩ _ (h.below hb1 (Nat.le_refl _))
  obtain ⟨hv, hc⟩ := h
  unfold Sn.val at hF ⊢
  dsimp only at hv hc hF ⊢
  have HL := Lib.hid hc.len
  have HV := Lib.hid hv
  have HC := Lib.hid hc
  have hcap := hv.cap
  have hmax := hv.max
  have hcap2 := hc.cap
  have hmax2 := hc.max
  have HB1 := Lib.hid hb1
  have HK1 := Lib.hid hk1
  clear hv hc hb1 hk1
  by_cases hfd : Fd vs cs
  · rw [decide_eq_true hfd] at hF
    have h32 : m ≤ 32 := by have := hfd.2.1.1; have := HL.out; omega
    have HM := Lib.hid (show supM vs cs = supN vs cs from if_pos hfd)
    go_enter Tryz.func87, Tryz.ntmps87
    go_wp2_with fail
    refine hF.mono ?_
    rintro e w2 ⟨rfl, hb2⟩
    have hB2 := HB1.out.trans (hb2.mono HB1.out.size)
    have hK2 := HK1.out.below hb2 HK1.out.lt
    have x0 := hK2.cell 0
    have x1 := hK2.cell 1
    simp at x0 x1
    have HB2 := Lib.hid hB2
    have HK2 := Lib.hid hK2
    clear hb2 hB2 hK2 HK1 HB1 hF
    go_wp2_with fail
    clear x0 x1
    go_loopw [3, 12] (fun lv tv wr => ∃ (k m' c' : Nat) (A' : Option Addr), k ≤ m ∧ m' ≤ k ∧ tv = .int .i64 (k : Int) ∧ lv = .slice A' m' c' ∧ Owk .i64 3 wr (w.heap.size + 1) A' m' c' (supN vs (cs.take k)) ∧ KB wr w.heap.size 25 #[.slice A n c, .slice B m d] ∧ Below w.heap.size w wr) (fun _ tv _ => m - (intOf tv).toNat)
    case atStart => exact ⟨0, 0, 0, none, by omega, by omega, rfl, rfl, Owk.nil _ _ _ _, HK2.out, HB2.out⟩
    case round =>
      obtain ⟨k, m', c', A', hk, hmk, rfl, rfl, hO, hkb, hb⟩ := hrel
      clear HB2 HK2
      by_cases hlt : k < m
      · obtain ⟨b, o, rfl, hbb, hcc⟩ := HC.out.at_ (by omega)
        have d0 := (hb.cell (p := ⟨b, o + k, none⟩) hbb).trans (hcc k hlt)
        have hge := hfd.2.1.ge k (by rw [HL.out]; exact hlt)
        have hle := hfd.2.1.le k (by rw [HL.out]; exact hlt)
        have hT : supN vs (cs.take (k + 1)) = supN vs (cs.take k) ++ if (vs.any fun v => apv v (zl cs k)) = true then [(zl cs k).toNat] else [] := by
          rw [List.take_add_one, List.getElem?_eq_getElem (show k < cs.length by rw [HL.out]; exact hlt), supN_append, ← supN_one, zl_get cs k (by rw [HL.out]; exact hlt)]; rfl
        clear hcc
        obtain ⟨x, hx⟩ : ∃ x, zl cs k = x := ⟨_, rfl⟩
        rw [hx] at d0 hT hge hle
        obtain ⟨N, rfl⟩ := Int.eq_ofNat_of_zero_le hge
        rw [Int.toNat_natCast] at hT
        have HT := Lib.hid hT
        have hb7' : Below wr.heap.size wr (wr.alloc (.cells #[.int .i64 (N : Int)] 3)) := (Below.refl _ _).alloc (Nat.le_refl _) _
        have hK7 := KB.new wr 3 #[.int .i64 (N : Int)]
        have hO7 := hO.below hb7'
        have hkb7 := hkb.below hb7' hkb.lt
        have hsz := hkb.lt
        have hz7 := hb.size
        have HB7 := Lib.hid (hb.trans (hb7'.mono hb.size))
        have HV7 := Lib.hid (HV.out.below HB7.out (Nat.le_refl _))
        clear hb7' hT hx hb hO hkb
        obtain ⟨r, hr⟩ : ∃ r, (vs.any fun v => apv v (N : Int)) = r := ⟨_, rfl⟩
        go_upto_region 7 with (fail)
        generalize hw7 : (wr.alloc (.cells #[.int .i64 (N : Int)] 3)) = w7 at *
        have y0 := hK7.cell 0
        simp at y0
        have hCF := conf_any A n c wr.heap.size vs N w7 HV7.out hfd.2.2.1 y0 hK7.lt
        rw [hr] at hCF HT
        have z0 := hkb7.cell 0
        simp at z0
        clear d0 hw7 hr
        go_wp2_with fail
        refine hCF.mono ?_
        rintro e w8 ⟨rfl, hb8⟩
        have hB8 := HB7.out.trans (hb8.mono HB7.out.size)
        have hO8 := hO7.below hb8
        have hkb8 := hkb7.below hb8 hkb7.lt
        have y8 := (hK7.below hb8 hK7.lt).cell 0
        have hs8 := hB8.size
        simp at y8
        have HB8 := Lib.hid hB8
        have HK8 := Lib.hid hkb8
        clear hb8 hO7 hK7 y0 z0 HB7 hCF hB8 hkb7 hkb8
        cases r with
        | false =>
          go_wp2
          go_roundw
          case rel => exact ⟨k + 1, m', c', A', by omega, by omega, by go_num, rfl, by rw [HT.out, if_neg (by simp), List.append_nil]; exact hO8, HK8.out, HB8.out⟩
          case measure => simp [intOf]; omega
        | true =>
          have hsz8 := HK8.out.lt
          go_wp2_with (at_builtin; refine wpList_appk _ .i64 3 8 rfl (.tmp 20) (.tmp 22) 23 rfl (w.heap.size + 1) Tryz.underlying23 infoI' _ _ _ _ 1 1 (supN vs (cs.take k)) [N] rfl rfl (hO8.alloc _) (rk_one _ _ _ _ _ (by omega)) (by unfold maxLen; omega) (by omega) (by simp; omega) ?_; intro A1 c1 w1 hO1 hb1)
          go_roundw
          case rel => exact ⟨k + 1, m' + 1, c1, A1, by omega, by omega, by go_num, rfl, by rw [HT.out]; simpa using hO1, (HK8.out.alloc _).below hb1 (by omega), (HB8.out.alloc HB8.out.size _).trans (hb1.mono (by omega))⟩
          case measure => simp [intOf]; omega
      · obtain rfl : k = m := by omega
        have hl : supN vs (cs.take k) = supM vs cs := by rw [HM.out, List.take_of_length_le (by rw [HL.out]; exact Nat.le_refl _)]
        rw [hl] at hO
        go_wp2
        go_ret
        exact ⟨_, _, _, rfl, hO.low (by omega), hb⟩
  · rw [decide_eq_false hfd] at hF
    have HE := Lib.hid (show supM vs cs = [] from if_neg hfd)
    go_enter Tryz.func87, Tryz.ntmps87
    go_wp2_with fail
    refine hF.mono ?_
    rintro e w2 ⟨rfl, hb2⟩
    go_wp2
    go_ret
    exact ⟨_, _, _, rfl, by rw [HE.out]; exact Owk.nil _ _ _ _, HB1.out.trans (hb2.mono HB1.out.size)⟩
end Go.Proofs.YtehekjlakegkpaaGreat
end
section
namespace Go.Proofs.YtehekjlakegkpaaGreat
open Go.RowKit
set_option linter.unusedVariables false

/-- How many can be elected. -/
def seatI (most : Int) (L : Nat) : Int := max 0 (min most (L : Int))
set_option maxHeartbeats 800000 in
theorem seats_any (s : Sn) (most : Int) (w : World) (h : s.In w) :
    Calls Tryz.prog 41 #[s.val, .int .i64 most] w fun e w' => e = .returned (.int .i64 (seatI most (supM s.vs s.cs).length)) ∧ Below w.heap.size w w' := by
  obtain ⟨A, n, c, B, m, d, vs, cs⟩ := s
  have hb1 : Below w.heap.size w (w.alloc (.cells #[.slice A n c, .slice B m d] 25)) := (Below.refl _ _).alloc (Nat.le_refl _) _
  have hA := supported_any ⟨A, n, c, B, m, d, vs, cs⟩ _ (h.below hb1 (Nat.le_refl _))
  have hX := supM_len vs cs
  unfold Sn.val at hA ⊢
  dsimp only at hA ⊢
  obtain ⟨r, hr⟩ : ∃ r, seatI most (supM vs cs).length = r := ⟨_, rfl⟩
  rw [hr]
  generalize supM vs cs = xs at *
  have HB1 := Lib.hid hb1
  have HR := Lib.hid hr
  have HX := Lib.hid hX
  clear hb1 h hr hX
  go_enter Tryz.func41, Tryz.ntmps41
  go_wp2_with fail
  refine hA.mono ?_
  rintro e w2 ⟨A2, n2, c2, rfl, hO, hb2⟩
  have HB2 := Lib.hid (HB1.out.trans (hb2.mono HB1.out.size))
  have HL := Lib.hid hO.len
  clear hO hb2 hA
  go_wp2_with fail
  go_ret
  refine ⟨?_, HB2.out⟩
  rw [← HR.out, HL.out]
  rfl
/-- The sum of all stakes. -/
def totM (vs : List Vr) (cs : List Int) : Nat := if Fd vs cs then tot (stk vs) else 0
/-- Some bool is answered, and what was there is as it was. -/
def OutFs (w : World) : Ending → World → Prop := fun e w' => ∃ r, e = .returned (.bool r) ∧ Below w.heap.size w w'
set_option maxHeartbeats 800000 in
/-- Whether it is of a size that is looked at. -/
theorem small_any (s : Sn) (w : World) (h : s.In w) :
    Calls Tryz.prog 11 #[s.val] w (OutFs w) := by
  obtain ⟨A, n, c, B, m, d, vs, cs⟩ := s
  have hb1 : Below w.heap.size w (w.alloc (.cells #[.slice A n c, .slice B m d] 25)) := (Below.refl _ _).alloc (Nat.le_refl _) _
  have hk1 := KB.new w 25 #[.slice A n c, .slice B m d]
  obtain ⟨hv, hc⟩ := h
  unfold Sn.val
  dsimp only at hv hc ⊢
  have HV := Lib.hid hv
  have hcap := hv.cap
  have hmax := hv.max
  have hcap2 := hc.cap
  have hmax2 := hc.max
  have HB1 := Lib.hid hb1
  have HK1 := Lib.hid hk1
  clear hv hc hb1 hk1
  by_cases hm : (100 : Int) < (m : Int)
  · go_enter Tryz.func11, Tryz.ntmps11
    go_wp2
    go_ret
    exact ⟨_, rfl, HB1.out⟩
  · go_enter Tryz.func11, Tryz.ntmps11
    go_wp2_with fail
    go_loopw [11] (fun tv wr => ∃ (k : Nat), k ≤ n ∧ tv = .int .i64 (k : Int) ∧ KB wr w.heap.size 25 #[.slice A n c, .slice B m d] ∧ Below w.heap.size w wr) (fun tv _ => n - (intOf tv).toNat)
    case atStart => exact ⟨0, by omega, rfl, HK1.out, HB1.out⟩
    case round =>
      obtain ⟨k, hk, rfl, hkb, hbw⟩ := hrel
      have HK := Lib.hid hkb
      have HB := Lib.hid hbw
      clear HK1 HB1
      by_cases hlt : k < n
      · obtain ⟨b', o, v, rfl, hbb, hve, ok, ri, c0, c1, c2⟩ := HV.out.at_ hlt
        have d2 := (hbw.cell (p := ⟨b', o + k * 3 + 2, none⟩) hbb).trans c2
        have x0 := hkb.cell 0
        simp at x0
        have hn1 := ri.cap
        have hn2 := ri.max
        obtain ⟨vi, vst, va, vn, vc, vp⟩ := v
        dsimp only at d2 hn1 hn2
        clear c0 c1 c2 hve ok ri hbw hkb
        by_cases h100 : (100 : Int) ≤ (k : Int)
        · go_wp2
          go_ret
          exact ⟨_, rfl, HB.out⟩
        · by_cases h50 : (50 : Int) < (vn : Int)
          · go_wp2
            go_ret
            exact ⟨_, rfl, HB.out⟩
          · go_wp2
            go_roundw
            case rel => exact ⟨k + 1, by omega, by go_num, HK.out, HB.out⟩
            case measure => simp [intOf]; omega
      · go_wp2
        go_ret
        exact ⟨_, rfl, HB.out⟩

end Go.Proofs.YtehekjlakegkpaaGreat
end
section
namespace Go.Proofs.YtehekjlakegkpaaGreat
open Go.RowKit
set_option linter.unusedVariables false

/-- In a snapshot that is well formed a voter is among those that approve just if it approves. -/
theorem mem_apM {vs : List Vr} {cs : List Int} (h : Fd vs cs) {v : Vr} (hv : v ∈ vs) {x : Int} (hx : x ∈ cs) : decide (v.id ∈ ints (apM vs cs x)) = apv v x := by
  have hid : ∀ u ∈ vs, u.id = (u.id.toNat : Int) := fun u hu => by have := h.2.2.2.2.1 u hu; omega
  rw [show apM vs cs x = apN vs x from if_pos ⟨h, hx⟩]
  rw [Bool.eq_iff_iff, decide_eq_true_iff, hid v hv, mem_ints]
  unfold apN
  rw [List.mem_map]
  constructor
  · rintro ⟨u, hu, e⟩
    obtain ⟨hu1, hu2⟩ := List.mem_filter.1 hu
    have he : u.id = v.id := by have := hid u hu1; have := hid v hv; omega
    have hnd := h.2.2.2.2.2
    obtain rfl : u = v := by
      unfold idl at hnd
      obtain ⟨i, hi, rfl⟩ := List.mem_iff_getElem.1 hu1
      obtain ⟨j, hj, rfl⟩ := List.mem_iff_getElem.1 hv
      have hp := List.pairwise_iff_getElem.1 hnd
      rcases Nat.lt_trichotomy i j with h1 | h1 | h1
      · exact absurd (by rw [List.getElem_map, List.getElem_map]; exact he) (hp i j (by rw [List.length_map]; exact hi) (by rw [List.length_map]; exact hj) h1)
      · subst h1; rfl
      · exact absurd (by rw [List.getElem_map, List.getElem_map]; exact he.symm) (hp j i (by rw [List.length_map]; exact hj) (by rw [List.length_map]; exact hi) h1)
    exact hu2
  · intro ha; exact ⟨v, List.mem_filter.2 ⟨hv, ha⟩, rfl⟩
theorem len_apM {vs : List Vr} {cs : List Int} (h : Fd vs cs) {x : Int} (hx : x ∈ cs) : decide (0 < (apM vs cs x).length) = vs.any fun v => apv v x := by
  rw [show apM vs cs x = apN vs x from if_pos ⟨h, hx⟩]
  unfold apN
  rw [List.length_map, Bool.eq_iff_iff, decide_eq_true_iff, List.length_pos_iff_exists_mem, List.any_eq_true]
  exact ⟨fun ⟨v, hv⟩ => ⟨v, (List.mem_filter.1 hv).1, (List.mem_filter.1 hv).2⟩, fun ⟨v, hv, ha⟩ => ⟨v, List.mem_filter.2 ⟨hv, ha⟩⟩⟩
theorem mem_supM {vs : List Vr} {cs : List Int} (h : Fd vs cs) {x : Int} (hx : x ∈ cs) : decide (x ∈ ints (supM vs cs)) = vs.any fun v => apv v x := by
  have hge : ∀ y ∈ cs, y = (y.toNat : Int) := fun y hy => by
    obtain ⟨j, hj, rfl⟩ := mem_zl.1 hy
    have := h.2.1.ge j hj
    omega
  rw [show supM vs cs = supN vs cs from if_pos h, Bool.eq_iff_iff, decide_eq_true_iff, hge x hx, mem_ints]
  unfold supN
  rw [List.mem_map, ← hge x hx]
  constructor
  · rintro ⟨y, hy, e⟩
    obtain ⟨h1, h2⟩ := List.mem_filter.1 hy
    obtain rfl : y = x := by have := hge y h1; have := hge x hx; omega
    exact h2
  · intro ha; exact ⟨x, List.mem_filter.2 ⟨hx, ha⟩, rfl⟩

end Go.Proofs.YtehekjlakegkpaaGreat
end
