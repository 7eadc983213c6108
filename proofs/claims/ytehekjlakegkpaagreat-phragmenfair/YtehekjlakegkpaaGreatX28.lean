/-
  Rows of fractions, and slices of shares, in memory. No program is walked here.
  Shares as mathematics: what each weight is as a rational number, sums of them, and how long these may be. No program is walked here.
  What voters give, as mathematics: a voter's shares among all shares, their sum, how long partial sums are, and that an order by candidates leaves no choice. No program is walked here.
  psephoslaw11's awake answers true: one voter elects one candidate.
  What the law's own awake, Few, Theirs, Ours and Same do: awake answers true; Few tells whether fractions have at most 24 limbs; Same is true of fractions that read alike. For fractions that can be read.
-/
import Derived.Test.YtehekjlakegkpaaGreatX26
import Derived.Test.YtehekjlakegkpaaGreatX27
import Derived.Deep.RegionHeld3
section
namespace Go.Proofs.YtehekjlakegkpaaGreat
open Go.RowKit
set_option linter.unusedVariables false

theorem flatK_len {α : Type} (K : Nat) (f : α → List Value) (hf : ∀ a, (f a).length = K) (l : List α) : (l.flatMap f).length = l.length * K := by
  induction l with
  | nil => simp
  | cons a l ih => rw [List.flatMap_cons, List.length_append, ih, hf, List.length_cons, Nat.succ_mul, Nat.add_comm]
theorem flatK_get {α : Type} (K : Nat) (f : α → List Value) (hf : ∀ a, (f a).length = K) (l : List α) (j i : Nat) (a : α) (h : l[j]? = some a) (hi : i < K) : (l.flatMap f)[j * K + i]? = (f a)[i]? := by
  induction l generalizing j with
  | nil => simp at h
  | cons b l ih =>
    rw [List.flatMap_cons]
    cases j with
    | zero =>
      obtain rfl : b = a := by simpa using h
      rw [List.getElem?_append_left (by rw [hf]; omega)]
      simp
    | succ j =>
      have e : (j + 1) * K = j * K + K := Nat.succ_mul j K
      rw [List.getElem?_append_right (by rw [hf]; omega), hf, ← ih j (by simpa using h)]
      congr 1; omega
theorem ownK_at {K : Nat} {w : World} {base : Nat} {T : TypeId} {v : Value} {n : Nat} {cs : List Value} (h : w.ownsRow base T K v n cs) {j : Nat} (hj : j < n) : ∃ g c, v = .slice (some ⟨g, 0, none⟩) n c ∧ base ≤ g ∧ g < w.heap.size ∧ n ≤ c ∧ c ≤ maxLen ∧ ∀ i, i < K → w.cell? ⟨g, j * K + i, none⟩ = cs[j * K + i]? := by
  rcases own_forms h with ⟨rfl, hl, _⟩ | ⟨g, cap, rfl, hb, hnc, hcm, hg, cur, hk, hcs, ht⟩
  · omega
  · refine ⟨g, cap, rfl, hb, hg, hnc, hcm, fun i hi => ?_⟩
    have h1 : (j + 1) * K ≤ n * K := Nat.mul_le_mul_right K hj
    rw [Nat.succ_mul] at h1
    rw [KB.cell (show KB w g T cur from hk), ← ht, List.getElem?_take, if_pos (by omega)]
    simp

/-! Rows of fractions. -/
def fpC (fs : List (Fp × Rat)) : List Value := fs.flatMap fun t => [.slice t.1.A t.1.n t.1.c, .slice t.1.B t.1.m t.1.d]
theorem fpC_append (fs gs : List (Fp × Rat)) : fpC (fs ++ gs) = fpC fs ++ fpC gs := List.flatMap_append
theorem fpC_len (fs : List (Fp × Rat)) : (fpC fs).length = fs.length * 2 := flatK_len 2 _ (fun _ => rfl) fs
/-- A row of the call's own holds these fractions. -/
structure FsIn (T : TypeId) (w : World) (base : Nat) (rv : Value) (fs : List (Fp × Rat)) : Prop where
  row : w.ownsRow base T 2 rv fs.length (fpC fs)
  fr : ∀ t ∈ fs, RX w t.1 t.2 ∧ Pr (fun b => rv.ownBlock = some b) t.1.A t.1.n ∧ Pr (fun b => rv.ownBlock = some b) t.1.B t.1.m
section
variable {T : TypeId} {w w' : World} {base : Nat} {rv : Value} {fs : List (Fp × Rat)}
theorem FsIn.nil (T : TypeId) (w : World) (base : Nat) : FsIn T w base (.slice none 0 0) [] := ⟨World.ownsRow_nil _ _ _ _, fun t h => by cases h⟩
theorem FsIn.below (h : FsIn T w base rv fs) (hb : Below w.heap.size w w') : FsIn T w' base rv fs :=
  ⟨own_below h.row hb (fun g e => (h.row.lt _ e).2), fun t ht => ⟨(h.fr t ht).1.below hb (Nat.le_refl _), (h.fr t ht).2⟩⟩
theorem FsIn.low {lo : Nat} (h : FsIn T w base rv fs) (hl : lo ≤ base) : FsIn T w lo rv fs := ⟨own_low h.row hl, h.fr⟩
theorem FsIn.drew (h : FsIn T w base rv fs) : FsIn T w.drew base rv fs := ⟨h.row, h.fr⟩
theorem FsIn.push (h : FsIn T w base rv fs) (f : Fp) (x : Rat) {v' : Value} (hf : RX w f x) (h1 : Pr (fun b => rv.ownBlock = some b) f.A f.n) (h2 : Pr (fun b => rv.ownBlock = some b) f.B f.m)
    (ho : w'.ownsRow base T 2 v' (fs.length + 1) (fpC fs ++ [.slice f.A f.n f.c, .slice f.B f.m f.d])) (ht : Turns (fun b => rv.ownBlock = some b) w w') (hv : v'.ownBlock = rv.ownBlock ∨ v'.ownBlock = some w.heap.size) : FsIn T w' base v' (fs ++ [(f, x)]) := by
  have hF : ∀ b, v'.ownBlock = some b → rv.ownBlock = some b ∨ w.heap.size ≤ b := fun b hb => by
    rcases hv with e | e
    · exact .inl (e ▸ hb)
    · rw [hb] at e; injection e with e; exact .inr (by omega)
  refine ⟨?_, fun t hm => ?_⟩
  · rw [List.length_append, fpC_append]; exact ho
  · rcases List.mem_append.1 hm with hm | hm
    · obtain ⟨a, b, c⟩ := h.fr t hm
      exact ⟨a.turns ht b c, b.new a.1.lt hF, c.new a.2.lt hF⟩
    · obtain rfl := List.mem_singleton.1 hm
      exact ⟨hf.turns ht h1 h2, h1.new hf.1.lt hF, h2.new hf.2.lt hF⟩
/-- A fraction in memory that was there ahead of the row. -/
theorem FsIn.pr_low (h : FsIn T w base rv fs) {f : Fp} (h1 : ∀ a, f.A = some a → 0 < f.n → a.block < base) (h2 : ∀ a, f.B = some a → 0 < f.m → a.block < base) : Pr (fun b => rv.ownBlock = some b) f.A f.n ∧ Pr (fun b => rv.ownBlock = some b) f.B f.m := by
  refine ⟨fun a e hn hb => ?_, fun a e hn hb => ?_⟩
  · have := h1 a e hn; have := (h.row.lt _ hb).1; omega
  · have := h2 a e hn; have := (h.row.lt _ hb).1; omega
/-- A fraction that was made behind the row. -/
theorem FsIn.pr_lo {lo : Nat} {w0 : World} (h : FsIn T w0 base rv fs) {f : Fp} (hf : Lo lo f) (hl : w0.heap.size ≤ lo) : Pr (fun b => rv.ownBlock = some b) f.A f.n ∧ Pr (fun b => rv.ownBlock = some b) f.B f.m := by
  refine ⟨fun a e hn hb => ?_, fun a e hn hb => ?_⟩
  · have := hf.1 a e hn; have := (h.row.lt _ hb).2; omega
  · have := hf.2 a e hn; have := (h.row.lt _ hb).2; omega
theorem FsIn.at_ (h : FsIn T w base rv fs) {j : Nat} {f : Fp} {x : Rat} (hj : fs[j]? = some (f, x)) : ∃ g c, rv = .slice (some ⟨g, 0, none⟩) fs.length c ∧ base ≤ g ∧ g < w.heap.size ∧ fs.length ≤ c ∧ c ≤ maxLen ∧ w.cell? ⟨g, j * 2, none⟩ = some (.slice f.A f.n f.c) ∧ w.cell? ⟨g, j * 2 + 1, none⟩ = some (.slice f.B f.m f.d) ∧ RX w f x := by
  have hl := (List.getElem?_eq_some_iff.1 hj).1
  obtain ⟨g, c, e, hb, hg, hnc, hc, hi⟩ := ownK_at h.row hl
  refine ⟨g, c, e, hb, hg, hnc, hc, ?_, ?_, (h.fr _ (List.mem_of_getElem? hj)).1⟩
  · have := hi 0 (by omega)
    unfold fpC at this
    rw [flatK_get 2 _ (fun _ => rfl) fs j 0 (f, x) hj (by omega)] at this
    exact this
  · have := hi 1 (by omega)
    unfold fpC at this
    rw [flatK_get 2 _ (fun _ => rfl) fs j 1 (f, x) hj (by omega)] at this
    exact this
theorem FsIn.form (h : FsIn T w base rv fs) : ∃ A c, rv = .slice A fs.length c ∧ fs.length ≤ c ∧ c ≤ maxLen := by
  rcases own_forms h.row with ⟨rfl, hl, _⟩ | ⟨g, cap, rfl, _, hnc, hcm, _⟩
  · exact ⟨none, 0, by rw [hl], by omega, Nat.zero_le _⟩
  · exact ⟨_, _, rfl, hnc, hcm⟩
end
/-- Fractions are answered, in memory of the call's own, and no error. -/
def OutFs2 (T : TypeId) (w : World) (xs : List Rat) : Ending → World → Prop := fun e w' => ∃ (A : Option Addr) (c : Nat) (fs : List (Fp × Rat)), e = .returned (.tuple #[.slice A fs.length c, .int .i64 0]) ∧ fs.map Prod.snd = xs ∧ FsIn T w' w.heap.size (.slice A fs.length c) fs ∧ Below w.heap.size w w'

/-! Slices of shares. -/
/-- A share as it lies, whatever its weight. -/
structure Wh where
  v : Int
  c : Int
  f : Fp
  xs : List Nat
  ys : List Nat
def Wh.cells (s : Wh) : List Value := [.int .i64 s.v, .int .i64 s.c, .slice s.f.A s.f.n s.f.c, .slice s.f.B s.f.m s.f.d]
def whC (l : List Wh) : List Value := l.flatMap Wh.cells
theorem whC_append (l k : List Wh) : whC (l ++ k) = whC l ++ whC k := List.flatMap_append
theorem whC_one (l : List Wh) : ∀ u ∈ whC l, u.oneCell' = true := by
  intro u hu
  obtain ⟨s, _, hv⟩ := List.mem_flatMap.1 hu
  simp [Wh.cells] at hv
  rcases hv with rfl | rfl | rfl | rfl <;> rfl
/-- A slice reads as these shares. -/
structure Hr (w : World) (A : Option Addr) (n c : Nat) (l : List Wh) : Prop where
  len : l.length = n
  cap : n ≤ c
  max : c ≤ 9223372036854775807
  at0 : 0 < n → ∃ b o, A = some ⟨b, o, none⟩ ∧ b < w.heap.size ∧ ∀ j s, l[j]? = some s → w.cell? ⟨b, o + j * 4, none⟩ = some (.int .i64 s.v) ∧ w.cell? ⟨b, o + j * 4 + 1, none⟩ = some (.int .i64 s.c) ∧ w.cell? ⟨b, o + j * 4 + 2, none⟩ = some (.slice s.f.A s.f.n s.f.c) ∧ w.cell? ⟨b, o + j * 4 + 3, none⟩ = some (.slice s.f.B s.f.m s.f.d)
  rd : ∀ s ∈ l, Rd w s.f.A s.f.n s.f.c s.xs ∧ Rd w s.f.B s.f.m s.f.d s.ys
theorem Hr.nil (w : World) : Hr w none 0 0 [] := ⟨rfl, Nat.le_refl _, by omega, fun h => by omega, fun s h => by cases h⟩
section
variable {w w' : World} {A : Option Addr} {n c : Nat} {l : List Wh}
theorem Hr.at_ (h : Hr w A n c l) {k : Nat} (hk : k < n) : ∃ b o s, A = some ⟨b, o, none⟩ ∧ b < w.heap.size ∧ l[k]? = some s ∧ w.cell? ⟨b, o + k * 4, none⟩ = some (.int .i64 s.v) ∧ w.cell? ⟨b, o + k * 4 + 1, none⟩ = some (.int .i64 s.c) ∧ w.cell? ⟨b, o + k * 4 + 2, none⟩ = some (.slice s.f.A s.f.n s.f.c) ∧ w.cell? ⟨b, o + k * 4 + 3, none⟩ = some (.slice s.f.B s.f.m s.f.d) ∧ Rd w s.f.A s.f.n s.f.c s.xs ∧ Rd w s.f.B s.f.m s.f.d s.ys := by
  obtain ⟨b, o, e, hb, hc⟩ := h.at0 (by omega)
  have hl : l[k]? = some (l[k]'(by rw [h.len]; exact hk)) := List.getElem?_eq_getElem _
  obtain ⟨c0, c1, c2, c3⟩ := hc k _ hl
  obtain ⟨r0, r1⟩ := h.rd _ (List.mem_of_getElem? hl)
  exact ⟨b, o, _, e, hb, hl, c0, c1, c2, c3, r0, r1⟩
theorem Hr.below {B : Nat} (h : Hr w A n c l) (hb : Below B w w') (hB : w.heap.size ≤ B) : Hr w' A n c l := by
  have hb' := hb.mono hB
  refine ⟨h.len, h.cap, h.max, fun h0 => ?_, fun s hs => ⟨(h.rd s hs).1.below hb', (h.rd s hs).2.below hb'⟩⟩
  obtain ⟨b, o, e, hbl, hc⟩ := h.at0 h0
  refine ⟨b, o, e, Nat.lt_of_lt_of_le hbl hb'.size, fun j s hj => ?_⟩
  obtain ⟨c0, c1, c2, c3⟩ := hc j s hj
  exact ⟨(hb'.cell (p := ⟨b, o + j * 4, none⟩) hbl).trans c0, (hb'.cell (p := ⟨b, o + j * 4 + 1, none⟩) hbl).trans c1, (hb'.cell (p := ⟨b, o + j * 4 + 2, none⟩) hbl).trans c2, (hb'.cell (p := ⟨b, o + j * 4 + 3, none⟩) hbl).trans c3⟩
theorem Hr.drew (h : Hr w A n c l) : Hr w.drew A n c l := ⟨h.len, h.cap, h.max, h.at0, h.rd⟩
/-- A row of the call's own reads as shares. -/
theorem hr_of_own {base : Nat} {T : TypeId} (h : w.ownsRow base T 4 (.slice A n c) n (whC l)) (hl : l.length = n) (hr : ∀ s ∈ l, Rd w s.f.A s.f.n s.f.c s.xs ∧ Rd w s.f.B s.f.m s.f.d s.ys) : Hr w A n c l := by
  subst hl
  have hcap : l.length ≤ c ∧ c ≤ maxLen := by
    rcases own_forms h with ⟨e, hl, _⟩ | ⟨g, cap, e, _, hnc, hcm, _⟩
    · injection e with e1 e2 e3; subst e3; omega
    · injection e with e1 e2 e3; subst e3; exact ⟨hnc, hcm⟩
  refine ⟨rfl, hcap.1, by have := hcap.2; unfold maxLen at this; exact this, fun h0 => ?_, hr⟩
  obtain ⟨g, c', e, hb, hg, hnc, hc, hi⟩ := ownK_at h h0
  injection e with e1 e2 e3
  refine ⟨g, 0, e1, hg, fun j s hj => ?_⟩
  have hjl := (List.getElem?_eq_some_iff.1 hj).1
  obtain ⟨g', c'', e', _, _, _, _, hi'⟩ := ownK_at h hjl
  injection e' with e1' _ _
  rw [e1] at e1'
  injection e1' with e1'
  injection e1' with e1' _ _
  subst e1'
  have key : ∀ i, i < 4 → w.cell? ⟨g, j * 4 + i, none⟩ = s.cells[i]? := fun i h4 => by
    have := hi' i h4
    unfold whC at this
    rw [flatK_get 4 Wh.cells (fun _ => rfl) l j i s hj h4] at this
    exact this
  rw [Nat.zero_add]
  exact ⟨key 0 (by omega), key 1 (by omega), key 2 (by omega), key 3 (by omega)⟩
end
/-- Its weight is a fraction that reads as a number. -/
def Wh.is (s : Wh) (x : Rat) : Prop := s.xs = digs x.num.toNat ∧ s.ys = digs x.den ∧ 0 ≤ x
/-- A share as Elect answers it. -/
def Sh.wh (s : Sh) : Wh := ⟨s.v, s.c, s.f, digs s.x.num.toNat, digs s.x.den⟩
theorem shC_wh (l : List Sh) : shC l = whC (l.map Sh.wh) := by
  unfold shC whC
  induction l with
  | nil => rfl
  | cons s l ih => rw [List.flatMap_cons, List.map_cons, List.flatMap_cons, ih]; rfl
theorem AlIn.hr {w : World} {base c : Nat} {A : Option Addr} {ss : List Sh} (h : AlIn w base (.slice A ss.length c) ss) : Hr w A ss.length c (ss.map Sh.wh) := by
  have h1 := h.row
  rw [shC_wh] at h1
  refine hr_of_own h1 (List.length_map _) fun s hs => ?_
  obtain ⟨t, ht, rfl⟩ := List.mem_map.1 hs
  exact (h.fr t ht).1
end Go.Proofs.YtehekjlakegkpaaGreat
end
section
namespace Go.Proofs.YtehekjlakegkpaaGreat
open Go.RowKit
set_option linter.unusedVariables false

/-- A weight as a number. -/
def Wh.q (s : Wh) : Rat := mkRat (val s.xs : Int) (val s.ys)
def Wh.ok (s : Wh) : Bool := frB s.xs s.ys
theorem inv_nn {x : Rat} (h : 0 ≤ x) : 0 ≤ x⁻¹ := by
  by_cases e : x = 0
  · subst e; rw [Rat.inv_zero]; exact Rat.le_refl
  · exact Rat.le_of_lt (Rat.inv_pos.2 (by grind))
theorem rat_of_fr {p q : Nat} (h : Fr p q) : (mkRat (p : Int) q).num.toNat = p ∧ (mkRat (p : Int) q).den = q ∧ 0 ≤ mkRat (p : Int) q := by
  have hq : (q : Rat) ≠ 0 := by exact_mod_cast h.2.2.1
  have e : mkRat (p : Int) q = (p : Rat) / (q : Rat) := by rw [Rat.mkRat_eq_div]; rfl
  obtain ⟨h1, h2⟩ := ratN p q h.2.2.1 (mkRat (p : Int) q) (by rw [e]; exact Rat.div_mul_cancel hq)
  rw [h.2.2.2, Nat.div_one] at h1 h2
  refine ⟨h1, h2, ?_⟩
  rw [e, Rat.div_def]
  exact Rat.mul_nonneg (st_nonneg _) (inv_nn (st_nonneg _))
theorem Wh.is_q {s : Wh} (hx : Lim s.xs) (hy : Lim s.ys) (h : s.ok = true) : s.is s.q ∧ s.q.num.toNat = val s.xs ∧ s.q.den = val s.ys := by
  obtain ⟨p, q, e1, e2, hf⟩ := fr_of hx hy h
  obtain ⟨h1, h2, h3⟩ := rat_of_fr hf
  have e3 : s.q = mkRat (p : Int) q := by unfold Wh.q; rw [e1, e2, val_digs, val_digs]
  refine ⟨⟨?_, ?_, ?_⟩, ?_, ?_⟩
  · rw [e3, h1, e1]
  · rw [e3, h2, e2]
  · rw [e3]; exact h3
  · rw [e3, h1, e1, val_digs]
  · rw [e3, h2, e2, val_digs]
theorem Wh.rx {w : World} {s : Wh} {x : Rat} (h : s.is x) (h1 : Rd w s.f.A s.f.n s.f.c s.xs) (h2 : Rd w s.f.B s.f.m s.f.d s.ys) : RX w s.f x := ⟨by rw [← h.1]; exact h1, by rw [← h.2.1]; exact h2⟩
/-- Its denominator has at most a limbs, and it is not above b limbs. -/
def Sz (a b : Nat) (x : Rat) : Prop := ∃ d, 0 < d ∧ d ≤ pw a ∧ Den d x ∧ x ≤ ((pw b : Nat) : Rat)
theorem den_self {x : Rat} (h : 0 ≤ x) : Den x.den x := ⟨h, x.num.toNat, ratX h⟩
theorem le_num {x : Rat} (h : 0 ≤ x) : x ≤ (x.num.toNat : Rat) := by
  have h1 := ratX h
  have h2 : (1 : Rat) ≤ (x.den : Rat) := by exact_mod_cast x.den_pos
  have h3 := Rat.mul_le_mul_of_nonneg_left h2 h
  grind
theorem sz_of {x : Rat} {a b : Nat} (h : 0 ≤ x) (h1 : x.den ≤ pw a) (h2 : x.num.toNat ≤ pw b) : Sz a b x := by
  refine ⟨x.den, x.den_pos, h1, den_self h, Rat.le_trans (le_num h) ?_⟩
  exact_mod_cast h2
theorem sum_sz {a b : Nat} (xs : List Rat) (h : ∀ x ∈ xs, Sz a b x) : ∃ D, 0 < D ∧ D ≤ pw (a * xs.length) ∧ Den D (sumR xs) ∧ sumR xs ≤ ((xs.length * pw b : Nat) : Rat) := by
  induction xs with
  | nil => exact ⟨1, by omega, pw_pos _, Den.zero, by simp [sumR]⟩
  | cons x xs ih =>
    obtain ⟨D, h0, h1, h2, h3⟩ := ih fun y hy => h y (List.mem_cons_of_mem _ hy)
    obtain ⟨d, g0, g1, g2, g3⟩ := h x List.mem_cons_self
    refine ⟨D * d, Nat.mul_pos h0 g0, ?_, ?_, ?_⟩
    · rw [List.length_cons, Nat.mul_add, Nat.mul_one, pw_add]; exact Nat.mul_le_mul h1 g1
    · show Den (D * d) (x + sumR xs)
      refine Den.add ?_ (h2.more d)
      rw [Nat.mul_comm]; exact g2.more D
    · show x + sumR xs ≤ _
      rw [List.length_cons, Nat.succ_mul, Rat.natCast_add]
      grind
theorem sum_sb {a b : Nat} (xs : List Rat) (h : ∀ x ∈ xs, Sz a b x) (N : Nat) (hl : xs.length ≤ N) (hN : N ≤ 4294967296) (hab : a * N + b + 1 < 150) : Sb (sumR xs) := by
  obtain ⟨D, h0, h1, h2, h3⟩ := sum_sz xs h
  have e : pw (b + 1) = 4294967296 * pw b := rfl
  refine h2.sb h0 (a * xs.length) (b + 1) h1 (xs.length * pw b) h3 ?_ ?_
  · rw [e]; exact Nat.mul_le_mul_right _ (by omega)
  · have : a * xs.length ≤ a * N := Nat.mul_le_mul_left a hl
    omega
/-- What a member is given by these shares. -/
def givQ (m : Int) (l : List Wh) : List Rat := (l.filter fun s => decide (s.c = m)).map Wh.q
theorem givQ_take_succ {l : List Wh} {k : Nat} {s : Wh} (h : l[k]? = some s) (m : Int) : givQ m (l.take (k + 1)) = givQ m (l.take k) ++ if s.c = m then [s.q] else [] := by
  unfold givQ
  rw [List.take_add_one, h, List.filter_append, List.map_append]
  congr 1
  show ([s].filter _).map _ = _
  by_cases e : s.c = m <;> simp [e]
theorem givQ_len (m : Int) (l : List Wh) : (givQ m l).length ≤ l.length := by
  unfold givQ; rw [List.length_map]; exact List.length_filter_le _ _
/-- Shares of few limbs each, and well formed. -/
structure FewQ (a b N : Nat) (l : List Wh) : Prop where
  len : l.length ≤ N
  n4 : N ≤ 4294967296
  ab : a * N + b + 1 < 150
  el : ∀ s ∈ l, s.is s.q ∧ Sz a b s.q
  ok : ∀ s ∈ l, s.ok = true
theorem FewQ.sb {a b N : Nat} {l : List Wh} (h : FewQ a b N l) (m : Int) (k : Nat) : Sb (sumR (givQ m (l.take k))) := by
  refine sum_sb (a := a) (b := b) _ (fun x hx => ?_) N ?_ h.n4 h.ab
  · unfold givQ at hx
    obtain ⟨s, hs, rfl⟩ := List.mem_map.1 hx
    exact (h.el s (List.mem_of_mem_take (List.mem_filter.1 hs).1)).2
  · refine Nat.le_trans (givQ_len m _) ?_
    rw [List.length_take]; have := h.len; omega
theorem FewQ.one {a b N : Nat} {l : List Wh} (h : FewQ a b N l) {s : Wh} (hs : s ∈ l) : Sb s.q := by
  obtain ⟨_, d, h0, h1, h2, h3⟩ := h.el s hs
  have h4 := h.ab
  have h5 : 1 ≤ N := Nat.le_trans (List.length_pos_of_mem hs) h.len
  have h6 : a * 1 ≤ a * N := Nat.mul_le_mul_left a h5
  exact h2.sb h0 a b h1 (pw b) h3 (Nat.le_refl _) (by omega)
theorem sumR_snoc (xs : List Rat) (x : Rat) : sumR (xs ++ [x]) = sumR xs + x := by
  rw [sumR_append]; simp [sumR, Rat.add_zero]
end Go.Proofs.YtehekjlakegkpaaGreat
end
section
namespace Go.Proofs.YtehekjlakegkpaaGreat
open Go.RowKit
set_option linter.unusedVariables false

/-- What is known of the seats of an election. -/
structure EsOk (vs : List Vr) (cs : List Int) (L : List (Int × Rat)) (D : Nat) : Prop where
  pos : 0 < D
  le : D ≤ pw 16
  den : ∀ e ∈ L, Den D e.2 ∧ e.2 ≤ 8 ∧ 0 < e.2
  up : (L.map Prod.snd).Pairwise (· ≤ ·)
  len : L.length ≤ 8
  nd : (L.map Prod.fst).Nodup
  mem : ∀ e ∈ L, e.1 ∈ supR vs cs
theorem esOk_of {vs : List Vr} {cs : List Int} {k : Nat} (hfd : Fd vs cs) (hk8 : k ≤ 8) (hk : k ≤ (supR vs cs).length) : (∃ D, EsOk vs cs ((rc0 vs (supR vs cs)).run k).es D) ∧ ((rc0 vs (supR vs cs)).run k).es.length = k := by
  obtain ⟨t, hRun⟩ := run_some vs (supR vs cs) (supR_nodup hfd) (supR_some hfd) k hk
  obtain ⟨D, hSiz⟩ := siz_some vs (supR vs cs) (supR_nodup hfd) (supR_some hfd) hfd.sum k hk
  refine ⟨⟨D, hSiz.pos, Nat.le_trans hSiz.le (pw_le (by omega)), fun e h => ?_, hRun.up, by rw [hRun.len]; exact hk8, ?_, fun e h => ?_⟩, hRun.len⟩
  · have h1 := hSiz.es _ h
    have h8 : ((k : Nat) : Rat) ≤ ((8 : Nat) : Rat) := by exact_mod_cast hk8
    exact ⟨h1.1, Rat.le_trans h1.2 h8, (hRun.top _ h).1⟩
  · have := hRun.prm.symm.nodup (supR_nodup hfd)
    exact (List.nodup_append.1 this).1
  · exact hRun.prm.subset (List.mem_append_left _ (List.mem_map_of_mem h))
section
variable {vs : List Vr} {cs : List Int} {L : List (Int × Rat)} {D : Nat} {v : Vr} {a : List Sh}
theorem EsOk.ups (h : EsOk vs cs L D) : Ups L 0 := ⟨h.up, fun e he => (h.den e he).1.1⟩
theorem GivL.nil_iff (h : GivL v L a) : a = [] ↔ ∀ e ∈ L, ¬ apv v e.1 = true := by
  have h1 := h.2.1.length_eq
  unfold wts at h1
  rw [List.length_map, List.length_map] at h1
  have h2 := congrArg List.length (edg_cand v L 0)
  rw [List.length_map] at h2
  constructor
  · intro e e1 he1 hap
    subst e
    have h3 : e1.1 ∈ (L.map Prod.fst).filter fun c => apv v c := List.mem_filter.2 ⟨List.mem_map_of_mem he1, hap⟩
    have h4 := List.length_pos_of_mem h3
    simp at h1
    omega
  · intro hn
    have h3 : (L.map Prod.fst).filter (fun c => apv v c) = [] := List.filter_eq_nil_iff.2 fun c hc => by
      obtain ⟨e, he, rfl⟩ := List.mem_map.1 hc
      exact hn e he
    rw [h3] at h2
    rw [h2] at h1
    exact List.eq_nil_of_length_eq_zero h1
theorem GivL.sum (h : GivL v L a) (hL : EsOk vs cs L D) (hne : a ≠ []) : sumR (a.map Sh.x) = (v.st : Rat) := by
  have hp := sumR_perm (h.2.1.map Prod.snd)
  rw [List.map_map] at hp
  have e : a.map Sh.x = a.map (Prod.snd ∘ fun t : Sh => (t.c, t.x)) := rfl
  rw [e, hp]
  have hq := sumR_perm ((srtC_perm (wts v L)).map Prod.snd)
  rw [← hq]
  refine giv_sum v L (fun e he => (hL.den e he).2.2) fun h0 => hne ?_
  have h1 : wts v L = [] := by
    have := (srtC_perm (wts v L)).length_eq
    unfold giv at h0
    rw [h0] at this
    exact List.eq_nil_of_length_eq_zero this.symm
  have := h.2.1.length_eq
  rw [h1] at this
  exact List.eq_nil_of_length_eq_zero (by simpa using this)
theorem GivL.den (h : GivL v L a) (hL : EsOk vs cs L D) : ∃ N, 0 < N ∧ N ≤ pw 17 ∧ ∀ t ∈ a, Den N t.x := by
  obtain ⟨hd1, hd2⟩ := edg_den v L 0 hL.ups (fun e he => (hL.den e he).1) Den.zero
  by_cases hn : edg v L 0 = []
  · refine ⟨1, by omega, pw_pos _, fun t ht => ?_⟩
    have := h.2.1.length_eq
    unfold wts at this
    rw [hn] at this
    simp at this
    subst this
    cases ht
  · obtain ⟨e, he, hf⟩ := fnl_mem v L 0 hn
    have hpos : 0 < fnl v L 0 := by rw [hf]; exact (hL.den e he).2.2
    have h8 : fnl v L 0 ≤ 8 := by rw [hf]; exact (hL.den e he).2.1
    obtain ⟨_, N, hN⟩ := hd2
    have hDp : (0 : Rat) < (D : Rat) := by exact_mod_cast hL.pos
    have hN0 : 0 < N := by
      have : (0 : Rat) < (N : Rat) := by rw [← hN]; exact Rat.mul_pos hpos hDp
      exact_mod_cast this
    refine ⟨N, hN0, ?_, fun t ht => ?_⟩
    · have h1 : (N : Rat) ≤ ((8 * D : Nat) : Rat) := by
        rw [← hN, Rat.natCast_mul]
        exact Rat.mul_le_mul_of_nonneg_right h8 (Rat.le_of_lt hDp)
      have h2 : N ≤ 8 * D := by exact_mod_cast h1
      have h3 := hL.le
      have h4 : pw 17 = 4294967296 * pw 16 := rfl
      omega
    · have hm : (t.c, t.x) ∈ wts v L := h.2.1.subset (List.mem_map_of_mem ht)
      unfold wts at hm
      obtain ⟨g, hg, e'⟩ := List.mem_map.1 hm
      have ex : t.x = (v.st : Rat) * g.2 / fnl v L 0 := (congrArg Prod.snd e').symm
      obtain ⟨hg0, M, hM⟩ := hd1 g hg
      have hinv := Rat.mul_inv_cancel (fnl v L 0) (by grind)
      refine ⟨?_, v.st * M, ?_⟩
      · rw [ex, Rat.div_def]
        exact Rat.mul_nonneg (Rat.mul_nonneg (st_nonneg _) hg0) (inv_nn (Rat.le_of_lt hpos))
      · rw [ex, Rat.natCast_mul, ← hN, ← hM, Rat.div_def]
        grind
theorem GivL.nonneg (h : GivL v L a) (hL : EsOk vs cs L D) : ∀ t ∈ a, 0 ≤ t.x := by
  obtain ⟨N, _, _, hd⟩ := h.den hL
  exact fun t ht => (hd t ht).1
theorem ShR.ids {l : List Sh} (h : ShR L vs l) : ∀ t ∈ l, ∃ u ∈ vs, t.v = u.id := by
  induction vs generalizing l with
  | nil => intro t ht; rw [show l = [] from h] at ht; cases ht
  | cons u us ih =>
    obtain ⟨x, y, rfl, hx, hy⟩ := h
    intro t ht
    rcases List.mem_append.1 ht with ht | ht
    · exact ⟨u, List.mem_cons_self, hx.1 t ht⟩
    · obtain ⟨w, hw, e⟩ := ih hy t ht
      exact ⟨w, List.mem_cons_of_mem _ hw, e⟩
/-- A voter's shares among all. -/
theorem ShR.mine {l : List Sh} (h : ShR L vs l) (hd : vs.Pairwise fun u w => u.id ≠ w.id) (hv : v ∈ vs) : GivL v L (l.filter fun t => decide (t.v = v.id)) := by
  induction vs generalizing l with
  | nil => cases hv
  | cons u us ih =>
    obtain ⟨x, y, rfl, hx, hy⟩ := h
    rw [List.pairwise_cons] at hd
    rw [List.filter_append]
    rcases List.mem_cons.1 hv with rfl | hv
    · have h1 : x.filter (fun t => decide (t.v = v.id)) = x := List.filter_eq_self.2 fun t ht => decide_eq_true (hx.1 t ht)
      have h2 : y.filter (fun t => decide (t.v = v.id)) = [] := List.filter_eq_nil_iff.2 fun t ht => by
        obtain ⟨w, hw, e⟩ := hy.ids t ht
        have := hd.1 w hw
        simp; omega
      rw [h1, h2, List.append_nil]; exact hx
    · have h1 : x.filter (fun t => decide (t.v = v.id)) = [] := List.filter_eq_nil_iff.2 fun t ht => by
        have e := hx.1 t ht
        have := hd.1 v hv
        simp; omega
      rw [h1, List.nil_append]; exact ih hy hd.2 hv
/-- What a voter gives by the first shares. -/
def ownQ (i : Int) (l : List Sh) : List Rat := (l.filter fun t => decide (t.v = i)).map Sh.x
theorem ownQ_take_succ {l : List Sh} {k : Nat} {s : Sh} (h : l[k]? = some s) (i : Int) : ownQ i (l.take (k + 1)) = ownQ i (l.take k) ++ if s.v = i then [s.x] else [] := by
  unfold ownQ
  rw [List.take_add_one, h, List.filter_append, List.map_append]
  congr 1
  show ([s].filter _).map _ = _
  by_cases e : s.v = i <;> simp [e]
theorem sumR_nonneg (xs : List Rat) (h : ∀ x ∈ xs, 0 ≤ x) : 0 ≤ sumR xs := by
  induction xs with
  | nil => simp [sumR]
  | cons x xs ih =>
    have := h x List.mem_cons_self
    have := ih fun y hy => h y (List.mem_cons_of_mem _ hy)
    show 0 ≤ x + sumR xs
    grind
theorem sumR_den {N : Nat} (xs : List Rat) (h : ∀ x ∈ xs, Den N x) : Den N (sumR xs) := by
  induction xs with
  | nil => exact Den.zero
  | cons x xs ih => exact Den.add (h x List.mem_cons_self) (ih fun y hy => h y (List.mem_cons_of_mem _ hy))
theorem own_sm {l : List Sh} (h : ShR L vs l) (hd : vs.Pairwise fun u w => u.id ≠ w.id) (hv : v ∈ vs) (hst : v.st < 18446744073709551616) (hL : EsOk vs cs L D) (k : Nat) : Sm (sumR (ownQ v.id (l.take k))) ∧ ∀ t ∈ l, t.v = v.id → Sm t.x := by
  have hg := h.mine hd hv
  obtain ⟨N, hN0, hN, hden⟩ := hg.den hL
  have hp : (18446744073709551616 : Nat) = pw 2 := rfl
  have hle : ∀ k, Den N (sumR (ownQ v.id (l.take k))) ∧ sumR (ownQ v.id (l.take k)) ≤ (v.st : Rat) := fun k => by
    have hsub : ∀ x ∈ ownQ v.id (l.take k), Den N x := fun x hx => by
      unfold ownQ at hx
      obtain ⟨t, ht, rfl⟩ := List.mem_map.1 hx
      obtain ⟨h1, h2⟩ := List.mem_filter.1 ht
      exact hden t (List.mem_filter.2 ⟨List.mem_of_mem_take h1, h2⟩)
    refine ⟨sumR_den _ hsub, ?_⟩
    have hsplit : ownQ v.id l = ownQ v.id (l.take k) ++ ownQ v.id (l.drop k) := by
      unfold ownQ
      rw [← List.map_append, ← List.filter_append, List.take_append_drop]
    have h2 : 0 ≤ sumR (ownQ v.id (l.drop k)) := sumR_nonneg _ fun x hx => by
      unfold ownQ at hx
      obtain ⟨t, ht, rfl⟩ := List.mem_map.1 hx
      obtain ⟨h1, h2⟩ := List.mem_filter.1 ht
      exact (hden t (List.mem_filter.2 ⟨List.mem_of_mem_drop h1, h2⟩)).1
    have h3 : sumR (ownQ v.id l) ≤ (v.st : Rat) := by
      by_cases he : l.filter (fun t => decide (t.v = v.id)) = []
      · unfold ownQ; rw [he]; exact st_nonneg _
      · have := hg.sum hL he
        unfold ownQ; rw [this]; exact Rat.le_refl
    rw [hsplit, sumR_append] at h3
    grind
  refine ⟨(hle k).1.sm hN0 17 2 hN v.st (hle k).2 (by omega) (by omega), fun t ht he => ?_⟩
  have hm : t ∈ l.filter fun t => decide (t.v = v.id) := List.mem_filter.2 ⟨ht, decide_eq_true he⟩
  refine (hden t hm).sm hN0 17 2 hN v.st ?_ (by omega) (by omega)
  have h3 := hg.sum hL (List.ne_nil_of_mem hm)
  rw [← h3]
  have key : ∀ (b : List Sh), (∀ s ∈ b, 0 ≤ s.x) → t ∈ b → t.x ≤ sumR (b.map Sh.x) := fun b hb hb2 => by
    induction b with
    | nil => cases hb2
    | cons s b ih =>
      have h4 := sumR_nonneg (b.map Sh.x) fun x hx => by
        obtain ⟨u, hu, rfl⟩ := List.mem_map.1 hx
        exact hb u (List.mem_cons_of_mem _ hu)
      have h5 := hb s List.mem_cons_self
      show t.x ≤ s.x + sumR (b.map Sh.x)
      rcases List.mem_cons.1 hb2 with rfl | hb2
      · grind
      · have := ih (fun u hu => hb u (List.mem_cons_of_mem _ hu)) hb2
        grind
  exact key _ (hg.nonneg hL) hm
/-- In the end it has given its stake, if it gives anything. -/
theorem own_all {l : List Sh} (h : ShR L vs l) (hd : vs.Pairwise fun u w => u.id ≠ w.id) (hv : v ∈ vs) (hL : EsOk vs cs L D) (hs : ∃ t ∈ l, t.v = v.id) : sumR (ownQ v.id l) = (v.st : Rat) := by
  obtain ⟨t, ht, he⟩ := hs
  exact (h.mine hd hv).sum hL (List.ne_nil_of_mem (List.mem_filter.2 ⟨ht, decide_eq_true he⟩))
theorem own_some {l : List Sh} (h : ShR L vs l) (hd : vs.Pairwise fun u w => u.id ≠ w.id) (hv : v ∈ vs) (hs : ∃ e ∈ L, apv v e.1 = true) : ∃ t ∈ l, t.v = v.id := by
  obtain ⟨e, he, ha⟩ := hs
  have hg := h.mine hd hv
  cases hc : l.filter fun t => decide (t.v = v.id) with
  | nil =>
    rw [hc] at hg
    exact absurd ha ((hg.nil_iff.1 rfl) e he)
  | cons t ts =>
    have : t ∈ l.filter fun t => decide (t.v = v.id) := by rw [hc]; exact List.mem_cons_self
    exact ⟨t, (List.mem_filter.1 this).1, of_decide_eq_true (List.mem_filter.1 this).2⟩
def Sh.out (t : Sh) : Int × Int × Rat := (t.v, t.c, t.x)
theorem GivL.uniq {b : List Sh} (h : GivL v L a) (h' : GivL v L b) (hn : (L.map Prod.fst).Nodup) : a.map Sh.out = b.map Sh.out := by
  have e1 : (a.map fun t => (t.c, t.x)) = b.map fun t => (t.c, t.x) := by
    have hp := h.2.1.trans h'.2.1.symm
    have hnd : ((a.map fun t => (t.c, t.x)).map Prod.fst).Nodup := by
      refine (h.2.1.map Prod.fst).symm.nodup ?_
      have : (wts v L).map Prod.fst = (edg v L 0).map Prod.fst := by unfold wts; rw [List.map_map]; rfl
      rw [this, edg_cand]
      exact hn.filter _
    refine List.Perm.eq_of_pairwise (le := fun s t : Int × Rat => s.1 ≤ t.1) (fun s t hs ht h1 h2 => ?_) (List.pairwise_map.2 h.2.2) (List.pairwise_map.2 h'.2.2) hp
    have he : s.1 = t.1 := by omega
    have ht' : t ∈ a.map fun t => (t.c, t.x) := hp.symm.subset ht
    have key : ∀ (l : List (Int × Rat)), (l.map Prod.fst).Nodup → s ∈ l → t ∈ l → s = t := fun l hl k1 k2 => by
      induction l with
      | nil => cases k1
      | cons x l ih =>
        rw [List.map_cons, List.nodup_cons] at hl
        rcases List.mem_cons.1 k1 with e1 | e1 <;> rcases List.mem_cons.1 k2 with e2 | e2
        · rw [e1, e2]
        · exact absurd (by rw [← e1, he]; exact List.mem_map_of_mem e2) hl.1
        · exact absurd (by rw [← e2, ← he]; exact List.mem_map_of_mem e1) hl.1
        · exact ih hl.2 e1 e2
    exact key _ hnd hs ht'
  have e2 : ∀ (l : List Sh), (∀ t ∈ l, t.v = v.id) → l.map Sh.out = (l.map fun t => (t.c, t.x)).map fun p => (v.id, p.1, p.2) := fun l hl => by
    rw [List.map_map]
    exact List.map_congr_left fun t ht => by show (t.v, t.c, t.x) = _; rw [hl t ht]; rfl
  rw [e2 a h.1, e2 b h'.1, e1]
theorem ShR.uniq {l k : List Sh} (h : ShR L vs l) (h' : ShR L vs k) (hn : (L.map Prod.fst).Nodup) : l.map Sh.out = k.map Sh.out := by
  induction vs generalizing l k with
  | nil => rw [show l = [] from h, show k = [] from h']
  | cons u us ih =>
    obtain ⟨x, y, rfl, hx, hy⟩ := h
    obtain ⟨x', y', rfl, hx', hy'⟩ := h'
    rw [List.map_append, List.map_append, hx.uniq hx' hn, ih hy hy']
end
end Go.Proofs.YtehekjlakegkpaaGreat
end
section
namespace Go.Proofs.YtehekjlakegkpaaGreat
open Go.RowKit
set_option linter.unusedVariables false

theorem wake_fd (a : Option Addr) : Fd [⟨1, 5, a, 1, 1, [2]⟩] [2] := by
  refine ⟨by show 1 ≤ 32; omega, by decide, fun v hv => ?_, by show 5 + 0 < 18446744073709551616; omega, fun v hv => ?_, by simp [idl]⟩
  · obtain rfl := List.mem_singleton.1 hv; show Asc 8 [2]; decide
  · obtain rfl := List.mem_singleton.1 hv; exact ⟨by show (0 : Int) ≤ 1; omega, by show (1 : Int) ≤ 2147483647; omega⟩
theorem wake_sup (a : Option Addr) : supR [⟨1, 5, a, 1, 1, [2]⟩] [2] = [2] := by
  rw [supR_eq (wake_fd a)]
  rfl
set_option maxRecDepth 100000 in
set_option maxHeartbeats 3200000 in
theorem wakeP_any (w : World) : Calls Tryz.prog 10 #[] w (OutF w true) := by
  have hE := fun s W g1 g2 => elect_ok s 1 W g1 g2 (by omega)
  have HE := Lib.hid hE
  clear hE
  have hb1 : Below w.heap.size w (w.alloc (.cells #[.int .i64 2] 3)) := (Below.refl _ _).alloc (Nat.le_refl _) _
  have hk1 := KB.new w 3 #[.int .i64 2]
  have hs1 : (w.alloc (.cells #[.int .i64 2] 3)).heap.size = w.heap.size + 1 := by simp
  go_enter Tryz.func10, Tryz.ntmps10
  go_wp2_with fail
  generalize (w.alloc (.cells #[.int .i64 2] 3)) = w1 at *
  have hb2 := hb1.alloc hb1.size (.cells #[.int .i64 1, .int .u64 5, .slice (some ⟨w.heap.size, 0, none⟩) 1 1] 43)
  have hk2 := KB.new w1 43 #[.int .i64 1, .int .u64 5, .slice (some ⟨w.heap.size, 0, none⟩) 1 1]
  have hk12 := hk1.alloc (.cells #[.int .i64 1, .int .u64 5, .slice (some ⟨w.heap.size, 0, none⟩) 1 1] 43)
  have hs2 : (w1.alloc (.cells #[.int .i64 1, .int .u64 5, .slice (some ⟨w.heap.size, 0, none⟩) 1 1] 43)).heap.size = w1.heap.size + 1 := by simp
  generalize (w1.alloc (.cells #[.int .i64 1, .int .u64 5, .slice (some ⟨w.heap.size, 0, none⟩) 1 1] 43)) = w2 at *
  have hb3 := hb2.alloc hb2.size (.cells #[.int .i64 2] 3)
  have hk3 := KB.new w2 3 #[.int .i64 2]
  have hk13 := hk12.alloc (.cells #[.int .i64 2] 3)
  have hk23 := hk2.alloc (.cells #[.int .i64 2] 3)
  generalize (w2.alloc (.cells #[.int .i64 2] 3)) = w3 at *
  have c1 := hk13.cell 0
  have c20 := hk23.cell 0
  have c21 := hk23.cell 1
  have c22 := hk23.cell 2
  have c3 := hk3.cell 0
  simp at c1 c20 c21 c22 c3
  have hin : Sn.In w3 ⟨some ⟨w1.heap.size, 0, none⟩, 1, 1, some ⟨w2.heap.size, 0, none⟩, 1, 1, [⟨1, 5, some ⟨w.heap.size, 0, none⟩, 1, 1, [2]⟩], [2]⟩ := by
    refine ⟨⟨rfl, Nat.le_refl _, by show 1 ≤ 9223372036854775807; omega, fun v hv => ?_, fun _ => ⟨w1.heap.size, 0, rfl, hk23.lt, fun j v hj => ?_⟩⟩, ⟨rfl, Nat.le_refl _, by show 1 ≤ 9223372036854775807; omega, fun z hz => ?_, fun _ => ⟨w2.heap.size, 0, rfl, hk3.lt, fun j hj => ?_⟩⟩⟩
    · obtain rfl := List.mem_singleton.1 hv
      refine ⟨⟨by show 5 < 18446744073709551616; omega, by show (-9223372036854775808 : Int) ≤ 1; omega, by show (1 : Int) ≤ 9223372036854775807; omega⟩, ⟨rfl, Nat.le_refl _, by show 1 ≤ 9223372036854775807; omega, fun z hz => ?_, fun _ => ⟨w.heap.size, 0, rfl, hk13.lt, fun j hj => ?_⟩⟩⟩
      · obtain rfl := List.mem_singleton.1 hz; omega
      · obtain rfl : j = 0 := by dsimp only at hj; omega
        exact c1
    · rcases Nat.eq_zero_or_pos j with e | e
      · subst e; simp at hj; subst hj; exact ⟨c20, c21, c22⟩
      · rw [List.getElem?_eq_none (by simp; omega)] at hj; cases hj
    · obtain rfl := List.mem_singleton.1 hz; omega
    · obtain rfl : j = 0 := by dsimp only at hj; omega
      exact c3
  have hEl := HE.out _ w3 hin (wake_fd _)
  have HB3 := Lib.hid hb3
  clear hin c1 c20 c21 c22 c3 hk1 hk12 hk13 hk2 hk23 hk3 hb1 hb2 hb3 HE
  unfold Sn.val at hEl
  dsimp only at hEl
  rw [hs2, hs1, show ((1 : Nat) : Int) = 1 from rfl] at hEl
  refine hEl.mono ?_
  rintro e w4 ⟨A, c, es, B, d, ss, rfl, hown, hrx, heq, hAl, hSR, hb4⟩
  dsimp only at heq
  rw [wake_sup] at heq
  obtain ⟨⟨D, hok⟩, hlen⟩ := esOk_of (vs := [⟨1, 5, some ⟨w.heap.size, 0, none⟩, 1, 1, [2]⟩]) (cs := [2]) (k := 1) (wake_fd _) (by omega) (by rw [wake_sup]; exact Nat.le_refl _)
  rw [wake_sup] at hok hlen
  have hmem := hok.mem
  rw [wake_sup] at hmem
  change es.map Se.out = ((rc0 _ [2]).run 1).es at heq
  rw [← heq] at hlen hmem
  rw [List.length_map] at hlen
  obtain ⟨x, rfl⟩ : ∃ x, es = [x] := List.length_eq_one_iff.1 hlen
  have hcd : x.cd = 2 := by
    have := hmem x.out (by simp)
    simpa [Se.out] using this
  obtain ⟨b, rfl, hb, z0, z1, z2⟩ := (seIn_of hown hrx).at_ 0 x rfl
  rw [hcd] at z0
  simp only [Nat.zero_mul] at z0
  have HBF := Lib.hid (HB3.out.trans (hb4.mono HB3.out.size))
  clear hown hrx heq hAl hSR hb4 hok hlen hmem hcd z1 z2
  go_wp2
  go_ret
  exact ⟨rfl, HBF.out⟩
end Go.Proofs.YtehekjlakegkpaaGreat
end
section
namespace Go.Proofs.YtehekjlakegkpaaGreat
open Go.RowKit

theorem digs_two' : digs 2 = [2] := by rw [digs_pos (by omega)]; simp [digs_zero]
theorem digs_three : digs 3 = [3] := by rw [digs_pos (by omega)]; simp [digs_zero]
theorem mk_awake : mkR (digs 6) (digs 4) = ([3], [2], 0) := by
  rw [mkR_digs (Nat.le_trans (len64 (by omega)) (by omega)) (Nat.le_trans (len64 (by omega)) (by omega)) (by omega)]
  have e : Nat.gcd 6 4 = 2 := by decide
  rw [e, show 6 / 2 = 3 from rfl, show 4 / 2 = 2 from rfl, digs_two', digs_three]

set_option maxHeartbeats 800000 in
/-- Theirs. -/
theorem theirs_any (A B : Option Addr) (n c m d : Nat) (w : World) :
    Calls Tryz.prog 60 #[.agg #[.slice A n c, .slice B m d]] w fun e w' => e = .returned (.agg #[.slice A n c, .slice B m d]) ∧ Below w.heap.size w w' := by
  obtain ⟨hB1, hB2, hb0, hs0⟩ := boxes2 w 52 38 (.slice A n c) (.slice B m d) (.slice A n c) (.slice B m d)
  clear hB1 hB2 hs0
  go_enter Tryz.func60, Tryz.ntmps60
  go_wp2
  refine bodyPost_ret (v := .agg #[.slice A n c, .slice B m d]) (by simp [results, Tryz.results60, go_sem]) rfl ?_
  exact ⟨rfl, hb0⟩
set_option maxHeartbeats 800000 in
/-- Ours. -/
theorem ours_any (A B : Option Addr) (n c m d : Nat) (w : World) :
    Calls Tryz.prog 51 #[.agg #[.slice A n c, .slice B m d]] w fun e w' => e = .returned (.agg #[.slice A n c, .slice B m d]) ∧ Below w.heap.size w w' := by
  obtain ⟨hB1, hB2, hb0, hs0⟩ := boxes2 w 38 52 (.slice A n c) (.slice B m d) (.slice A n c) (.slice B m d)
  clear hB1 hB2 hs0
  go_enter Tryz.func51, Tryz.ntmps51
  go_wp2
  refine bodyPost_ret (v := .agg #[.slice A n c, .slice B m d]) (by simp [results, Tryz.results51, go_sem]) rfl ?_
  exact ⟨rfl, hb0⟩

section
variable (A B C D : Option Addr) (n c m d n' c' m' d' : Nat) (xs ys : List Nat) (w : World)
set_option maxHeartbeats 1600000 in
/-- Same, of fractions that read alike. -/
theorem same2_yes (ha : Rd w A n c xs) (hb : Rd w B m d ys) (hc : Rd w C n' c' xs) (hd : Rd w D m' d' ys) :
    Calls Tryz.prog 18 #[.agg #[.slice A n c, .slice B m d], .agg #[.slice C n' c', .slice D m' d']] w fun e w' => e = .returned (.bool true) ∧ Below w.heap.size w w' := by
  obtain ⟨hB1, hB2, hb0, hs0⟩ := boxes2 w 38 52 (.slice A n c) (.slice B m d) (.slice C n' c') (.slice D m' d')
  go_enter Tryz.func18, Tryz.ntmps18
  go_wp2
  generalize (w.alloc (Obj.cells #[Value.slice A n c, Value.slice B m d] 38)).alloc (Obj.cells #[Value.slice C n' c', Value.slice D m' d'] 52) = W0 at *
  have hlt := hB2.lt
  have K0 : W0.cell? ⟨w.heap.size, 0, none⟩ = some (.slice A n c) ∧ W0.cell? ⟨w.heap.size, 1, none⟩ = some (.slice B m d) ∧ W0.cell? ⟨w.heap.size + 1, 0, none⟩ = some (.slice C n' c') ∧ W0.cell? ⟨w.heap.size + 1, 1, none⟩ = some (.slice D m' d') := ⟨hB1.cells.1, hB1.cells.2, hB2.cells.1, hB2.cells.2⟩
  have haW := ha.below hb0
  have hbW := hb.below hb0
  have hcW := hc.below hb0
  have hdW := hd.below hb0
  go_region_held3 (fun W => W.cell? ⟨w.heap.size, 0, none⟩ = some (.slice A n c) ∧ W.cell? ⟨w.heap.size, 1, none⟩ = some (.slice B m d) ∧ W.cell? ⟨w.heap.size + 1, 0, none⟩ = some (.slice C n' c') ∧ W.cell? ⟨w.heap.size + 1, 1, none⟩ = some (.slice D m' d'))
    (first | exact K0 | exact K1 | exact K2)
    (first
      | (go_at_call 51; (with_reducible refine (ours_any _ _ _ _ _ _ _).mono ?_); rintro e w1 ⟨rfl, hb1⟩; have hb1' : Below W0.heap.size W0 w1 := ⟨hb1.os, hb1.tape, hb1.output, hb1.size, hb1.block⟩; have K1 : w1.cell? ⟨w.heap.size, 0, none⟩ = some (.slice A n c) ∧ w1.cell? ⟨w.heap.size, 1, none⟩ = some (.slice B m d) ∧ w1.cell? ⟨w.heap.size + 1, 0, none⟩ = some (.slice C n' c') ∧ w1.cell? ⟨w.heap.size + 1, 1, none⟩ = some (.slice D m' d') := ⟨(hB1.below hb1' (by omega)).cells.1, (hB1.below hb1' (by omega)).cells.2, (hB2.below hb1' (by omega)).cells.1, (hB2.below hb1' (by omega)).cells.2⟩)
      | (go_at_call 50; (with_reducible refine (sameR_yes _ _ _ _ _ _ _ _ _ _ _ _ xs ys _ ?_ ?_ ?_ ?_).mono ?_); exact haW.below hb1'; exact hbW.below hb1'; exact hcW.below hb1'; exact hdW.below hb1'; rintro e w2 ⟨rfl, hb2⟩; have K2 : w2.cell? ⟨w.heap.size, 0, none⟩ = some (.slice A n c) ∧ w2.cell? ⟨w.heap.size, 1, none⟩ = some (.slice B m d) ∧ w2.cell? ⟨w.heap.size + 1, 0, none⟩ = some (.slice C n' c') ∧ w2.cell? ⟨w.heap.size + 1, 1, none⟩ = some (.slice D m' d') := ⟨((hB1.below hb1' (by omega)).below hb2 (by have := hb1'.size; omega)).cells.1, ((hB1.below hb1' (by omega)).below hb2 (by have := hb1'.size; omega)).cells.2, ((hB2.below hb1' (by omega)).below hb2 (by have := hb1'.size; omega)).cells.1, ((hB2.below hb1' (by omega)).below hb2 (by have := hb1'.size; omega)).cells.2⟩))
  all_goals
    have HF := Lib.hid ((hb0.trans (hb1'.mono hb0.size)).trans (hb2.mono (Nat.le_trans hb0.size hb1'.size)))
    go_wp2
    go_ret
    exact ⟨rfl, HF.out⟩
end
section
variable (A B C D : Option Addr) (n c m d n' c' m' d' : Nat) (w : World)
theorem Few1_cells : ∀ j, j < 1 → ∃ A' c₁ B' d₁, (w.alloc (.cells #[.slice A n c, .slice B m d] 52)).cell? ⟨w.heap.size, j * 2, none⟩ = some (.slice A' n c₁) ∧ (w.alloc (.cells #[.slice A n c, .slice B m d] 52)).cell? ⟨w.heap.size, j * 2 + 1, none⟩ = some (.slice B' m d₁) := fun j hj => by
  obtain rfl : j = 0 := by omega
  exact ⟨A, c, B, d, cell_of_row _ _ 0 _ _ (0, 0) (heap_alloc_new w _), cell_of_row _ _ 1 _ _ (0, 0) (heap_alloc_new w _)⟩
theorem Few2_cells : ∀ j, j < 2 → ∃ A' c₁ B' d₁, (w.alloc (.cells #[.slice A n c, .slice B m d, .slice C n' c', .slice D m' d'] 52)).cell? ⟨w.heap.size, j * 2, none⟩ = some (.slice A' (if j = 0 then n else n') c₁) ∧
    (w.alloc (.cells #[.slice A n c, .slice B m d, .slice C n' c', .slice D m' d'] 52)).cell? ⟨w.heap.size, j * 2 + 1, none⟩ = some (.slice B' (if j = 0 then m else m') d₁) := fun j hj => by
  match j, hj with
  | 0, _ => exact ⟨A, c, B, d, cell_of_row _ _ 0 _ _ (0, 0) (heap_alloc_new w _), cell_of_row _ _ 1 _ _ (0, 0) (heap_alloc_new w _)⟩
  | 1, _ => exact ⟨C, c', D, d', cell_of_row _ _ 2 _ _ (0, 0) (heap_alloc_new w _), cell_of_row _ _ 3 _ _ (0, 0) (heap_alloc_new w _)⟩
end
end Go.Proofs.YtehekjlakegkpaaGreat
end
