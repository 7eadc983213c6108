/-
  Words for fractions in memory (a block that holds two slices; what a call that makes a fraction answers), and what ratio.isZero, isOne and reduced do. For naturals of at most 400 limbs that can be read; the denominator is not 0.
-/
import Derived.Test.YteicihaigkgbnaaGcd
import Derived.Test.YteicihaigkgbnaaNatDiv
import Derived.Test.YteicihaigkgbnaaAwake
namespace Go.Proofs.Yteicihaigkgbnaa
open Go.RowKit

/-- Block g holds two values, and may be written. -/
def Bs (w : World) (T : TypeId) (g : Nat) (u v : Value) : Prop := w.heap[g]? = some (.cells #[u, v] T (0, 0))
section
variable {w w' : World} {T : TypeId} {g : Nat} {u v : Value}
theorem Bs.cells (h : Bs w T g u v) : w.cell? ⟨g, 0, none⟩ = some u ∧ w.cell? ⟨g, 1, none⟩ = some v := ⟨cell_of_row w g 0 _ T (0, 0) h, cell_of_row w g 1 _ T (0, 0) h⟩
theorem Bs.frozen (h : Bs w T g u v) (i : Nat) : w.frozen? ⟨g, i, none⟩ = false := by
  unfold Bs at h
  simp [World.frozen?, h]
theorem Bs.lt (h : Bs w T g u v) : g < w.heap.size := by
  rcases Nat.lt_or_ge g w.heap.size with hlt | hge
  · exact hlt
  · unfold Bs at h; rw [Array.getElem?_eq_none hge] at h; cases h
theorem Bs.new (w : World) (T : TypeId) (u v : Value) : Bs (w.alloc (.cells #[u, v] T)) T w.heap.size u v := heap_alloc_new w _
theorem Bs.alloc (h : Bs w T g u v) (o : Obj) : Bs (w.alloc o) T g u v := (Below.heap_alloc w o g h.lt).trans h
theorem Bs.drewN (h : Bs w T g u v) (k : Nat) : Bs (w.drewN k) T g u v := h
theorem Bs.drew (h : Bs w T g u v) : Bs w.drew T g u v := h
theorem Bs.below {B : Nat} (h : Bs w T g u v) (hb : Below B w w') (hg : g < B) : Bs w' T g u v := (hb.block g hg).trans h
theorem Bs.far (h : Bs w T g u v) {p : Addr} (hp : g ≠ p.block) (x : Value) : Bs (w.setCell p x) T g u v := (Below.heap_setCell w p x g hp).trans h
theorem Bs.set0 (h : Bs w T g u v) (x : Value) : Bs (w.setCell ⟨g, 0, none⟩ x) T g x v := by
  unfold Bs at h ⊢; simp [World.setCell, Array.getElem?_modify, h]
theorem Bs.set1 (h : Bs w T g u v) (x : Value) : Bs (w.setCell ⟨g, 1, none⟩ x) T g u x := by
  unfold Bs at h ⊢; simp [World.setCell, Array.getElem?_modify, h]
end
/-- The world in which block g's two values have been stored. -/
def put2 (w : World) (g : Nat) (u v : Value) : World := (w.setCell ⟨g, 0, none⟩ u).setCell ⟨g, 1, none⟩ v
theorem put2_bs {w : World} {T : TypeId} {g : Nat} {u v x y : Value} (h : Bs w T g x y) : Bs (put2 w g u v) T g u v := (h.set0 u).set1 v
theorem put2_below {w w' : World} {B g : Nat} {u v : Value} (h : Below B w w') (hg : B ≤ g) : Below B w (put2 w' g u v) := (h.setCell (p := ⟨g, 0, none⟩) hg u).setCell (p := ⟨g, 1, none⟩) hg v
theorem put2_self {w : World} {B g : Nat} {u v : Value} (hg : B ≤ g) : Below B w (put2 w g u v) := put2_below (Below.refl _ _) hg
theorem Nw.put2 {w : World} {lo n c g : Nat} {A : Option Addr} {xs : List Nat} {u v : Value} (h : Nw w lo A n c xs) (hg : g < lo) : Nw (put2 w g u v) lo A n c xs := (h.far hg 0 u).far hg 1 v
theorem Rd.put2 {w : World} {n c g : Nat} {A : Option Addr} {xs : List Nat} {u v : Value} (h : Rd w A n c xs) (hg : ∀ b o, A = some ⟨b, o, none⟩ → b ≠ g) : Rd (put2 w g u v) A n c xs :=
  ⟨h.1, h.2.1, h.2.2.1, h.2.2.2.1, fun hn => by
    obtain ⟨b, o, e, hb, hc⟩ := h.at_ hn
    refine ⟨b, o, e, by simpa [Proofs.Yteicihaigkgbnaa.put2, World.setCell] using hb, fun j hj => ?_⟩
    have hne := hg b o e
    show ((w.setCell ⟨g, 0, none⟩ u).setCell ⟨g, 1, none⟩ v).cell? ⟨b, o + j, none⟩ = _
    rw [World.cell?_setCell_other _ _ _ _ (by intro e; injection e with e _ _; exact hne e.symm), World.cell?_setCell_other _ _ _ _ (by intro e; injection e with e _ _; exact hne e.symm)]
    exact hc j hj⟩
/-- The end of a call that makes a fraction. -/
def OutR (w : World) (xs ys : List Nat) (e : Ending) (w' : World) : Prop :=
  ∃ A n c B m d, e = .returned (.agg #[.slice A n c, .slice B m d]) ∧ Nw w' w.heap.size A n c xs ∧ Nw w' w.heap.size B m d ys ∧ Below w.heap.size w w'
/-- The end of a call that makes a fraction and an error number. -/
def OutR2 (w : World) (xs ys : List Nat) (k : Int) (e : Ending) (w' : World) : Prop :=
  ∃ A n c B m d, e = .returned (.tuple #[.agg #[.slice A n c, .slice B m d], .int .i64 k]) ∧ Nw w' w.heap.size A n c xs ∧ Nw w' w.heap.size B m d ys ∧ Below w.heap.size w w'
theorem outR_end {w w3 : World} {g lo n c m d : Nat} {A B : Option Addr} {xs ys : List Nat} (hA : Nw w3 lo A n c xs) (hB : Nw w3 lo B m d ys) (hb : Below w.heap.size w w3) (hg : w.heap.size ≤ g) (hlo : g < lo) :
    OutR w xs ys (.returned (.agg #[.slice A n c, .slice B m d])) (put2 w3 g (.slice A n c) (.slice B m d)) :=
  ⟨_, _, _, _, _, _, rfl, (hA.put2 hlo).mono (by omega), (hB.put2 hlo).mono (by omega), put2_below hb hg⟩
theorem outR2_end {w w3 : World} {g lo n c m d : Nat} {A B : Option Addr} {xs ys : List Nat} (k : Int) (hA : Nw w3 lo A n c xs) (hB : Nw w3 lo B m d ys) (hb : Below w.heap.size w w3) (hg : w.heap.size ≤ g) (hlo : g < lo) :
    OutR2 w xs ys k (.returned (.tuple #[.agg #[.slice A n c, .slice B m d], .int .i64 k])) (put2 w3 g (.slice A n c) (.slice B m d)) :=
  ⟨_, _, _, _, _, _, rfl, (hA.put2 hlo).mono (by omega), (hB.put2 hlo).mono (by omega), put2_below hb hg⟩

theorem gcd_nat (A B : Option Addr) (n c m d a b : Nat) (w : World) (ha : Rd w A n c (digs a)) (hb : Rd w B m d (digs b)) (la : (digs a).length ≤ 400) (lb : (digs b).length ≤ 400) :
    Calls Try.prog 42 #[.slice A n c, .slice B m d] w (Out2 w (digs (Nat.gcd a b)) 0) := by
  have := gcd_yes A B n c m d (digs a) (digs b) w ha hb (fm_digs la) (fm_digs lb)
  rw [val_digs, val_digs] at this; exact this

set_option maxHeartbeats 400000 in
theorem isZero_yes (A : Option Addr) (c : Nat) (w : World) :
    Calls Try.prog 35 #[.slice A 0 c] w fun e w' => e = .returned (.bool true) ∧ w = w' := by
  go_enter Try.func35, Try.ntmps35
  go_wp2
  go_ret
  exact ⟨rfl, rfl⟩
set_option maxHeartbeats 400000 in
theorem isZero_no (A : Option Addr) (n c : Nat) (w : World) (h : n ≠ 0) :
    Calls Try.prog 35 #[.slice A n c] w fun e w' => e = .returned (.bool false) ∧ w = w' := by
  have h1 : ((n : Int) == 0) = false := by simp; omega
  go_enter Try.func35, Try.ntmps35
  go_wp2
  go_ret
  exact ⟨rfl, rfl⟩
set_option maxHeartbeats 400000 in
theorem isOne_yes (A : Option Addr) (n c : Nat) (w : World) (h : Rd w A n c (digs 1)) :
    Calls Try.prog 43 #[.slice A n c] w fun e w' => e = .returned (.bool true) ∧ w = w' := by
  have hl := h.len
  have hd : digs 1 = [1] := digs_one
  rw [hd] at h hl
  have hn : n = 1 := hl.symm
  subst hn
  obtain ⟨b, o, rfl, hbb, hc⟩ := h.at_ (by omega)
  have hc0 := hc 0 (by omega)
  have he : el [1] 0 = 1 := rfl
  rw [he, Nat.add_zero] at hc0
  clear hc h hl hd he
  go_enter Try.func43, Try.ntmps43
  go_wp2
  go_ret
  exact ⟨rfl, rfl⟩
set_option maxHeartbeats 400000 in
theorem isOne_no (A : Option Addr) (n c g : Nat) (w : World) (h : Rd w A n c (digs g)) (hg : g ≠ 1) :
    Calls Try.prog 43 #[.slice A n c] w fun e w' => e = .returned (.bool false) ∧ w = w' := by
  by_cases hn : n = 1
  · subst hn
    have hl := h.len
    have h0 : g ≠ 0 := by
      intro h0; rw [h0, digs_zero] at hl; cases hl
    rw [digs_pos h0] at hl
    have hq : g / 4294967296 = 0 := len_digs_eq_zero.1 (by simpa using hl)
    have hlt : g < 4294967296 := by omega
    obtain ⟨b, o, rfl, hbb, hc⟩ := h.at_ (by omega)
    have hc0 := hc 0 (by omega)
    have he : el (digs g) 0 = g := by rw [digs_pos h0]; show g % 4294967296 = g; omega
    rw [he, Nat.add_zero] at hc0
    clear hc h hl he
    have h1 : ((g : Int) == 1) = false := by simp; omega
    go_enter Try.func43, Try.ntmps43
    go_wp2
    go_ret
    exact ⟨rfl, rfl⟩
  · have h1 : ((n : Int) == 1) = false := by simp; omega
    clear h
    go_enter Try.func43, Try.ntmps43
    go_wp2
    go_ret
    exact ⟨rfl, rfl⟩

set_option maxHeartbeats 1600000 in
/-- ratio.reduced. -/
theorem reduced_any (A B : Option Addr) (n c m d a b : Nat) (w : World) (ha : Rd w A n c (digs a)) (hb : Rd w B m d (digs b)) (la : (digs a).length ≤ 400) (lb : (digs b).length ≤ 400) (h : b ≠ 0) :
    Calls Try.prog 36 #[.slice A n c, .slice B m d] w (OutR w (digs (a / Nat.gcd a b)) (digs (b / Nat.gcd a b))) := by
  have hg : Nat.gcd a b ≠ 0 := fun e => h (Nat.gcd_eq_zero_iff.1 e).2
  have HG := Lib.hid hg
  have HL := Lib.hid (show (digs (Nat.gcd a b)).length ≤ 400 from Nat.le_trans (len_digs_mono (Nat.gcd_le_right a (by omega))) lb)
  have hB0 := Bs.new w 31 (.slice none 0 0) (.slice none 0 0)
  have hb0 : Below w.heap.size w (w.alloc (.cells #[.slice none 0 0, .slice none 0 0] 31)) := (Below.refl _ _).alloc (Nat.le_refl _) _
  go_enter Try.func36, Try.ntmps36
  go_wp2_with fail
  generalize w.alloc (Obj.cells #[Value.slice none 0 0, Value.slice none 0 0] 31) = W0 at *
  refine (gcd_nat _ _ _ _ _ _ a b _ (ha.below hb0) (hb.below hb0) la lb).mono ?_
  rintro e w1 ⟨A1, n1, c1, rfl, hN1, hb1⟩
  have hb01 := hb0.trans (hb1.mono hb0.size)
  have hB1 := hB0.below hb1 hB0.lt
  go_wp2_with fail
  refine (div_nat _ _ _ _ _ _ a (Nat.gcd a b) _ (ha.below hb01) hN1.1 la HL.out HG.out).mono ?_
  rintro e w2 ⟨A2, n2, c2, R2, rn2, rc2, rfl, hN2, _, hb2⟩
  have hb02 := hb01.trans (hb2.mono hb01.size)
  have hB2 := hB1.below hb2 hB1.lt
  have hN12 := hN1.below hb2
  go_wp2_with fail
  refine (div_nat _ _ _ _ _ _ b (Nat.gcd a b) _ (hb.below hb02) hN12.1 lb HL.out HG.out).mono ?_
  rintro e w3 ⟨A3, n3, c3, R3, rn3, rc3, rfl, hN3, _, hb3⟩
  have hb03 := hb02.trans (hb3.mono hb02.size)
  have hB3 := hB2.below hb3 hB2.lt
  have hlt := hB0.lt
  have hs1 := hb1.size
  have hs2 := hb2.size
  have hs3 := hb3.size
  have HF := Lib.hid (outR_end (g := w.heap.size) (lo := W0.heap.size) ((hN2.below hb3).mono hs1) (hN3.mono (Nat.le_trans hs1 hs2)) hb03 (Nat.le_refl _) hlt)
  obtain ⟨k0, k1⟩ := hB3.cells
  have f0 := hB3.frozen 0
  have f1 := hB3.frozen 1
  clear hB0 hB1 hB2 hB3 hN1 hN2 hN3 hN12 hb0 hb1 hb2 hb3 hb01 hb02 hb03
  go_wp2
  refine bodyPost_ret (v := .agg #[.slice A2 n2 c2, .slice A3 n3 c3]) (by simp [results, Try.results36, go_sem, k0, k1]) rfl ?_
  exact HF.out
end Go.Proofs.Yteicihaigkgbnaa
