/-
  What limb.commonDivisor does: the greatest common divisor of two naturals, by Euclid's algorithm in Lehmer's form. For naturals that can be read, of at most 400000 limbs.
-/
import Derived.Test.YteicihaigkgbnaaApplied
import Derived.Test.YteicihaigkgbnaaDivide
import Derived.Test.YteicihaigkgbnaaNats
import Derived.Test.YteicihaigkgbnaaLow
import Derived.Test.YteicihaigkgbnaaApp
import Derived.Deep.LoopGhost
namespace Go.Proofs.Yteicihaigkgbnaa
open Go.RowKit

/-- limb.multiples, of naturals. -/
theorem mult_nat (A B : Option Addr) (n c m d M K R x y : Nat) (w : World) (ha : Rd w A n c (digs x)) (hb : Rd w B m d (digs y)) (hn : n ≤ 900000) (hm : m ≤ 900000) (hM : M < 4294967296) (hK : K < 4294967296) (hR : R ≤ x ∨ R ≤ y) (hd : R + K * y = M * x) :
    Calls Try.prog 85 #[.slice A n c, .int .u64 M, .slice B m d, .int .u64 K] w (Out w (digs R)) := by
  have h1 := lt_pw_len x
  have h2 := lt_pw_len y
  rw [ha.len] at h1
  rw [hb.len] at h2
  by_cases h : n < m
  · have := pw_le (Nat.le_of_lt h)
    exact multiples_lt A B n c m d M K R _ _ w ha hb hm hM hK h (by omega) (by rw [val_digs, val_digs]; exact hd)
  · have := pw_le (Nat.le_of_not_lt h)
    exact multiples_ge A B n c m d M K R _ _ w ha hb hn hM hK h (by omega) (by rw [val_digs, val_digs]; exact hd)
/-- The steps' call, of naturals. -/
theorem applied_nat (A B : Option Addr) (n c m d a0 b0 a1 b1 R0 R1 x y : Nat) (ev : Bool) (w : World) (ha : Rd w A n c (digs x)) (hb : Rd w B m d (digs y)) (hn : n ≤ 900000) (hm : m ≤ 900000) (hP : Pkg x y a0 b0 a1 b1 R0 R1 ev) (h1 : 1 ≤ b1)
    (k1 : a0 < 4294967296) (k2 : b0 < 4294967296) (k3 : a1 < 4294967296) (k4 : b1 < 4294967296) :
    Calls Try.prog 75 #[.agg #[.int .u64 a0, .int .u64 b0, .int .u64 a1, .int .u64 b1, .bool ev], .slice A n c, .slice B m d] w (OutQ w R0 R1) := by
  have hle := hP.le h1
  obtain ⟨_, _, q3, _, qt, qf⟩ := hP
  cases ev with
  | true =>
    obtain ⟨_, e2, e3⟩ := qt rfl
    exact applied_t A B n c m d a0 b0 a1 b1 R0 R1 _ _ w ha hb (fun W g1 g2 => mult_nat A B n c m d a0 b0 R0 x y W g1 g2 hn hm k1 k2 (.inl hle) e2) (fun W g1 g2 => mult_nat B A m d n c b1 a1 R1 y x W g2 g1 hm hn k4 k3 (.inl q3) e3)
  | false =>
    obtain ⟨_, e2, e3⟩ := qf rfl
    exact applied_f A B n c m d a0 b0 a1 b1 R0 R1 _ _ w ha hb (fun W g1 g2 => mult_nat B A m d n c b0 a0 R0 y x W g2 g1 hm hn k2 k1 (.inr hle) e2) (fun W g1 g2 => mult_nat A B n c m d a1 b1 R1 x y W g1 g2 hn hm k3 k4 (.inr q3) e3)

/-- The loop: its second number is k. -/
def CdRel (w : World) (G k : Nat) (av bv : Value) (wr : World) : Prop :=
  ∃ (A B : Option Addr) (n c m d x : Nat), av = .slice A n c ∧ bv = .slice B m d ∧ Rd wr A n c (digs x) ∧ Rd wr B m d (digs k) ∧ k ≤ x ∧ n ≤ 400000 ∧ Hid (Nat.gcd x k = G) ∧ Below w.heap.size w wr
theorem CdRel.of {w wr : World} {G k n c m d x : Nat} {A B : Option Addr} (h1 : Rd wr A n c (digs x)) (h2 : Rd wr B m d (digs k)) (h3 : k ≤ x) (h4 : n ≤ 400000) (h5 : Nat.gcd x k = G) (h6 : Below w.heap.size w wr) :
    CdRel w G k (.slice A n c) (.slice B m d) wr := ⟨A, B, n, c, m, d, x, rfl, rfl, h1, h2, h3, h4, h5, h6⟩
theorem gcd_mod {x y G : Nat} (h : Nat.gcd x y = G) : Nat.gcd y (x % y) = G := by rw [Nat.gcd_comm, ← Nat.gcd_rec, Nat.gcd_comm]; exact h
theorem len_le_of {wr w' : World} {A A' : Option Addr} {n c n' c' x r : Nat} (h : Rd wr A n c (digs x)) (h' : Rd w' A' n' c' (digs r)) (hr : r ≤ x) (hn : n ≤ 400000) : n' ≤ 400000 := by
  have := len_digs_mono hr
  rw [h.len, h'.len] at this
  omega
theorem digs_two {r n c : Nat} {A : Option Addr} {w : World} (h : Rd w A n c (digs r)) (hn : n ≤ 2) : r < 18446744073709551616 := by
  have := lt_pw_len r
  rw [h.len] at this
  exact Nat.lt_of_lt_of_le this (pw_le hn)

set_option maxHeartbeats 3200000 in
theorem cd_ge (A B : Option Addr) (n c m d a b : Nat) (w : World) (ha : Rd w A n c (digs a)) (hb : Rd w B m d (digs b)) (hn : n ≤ 400000) (hlt : b ≤ a ∧ (decide (cmpN a b < 0)) = false) :
    Calls Try.prog 63 #[.slice A n c, .slice B m d] w (Out w (digs (Nat.gcd a b))) := by
  have HL := Lib.hid hlt
  clear hlt
  obtain ⟨G, hG⟩ : ∃ G, Nat.gcd a b = G := ⟨_, rfl⟩
  rw [hG]
  have HG := Lib.hid hG
  clear hG
  go_enter Try.func63, Try.ntmps63
  go_wp2_with fail
  refine (cmp_any _ _ _ _ _ _ (digs a) (digs b) _ ha hb (Nrm_digs a) (Nrm_digs b)).mono ?_
  rw [val_digs, val_digs]
  have hge : ¬ (cmpN a b < 0) := by have := HL.out.2; simpa using this
  rintro e w' ⟨rfl, q, rfl⟩
  go_wp2
  go_loopg [0, 1] b (fun k av bv wr => CdRel w G k av bv wr)
  case atStart => exact CdRel.of ((ha.drewN q)) ((hb.drewN q)) HL.out.1 hn HG.out (below_drewN' (Below.refl _ _) q)
  case round =>
    clear ha hb hn HL HG hge
    obtain ⟨A, B, n, c, m, d, x, rfl, rfl, hA, hB, hkx, hn, hg, hbel⟩ := hrel
    have HG := Lib.hid hg.out
    clear hg
    have hmn : m ≤ n := by rw [← hA.len, ← hB.len]; exact len_digs_mono hkx
    by_cases hm : 2 < m
    · have hm' : 2 < (m : Int) := by omega
      have hk0 : gk ≠ 0 := by
        rintro rfl
        have := hB.len
        rw [digs_zero] at this
        simp at this
        omega
      have htop : el (digs x) (n - 1) ≠ 0 := by
        rcases Nrm_digs x with e | e
        · have := hA.len; rw [e] at this; simp at this; omega
        · rwa [hA.len] at e
      have HT := Lib.hid htop
      clear htop
      go_wp2_with fail
      refine (foresee_any _ _ n c m d (digs x) (digs gk) _ hA hB (by omega) (by omega) hmn HT.out (by rw [val_digs, val_digs]; exact hkx)).mono ?_
      rw [val_digs, val_digs]
      rintro e w1 ⟨a0, b0, a1, b1, ev, rfl, hb1, hor⟩
      have HOR := Lib.hid hor
      clear hor HT
      have hA1 := hA.below hb1
      have hB1 := hB.below hb1
      have hbel1 := hbel.trans (hb1.mono hbel.size)
      obtain ⟨z, hz⟩ : ∃ z, ((b0 : Int) == 0) = z := ⟨_, rfl⟩
      have HZ := Lib.hid hz
      clear hz hA hB hbel
      cases z with
      | true =>
        go_wp2_with fail
        refine (idle_any a0 b0 a1 b1 ev true _ HZ.out).mono ?_
        rintro e w2 ⟨rfl, hb2⟩
        have hbA := ((Below.refl w1.heap.size w1).alloc (Nat.le_refl _) (Obj.cells #[Value.int IntKind.u64 (a0 : Int), Value.int IntKind.u64 (b0 : Int), Value.int IntKind.u64 (a1 : Int), Value.int IntKind.u64 (b1 : Int), Value.bool ev] 92)).trans (hb2.mono (by simp))
        have hA2 := hA1.below hbA
        have hB2 := hB1.below hbA
        have hbel2 := hbel1.trans (hbA.mono hbel1.size)
        clear hb2 hbA hA1 hB1 hbel1 hb1
        go_wp2_with fail
        refine (divide_any _ _ _ _ _ _ (digs x) (digs gk) _ hA2 hB2 (Nrm_digs x) (Nrm_digs gk) hn (by rw [val_digs]; exact hk0)).mono ?_
        rw [val_digs, val_digs]
        rintro e w3 ⟨A3, n3, c3, B3, m3, d3, rfl, hN3, hM3, hb3⟩
        have HR := Lib.hid (CdRel.of (w := w) (hB2.below hb3) hM3.1 (Nat.le_of_lt (Nat.mod_lt x (Nat.pos_of_ne_zero hk0))) (by omega) (gcd_mod HG.out) (hbel2.trans (hb3.mono hbel2.size)))
        clear hN3 hM3 hb3 hA2 hB2 hbel2
        go_wp2
        go_roundg (x % gk)
        case rel => exact HR.out
        case measure => exact Nat.mod_lt x (Nat.pos_of_ne_zero hk0)
      | false =>
        have hb0 : b0 ≠ 0 := by
          have := HZ.out
          simp at this
          exact this
        obtain ⟨R0, R1, hP, hb11, k1, k2, k3, k4⟩ := HOR.out.resolve_left hb0
        have HP := Lib.hid hP
        clear hP HOR
        go_wp2_with fail
        refine (idle_any a0 b0 a1 b1 ev false _ HZ.out).mono ?_
        rintro e w2 ⟨rfl, hb2⟩
        have hbA := ((Below.refl w1.heap.size w1).alloc (Nat.le_refl _) (Obj.cells #[Value.int IntKind.u64 (a0 : Int), Value.int IntKind.u64 (b0 : Int), Value.int IntKind.u64 (a1 : Int), Value.int IntKind.u64 (b1 : Int), Value.bool ev] 92)).trans (hb2.mono (by simp))
        have hA2 := hA1.below hbA
        have hB2 := hB1.below hbA
        have hbel2 := hbel1.trans (hbA.mono hbel1.size)
        have hS : Bst w2 w1.heap.size a0 b0 a1 b1 ev := (hb2.block _ (by simp)).trans (heap_alloc_new w1 _)
        obtain ⟨z0, z1, z2, z3, z4⟩ := hS.cells
        clear hb2 hbA hA1 hB1 hbel1 hb1 hS
        go_wp2_with fail
        refine (applied_nat _ _ _ _ _ _ a0 b0 a1 b1 R0 R1 x gk ev _ hA2 hB2 (by omega) (by omega) HP.out hb11 k1 k2 k3 k4).mono ?_
        rintro e w3 ⟨A3, n3, c3, B3, m3, d3, rfl, hN3, hM3, hb3⟩
        have HR := Lib.hid (CdRel.of (w := w) hN3.1 hM3.1 (Nat.le_of_lt HP.out.1) (len_le_of hA2 hN3.1 (HP.out.le hb11) hn) (HP.out.gcd.trans HG.out) (hbel2.trans (hb3.mono hbel2.size)))
        clear hN3 hM3 hb3 hA2 hB2 hbel2 z0 z1 z2 z3 z4
        go_wp2
        go_roundg R1
        case rel => exact HR.out
        case measure => exact HP.out.2.2.2.1 hb0
    · have hm' : ¬ (2 < (m : Int)) := by omega
      by_cases hm0 : m = 0
      · subst hm0
        have hgk : gk = 0 := len_digs_eq_zero.1 hB.len
        subst hgk
        have HX := Lib.hid (show x = G by have := HG.out; rwa [Nat.gcd_zero_right] at this)
        go_wp2_with (at_builtin; refine wpList_app0 wr rfl (.tmp 42) (.tmp 43) 29 rfl Try.underlying29 info50 _ _ _ (digs x) rfl rfl hA (by omega) ?_; intro A1 c1 w1 hN hb1)
        go_ret
        exact ⟨_, _, _, rfl, by rw [← HX.out]; exact hN.mono hbel.size, hbel.trans (hb1.mono hbel.size)⟩
      · have hm1 : ((m : Int) == 0) = false := by simp; omega
        have hk0 : gk ≠ 0 := fun e => hm0 (by rw [← hB.len, e, digs_zero]; rfl)
        go_wp2_with fail
        refine (divide_any _ _ _ _ _ _ (digs x) (digs gk) _ hA hB (Nrm_digs x) (Nrm_digs gk) hn (by rw [val_digs]; exact hk0)).mono ?_
        rw [val_digs, val_digs]
        rintro e w3 ⟨A3, n3, c3, B3, m3, d3, rfl, hN3, hM3, hb3⟩
        have hB3 := hB.below hb3
        have hM := hM3.1
        have hbel3 := hbel.trans (hb3.mono hbel.size)
        have hml := Nat.mod_lt x (Nat.pos_of_ne_zero hk0)
        have HG2 := Lib.hid (gcd_mod HG.out)
        generalize x % gk = r at *
        have hm3 : m3 ≤ 2 := by
          have := len_digs_mono (Nat.le_of_lt hml)
          rw [hM.len, hB3.len] at this
          omega
        have hr := digs_two hM hm3
        have hgl := digs_two hB3 (by omega)
        clear hN3 hM3 hb3 hA hB hbel
        go_wp2_with fail
        refine (low_any _ _ _ (digs gk) _ hB3 (by omega)).mono ?_
        rw [val_digs]
        rintro e w4 ⟨rfl, rfl⟩
        go_wp2_with fail
        refine (low_any _ _ _ (digs r) _ hM hm3).mono ?_
        rw [val_digs]
        rintro e w4 ⟨rfl, rfl⟩
        go_wp2_with fail
        refine (words_any gk r _ hgl hr).mono ?_
        rw [HG2.out]
        rintro e w4 ⟨rfl, q4, rfl⟩
        have hGl : G < 18446744073709551616 := by
          rw [← HG2.out]
          exact Nat.lt_of_le_of_lt (Nat.gcd_le_left _ (Nat.pos_of_ne_zero hk0)) hgl
        go_wp2_with fail
        refine (of_any G _ hGl).mono ?_
        rintro e w5 ⟨A5, n5, c5, rfl, hN5, hb5⟩
        have HF := Lib.hid (show Out w (digs G) (.returned (.slice A5 n5 c5)) w5 from ⟨_, _, _, rfl, hN5.mono hbel3.size, hbel3.trans (Below.mono ⟨hb5.os, hb5.tape, hb5.output, hb5.size, hb5.block⟩ hbel3.size)⟩)
        clear hN5 hb5 hbel3
        go_wp2
        go_ret
        exact HF.out

set_option maxHeartbeats 3200000 in
theorem cd_lt (A B : Option Addr) (n c m d a b : Nat) (w : World) (ha : Rd w A n c (digs a)) (hb : Rd w B m d (digs b)) (hm : m ≤ 400000) (hlt : a ≤ b ∧ cmpN a b = -1) :
    Calls Try.prog 63 #[.slice A n c, .slice B m d] w (Out w (digs (Nat.gcd a b))) := by
  have HL := Lib.hid hlt
  clear hlt
  obtain ⟨G, hG⟩ : ∃ G, Nat.gcd a b = G := ⟨_, rfl⟩
  rw [hG]
  have HG := Lib.hid hG
  clear hG
  go_enter Try.func63, Try.ntmps63
  go_wp2_with fail
  refine (cmp_any _ _ _ _ _ _ (digs a) (digs b) _ ha hb (Nrm_digs a) (Nrm_digs b)).mono ?_
  rw [val_digs, val_digs]
  rw [HL.out.2]
  rintro e w' ⟨rfl, q, rfl⟩
  go_wp2
  go_loopg [0, 1] a (fun k av bv wr => CdRel w G k av bv wr)
  case atStart => exact CdRel.of ((hb.drewN q)) ((ha.drewN q)) HL.out.1 hm (by rw [Nat.gcd_comm]; exact HG.out) (below_drewN' (Below.refl _ _) q)
  case round =>
    clear ha hb hm HL HG
    obtain ⟨A, B, n, c, m, d, x, rfl, rfl, hA, hB, hkx, hn, hg, hbel⟩ := hrel
    have HG := Lib.hid hg.out
    clear hg
    have hmn : m ≤ n := by rw [← hA.len, ← hB.len]; exact len_digs_mono hkx
    by_cases hm : 2 < m
    · have hm' : 2 < (m : Int) := by omega
      have hk0 : gk ≠ 0 := by
        rintro rfl
        have := hB.len
        rw [digs_zero] at this
        simp at this
        omega
      have htop : el (digs x) (n - 1) ≠ 0 := by
        rcases Nrm_digs x with e | e
        · have := hA.len; rw [e] at this; simp at this; omega
        · rwa [hA.len] at e
      have HT := Lib.hid htop
      clear htop
      go_wp2_with fail
      refine (foresee_any _ _ n c m d (digs x) (digs gk) _ hA hB (by omega) (by omega) hmn HT.out (by rw [val_digs, val_digs]; exact hkx)).mono ?_
      rw [val_digs, val_digs]
      rintro e w1 ⟨a0, b0, a1, b1, ev, rfl, hb1, hor⟩
      have HOR := Lib.hid hor
      clear hor HT
      have hA1 := hA.below hb1
      have hB1 := hB.below hb1
      have hbel1 := hbel.trans (hb1.mono hbel.size)
      obtain ⟨z, hz⟩ : ∃ z, ((b0 : Int) == 0) = z := ⟨_, rfl⟩
      have HZ := Lib.hid hz
      clear hz hA hB hbel
      cases z with
      | true =>
        go_wp2_with fail
        refine (idle_any a0 b0 a1 b1 ev true _ HZ.out).mono ?_
        rintro e w2 ⟨rfl, hb2⟩
        have hbA := ((Below.refl w1.heap.size w1).alloc (Nat.le_refl _) (Obj.cells #[Value.int IntKind.u64 (a0 : Int), Value.int IntKind.u64 (b0 : Int), Value.int IntKind.u64 (a1 : Int), Value.int IntKind.u64 (b1 : Int), Value.bool ev] 92)).trans (hb2.mono (by simp))
        have hA2 := hA1.below hbA
        have hB2 := hB1.below hbA
        have hbel2 := hbel1.trans (hbA.mono hbel1.size)
        clear hb2 hbA hA1 hB1 hbel1 hb1
        go_wp2_with fail
        refine (divide_any _ _ _ _ _ _ (digs x) (digs gk) _ hA2 hB2 (Nrm_digs x) (Nrm_digs gk) hn (by rw [val_digs]; exact hk0)).mono ?_
        rw [val_digs, val_digs]
        rintro e w3 ⟨A3, n3, c3, B3, m3, d3, rfl, hN3, hM3, hb3⟩
        have HR := Lib.hid (CdRel.of (w := w) (hB2.below hb3) hM3.1 (Nat.le_of_lt (Nat.mod_lt x (Nat.pos_of_ne_zero hk0))) (by omega) (gcd_mod HG.out) (hbel2.trans (hb3.mono hbel2.size)))
        clear hN3 hM3 hb3 hA2 hB2 hbel2
        go_wp2
        go_roundg (x % gk)
        case rel => exact HR.out
        case measure => exact Nat.mod_lt x (Nat.pos_of_ne_zero hk0)
      | false =>
        have hb0 : b0 ≠ 0 := by
          have := HZ.out
          simp at this
          exact this
        obtain ⟨R0, R1, hP, hb11, k1, k2, k3, k4⟩ := HOR.out.resolve_left hb0
        have HP := Lib.hid hP
        clear hP HOR
        go_wp2_with fail
        refine (idle_any a0 b0 a1 b1 ev false _ HZ.out).mono ?_
        rintro e w2 ⟨rfl, hb2⟩
        have hbA := ((Below.refl w1.heap.size w1).alloc (Nat.le_refl _) (Obj.cells #[Value.int IntKind.u64 (a0 : Int), Value.int IntKind.u64 (b0 : Int), Value.int IntKind.u64 (a1 : Int), Value.int IntKind.u64 (b1 : Int), Value.bool ev] 92)).trans (hb2.mono (by simp))
        have hA2 := hA1.below hbA
        have hB2 := hB1.below hbA
        have hbel2 := hbel1.trans (hbA.mono hbel1.size)
        have hS : Bst w2 w1.heap.size a0 b0 a1 b1 ev := (hb2.block _ (by simp)).trans (heap_alloc_new w1 _)
        obtain ⟨z0, z1, z2, z3, z4⟩ := hS.cells
        clear hb2 hbA hA1 hB1 hbel1 hb1 hS
        go_wp2_with fail
        refine (applied_nat _ _ _ _ _ _ a0 b0 a1 b1 R0 R1 x gk ev _ hA2 hB2 (by omega) (by omega) HP.out hb11 k1 k2 k3 k4).mono ?_
        rintro e w3 ⟨A3, n3, c3, B3, m3, d3, rfl, hN3, hM3, hb3⟩
        have HR := Lib.hid (CdRel.of (w := w) hN3.1 hM3.1 (Nat.le_of_lt HP.out.1) (len_le_of hA2 hN3.1 (HP.out.le hb11) hn) (HP.out.gcd.trans HG.out) (hbel2.trans (hb3.mono hbel2.size)))
        clear hN3 hM3 hb3 hA2 hB2 hbel2 z0 z1 z2 z3 z4
        go_wp2
        go_roundg R1
        case rel => exact HR.out
        case measure => exact HP.out.2.2.2.1 hb0
    · have hm' : ¬ (2 < (m : Int)) := by omega
      by_cases hm0 : m = 0
      · subst hm0
        have hgk : gk = 0 := len_digs_eq_zero.1 hB.len
        subst hgk
        have HX := Lib.hid (show x = G by have := HG.out; rwa [Nat.gcd_zero_right] at this)
        go_wp2_with (at_builtin; refine wpList_app0 wr rfl (.tmp 42) (.tmp 43) 29 rfl Try.underlying29 info50 _ _ _ (digs x) rfl rfl hA (by omega) ?_; intro A1 c1 w1 hN hb1)
        go_ret
        exact ⟨_, _, _, rfl, by rw [← HX.out]; exact hN.mono hbel.size, hbel.trans (hb1.mono hbel.size)⟩
      · have hm1 : ((m : Int) == 0) = false := by simp; omega
        have hk0 : gk ≠ 0 := fun e => hm0 (by rw [← hB.len, e, digs_zero]; rfl)
        go_wp2_with fail
        refine (divide_any _ _ _ _ _ _ (digs x) (digs gk) _ hA hB (Nrm_digs x) (Nrm_digs gk) hn (by rw [val_digs]; exact hk0)).mono ?_
        rw [val_digs, val_digs]
        rintro e w3 ⟨A3, n3, c3, B3, m3, d3, rfl, hN3, hM3, hb3⟩
        have hB3 := hB.below hb3
        have hM := hM3.1
        have hbel3 := hbel.trans (hb3.mono hbel.size)
        have hml := Nat.mod_lt x (Nat.pos_of_ne_zero hk0)
        have HG2 := Lib.hid (gcd_mod HG.out)
        generalize x % gk = r at *
        have hm3 : m3 ≤ 2 := by
          have := len_digs_mono (Nat.le_of_lt hml)
          rw [hM.len, hB3.len] at this
          omega
        have hr := digs_two hM hm3
        have hgl := digs_two hB3 (by omega)
        clear hN3 hM3 hb3 hA hB hbel
        go_wp2_with fail
        refine (low_any _ _ _ (digs gk) _ hB3 (by omega)).mono ?_
        rw [val_digs]
        rintro e w4 ⟨rfl, rfl⟩
        go_wp2_with fail
        refine (low_any _ _ _ (digs r) _ hM hm3).mono ?_
        rw [val_digs]
        rintro e w4 ⟨rfl, rfl⟩
        go_wp2_with fail
        refine (words_any gk r _ hgl hr).mono ?_
        rw [HG2.out]
        rintro e w4 ⟨rfl, q4, rfl⟩
        have hGl : G < 18446744073709551616 := by
          rw [← HG2.out]
          exact Nat.lt_of_le_of_lt (Nat.gcd_le_left _ (Nat.pos_of_ne_zero hk0)) hgl
        go_wp2_with fail
        refine (of_any G _ hGl).mono ?_
        rintro e w5 ⟨A5, n5, c5, rfl, hN5, hb5⟩
        have HF := Lib.hid (show Out w (digs G) (.returned (.slice A5 n5 c5)) w5 from ⟨_, _, _, rfl, hN5.mono hbel3.size, hbel3.trans (Below.mono ⟨hb5.os, hb5.tape, hb5.output, hb5.size, hb5.block⟩ hbel3.size)⟩)
        clear hN5 hb5 hbel3
        go_wp2
        go_ret
        exact HF.out
/-- limb.commonDivisor. -/
theorem cd_any (A B : Option Addr) (n c m d a b : Nat) (w : World) (ha : Rd w A n c (digs a)) (hb : Rd w B m d (digs b)) (hn : n ≤ 400000) (hm : m ≤ 400000) :
    Calls Try.prog 63 #[.slice A n c, .slice B m d] w (Out w (digs (Nat.gcd a b))) := by
  rcases Nat.lt_or_ge a b with h | h
  · exact cd_lt A B n c m d a b w ha hb hm ⟨Nat.le_of_lt h, cmpN_lt h⟩
  · refine cd_ge A B n c m d a b w ha hb hn ⟨h, ?_⟩
    rcases Nat.lt_or_ge b a with h2 | h2
    · rw [cmpN_gt h2]; rfl
    · rw [show a = b by omega, cmpN_eq]; rfl
end Go.Proofs.Yteicihaigkgbnaa
