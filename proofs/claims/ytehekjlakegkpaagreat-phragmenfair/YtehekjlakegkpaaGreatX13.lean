/-
  What limb.commonDivisor does: the greatest common divisor of two naturals, by Euclid's algorithm in Lehmer's form. For naturals that can be read, of at most 400000 limbs.
  What the reference's bits does: how many bits a natural has. For slices that can be read, of at most 900000 limbs.
  What the reference's shifted and half do. For slices that can be read, of at most 400000 limbs, and shifts of at most 400000 limbs.
-/
import Derived.Test.YtehekjlakegkpaaGreatX11
import Derived.Test.YtehekjlakegkpaaGreatX12
import Derived.Test.YtehekjlakegkpaaGreatX06
import Derived.Test.YtehekjlakegkpaaGreatX07
import Derived.Deep.LoopGhost
import Derived.Test.YtehekjlakegkpaaGreatX08
section
namespace Go.Proofs.YtehekjlakegkpaaGreat
open Go.RowKit

/-- limb.multiples, of naturals. -/
theorem mult_nat (A B : Option Addr) (n c m d M K R x y : Nat) (w : World) (ha : Rd w A n c (digs x)) (hb : Rd w B m d (digs y)) (hn : n ≤ 900000) (hm : m ≤ 900000) (hM : M < 4294967296) (hK : K < 4294967296) (hR : R ≤ x ∨ R ≤ y) (hd : R + K * y = M * x) :
    Calls Tryz.prog 215 #[.slice A n c, .int .u64 M, .slice B m d, .int .u64 K] w (Out w (digs R)) := by
  have h1 := lt_pw_len x
  have h2 := lt_pw_len y
  rw [ha.len] at h1
  rw [hb.len] at h2
  by_cases h : n < m
  · have := pw_le (Nat.le_of_lt h)
    exact multiples_lt A B n c m d M K R _ _ w ha hb hm hM hK h (by omega) (by rw [val_digs, val_digs]; exact hd)
  · have := pw_le (Nat.le_of_not_lt h)
    exact multiples_ge A B n c m d M K R _ _ w ha hb hn hM hK h (by omega) (by rw [val_digs, val_digs]; exact hd)
/-- The steps' call, of naturals. -/
theorem applied_nat (A B : Option Addr) (n c m d a0 b0 a1 b1 R0 R1 x y : Nat) (ev : Bool) (w : World) (ha : Rd w A n c (digs x)) (hb : Rd w B m d (digs y)) (hn : n ≤ 900000) (hm : m ≤ 900000) (hP : Pkg x y a0 b0 a1 b1 R0 R1 ev) (h1 : 1 ≤ b1)
    (k1 : a0 < 4294967296) (k2 : b0 < 4294967296) (k3 : a1 < 4294967296) (k4 : b1 < 4294967296) :
    Calls Tryz.prog 181 #[.agg #[.int .u64 a0, .int .u64 b0, .int .u64 a1, .int .u64 b1, .bool ev], .slice A n c, .slice B m d] w (OutQ w R0 R1) := by
  have hle := hP.le h1
  obtain ⟨_, _, q3, _, qt, qf⟩ := hP
  cases ev with
  | true =>
    obtain ⟨_, e2, e3⟩ := qt rfl
    exact applied_t A B n c m d a0 b0 a1 b1 R0 R1 _ _ w ha hb (fun W g1 g2 => mult_nat A B n c m d a0 b0 R0 x y W g1 g2 hn hm k1 k2 (.inl hle) e2) (fun W g1 g2 => mult_nat B A m d n c b1 a1 R1 y x W g2 g1 hm hn k4 k3 (.inl q3) e3)
  | false =>
    obtain ⟨_, e2, e3⟩ := qf rfl
    exact applied_f A B n c m d a0 b0 a1 b1 R0 R1 _ _ w ha hb (fun W g1 g2 => mult_nat B A m d n c b0 a0 R0 y x W g2 g1 hm hn k2 k1 (.inr hle) e2) (fun W g1 g2 => mult_nat A B n c m d a1 b1 R1 x y W g1 g2 hn hm k3 k4 (.inr q3) e3)

/-- The loop: its second number is k. -/
def CdRel (w : World) (G k : Nat) (av bv : Value) (wr : World) : Prop :=
  ∃ (A B : Option Addr) (n c m d x : Nat), av = .slice A n c ∧ bv = .slice B m d ∧ Rd wr A n c (digs x) ∧ Rd wr B m d (digs k) ∧ k ≤ x ∧ n ≤ 400000 ∧ Hid (Nat.gcd x k = G) ∧ Below w.heap.size w wr
theorem CdRel.of {w wr : World} {G k n c m d x : Nat} {A B : Option Addr} (h1 : Rd wr A n c (digs x)) (h2 : Rd wr B m d (digs k)) (h3 : k ≤ x) (h4 : n ≤ 400000) (h5 : Nat.gcd x k = G) (h6 : Below w.heap.size w wr) :
    CdRel w G k (.slice A n c) (.slice B m d) wr := ⟨A, B, n, c, m, d, x, rfl, rfl, h1, h2, h3, h4, h5, h6⟩
theorem gcd_mod {x y G : Nat} (h : Nat.gcd x y = G) : Nat.gcd y (x % y) = G := by rw [Nat.gcd_comm, ← Nat.gcd_rec, Nat.gcd_comm]; exact h
theorem len_le_of {wr w' : World} {A A' : Option Addr} {n c n' c' x r : Nat} (h : Rd wr A n c (digs x)) (h' : Rd w' A' n' c' (digs r)) (hr : r ≤ x) (hn : n ≤ 400000) : n' ≤ 400000 := by
  have := len_digs_mono hr
  rw [h.len, h'.len] at this
  omega
theorem digs_two {r n c : Nat} {A : Option Addr} {w : World} (h : Rd w A n c (digs r)) (hn : n ≤ 2) : r < 18446744073709551616 := by
  have := lt_pw_len r
  rw [h.len] at this
  exact Nat.lt_of_lt_of_le this (pw_le hn)

set_option maxHeartbeats 3200000 in
theorem cd_ge (A B : Option Addr) (n c m d a b : Nat) (w : World) (ha : Rd w A n c (digs a)) (hb : Rd w B m d (digs b)) (hn : n ≤ 400000) (hlt : b ≤ a ∧ (decide (cmpN a b < 0)) = false) :
    Calls Tryz.prog 154 #[.slice A n c, .slice B m d] w (Out w (digs (Nat.gcd a b))) := by
  have HL := Lib.hid hlt
  clear hlt
  obtain ⟨G, hG⟩ : ∃ G, Nat.gcd a b = G := ⟨_, rfl⟩
  rw [hG]
  have HG := Lib.hid hG
  clear hG
  go_enter Tryz.func154, Tryz.ntmps154
  go_wp2_with fail
  refine (cmp_any _ _ _ _ _ _ (digs a) (digs b) _ ha hb (Nrm_digs a) (Nrm_digs b)).mono ?_
  rw [val_digs, val_digs]
  have hge : ¬ (cmpN a b < 0) := by have := HL.out.2; simpa using this
  rintro e w' ⟨rfl, q, rfl⟩
  go_wp2
  go_loopg [0, 1] b (fun k av bv wr => CdRel w G k av bv wr)
  case atStart => exact CdRel.of ((ha.drewN q)) ((hb.drewN q)) HL.out.1 hn HG.out (below_drewN' (Below.refl _ _) q)
  case round =>
    clear ha hb hn HL HG hge
    obtain ⟨A, B, n, c, m, d, x, rfl, rfl, hA, hB, hkx, hn, hg, hbel⟩ := hrel
    have HG := Lib.hid hg.out
    clear hg
    have hmn : m ≤ n := by rw [← hA.len, ← hB.len]; exact len_digs_mono hkx
    by_cases hm : 2 < m
    · have hm' : 2 < (m : Int) := by omega
      have hk0 : gk ≠ 0 := by
        rintro rfl
        have := hB.len
        rw [digs_zero] at this
        simp at this
        omega
      have htop : el (digs x) (n - 1) ≠ 0 := by
        rcases Nrm_digs x with e | e
        · have := hA.len; rw [e] at this; simp at this; omega
        · rwa [hA.len] at e
      have HT := Lib.hid htop
      clear htop
      go_wp2_with fail
      refine (foresee_any _ _ n c m d (digs x) (digs gk) _ hA hB (by omega) (by omega) hmn HT.out (by rw [val_digs, val_digs]; exact hkx)).mono ?_
      rw [val_digs, val_digs]
      rintro e w1 ⟨a0, b0, a1, b1, ev, rfl, hb1, hor⟩
      have HOR := Lib.hid hor
      clear hor HT
      have hA1 := hA.below hb1
      have hB1 := hB.below hb1
      have hbel1 := hbel.trans (hb1.mono hbel.size)
      obtain ⟨z, hz⟩ : ∃ z, ((b0 : Int) == 0) = z := ⟨_, rfl⟩
      have HZ := Lib.hid hz
      clear hz hA hB hbel
      cases z with
      | true =>
        go_wp2_with fail
        refine (idle_any a0 b0 a1 b1 ev true _ HZ.out).mono ?_
        rintro e w2 ⟨rfl, hb2⟩
        have hbA := ((Below.refl w1.heap.size w1).alloc (Nat.le_refl _) (Obj.cells #[Value.int IntKind.u64 (a0 : Int), Value.int IntKind.u64 (b0 : Int), Value.int IntKind.u64 (a1 : Int), Value.int IntKind.u64 (b1 : Int), Value.bool ev] 217)).trans (hb2.mono (by simp))
        have hA2 := hA1.below hbA
        have hB2 := hB1.below hbA
        have hbel2 := hbel1.trans (hbA.mono hbel1.size)
        clear hb2 hbA hA1 hB1 hbel1 hb1
        go_wp2_with fail
        refine (divide_any _ _ _ _ _ _ (digs x) (digs gk) _ hA2 hB2 (Nrm_digs x) (Nrm_digs gk) hn (by rw [val_digs]; exact hk0)).mono ?_
        rw [val_digs, val_digs]
        rintro e w3 ⟨A3, n3, c3, B3, m3, d3, rfl, hN3, hM3, hb3⟩
        have HR := Lib.hid (CdRel.of (w := w) (hB2.below hb3) hM3.1 (Nat.le_of_lt (Nat.mod_lt x (Nat.pos_of_ne_zero hk0))) (by omega) (gcd_mod HG.out) (hbel2.trans (hb3.mono hbel2.size)))
        clear hN3 hM3 hb3 hA2 hB2 hbel2
        go_wp2
        go_roundg (x % gk)
        case rel => exact HR.out
        case measure => exact Nat.mod_lt x (Nat.pos_of_ne_zero hk0)
      | false =>
        have hb0 : b0 ≠ 0 := by
          have := HZ.out
          simp at this
          exact this
        obtain ⟨R0, R1, hP, hb11, k1, k2, k3, k4⟩ := HOR.out.resolve_left hb0
        have HP := Lib.hid hP
        clear hP HOR
        go_wp2_with fail
        refine (idle_any a0 b0 a1 b1 ev false _ HZ.out).mono ?_
        rintro e w2 ⟨rfl, hb2⟩
        have hbA := ((Below.refl w1.heap.size w1).alloc (Nat.le_refl _) (Obj.cells #[Value.int IntKind.u64 (a0 : Int), Value.int IntKind.u64 (b0 : Int), Value.int IntKind.u64 (a1 : Int), Value.int IntKind.u64 (b1 : Int), Value.bool ev] 217)).trans (hb2.mono (by simp))
        have hA2 := hA1.below hbA
        have hB2 := hB1.below hbA
        have hbel2 := hbel1.trans (hbA.mono hbel1.size)
        have hS : Bst w2 w1.heap.size a0 b0 a1 b1 ev := (hb2.block _ (by simp)).trans (heap_alloc_new w1 _)
        obtain ⟨z0, z1, z2, z3, z4⟩ := hS.cells
        clear hb2 hbA hA1 hB1 hbel1 hb1 hS
        go_wp2_with fail
        refine (applied_nat _ _ _ _ _ _ a0 b0 a1 b1 R0 R1 x gk ev _ hA2 hB2 (by omega) (by omega) HP.out hb11 k1 k2 k3 k4).mono ?_
        rintro e w3 ⟨A3, n3, c3, B3, m3, d3, rfl, hN3, hM3, hb3⟩
        have HR := Lib.hid (CdRel.of (w := w) hN3.1 hM3.1 (Nat.le_of_lt HP.out.1) (len_le_of hA2 hN3.1 (HP.out.le hb11) hn) (HP.out.gcd.trans HG.out) (hbel2.trans (hb3.mono hbel2.size)))
        clear hN3 hM3 hb3 hA2 hB2 hbel2 z0 z1 z2 z3 z4
        go_wp2
        go_roundg R1
        case rel => exact HR.out
        case measure => exact HP.out.2.2.2.1 hb0
    · have hm' : ¬ (2 < (m : Int)) := by omega
      by_cases hm0 : m = 0
      · subst hm0
        have hgk : gk = 0 := len_digs_eq_zero.1 hB.len
        subst hgk
        have HX := Lib.hid (show x = G by have := HG.out; rwa [Nat.gcd_zero_right] at this)
        go_wp2_with (at_builtin; refine wpList_app0 wr rfl (.tmp 42) (.tmp 43) 36 rfl Tryz.underlying36 info50 _ _ _ (digs x) rfl rfl hA (by omega) ?_; intro A1 c1 w1 hN hb1)
        go_ret
        exact ⟨_, _, _, rfl, by rw [← HX.out]; exact hN.mono hbel.size, hbel.trans (hb1.mono hbel.size)⟩
      · have hm1 : ((m : Int) == 0) = false := by simp; omega
        have hk0 : gk ≠ 0 := fun e => hm0 (by rw [← hB.len, e, digs_zero]; rfl)
        go_wp2_with fail
        refine (divide_any _ _ _ _ _ _ (digs x) (digs gk) _ hA hB (Nrm_digs x) (Nrm_digs gk) hn (by rw [val_digs]; exact hk0)).mono ?_
        rw [val_digs, val_digs]
        rintro e w3 ⟨A3, n3, c3, B3, m3, d3, rfl, hN3, hM3, hb3⟩
        have hB3 := hB.below hb3
        have hM := hM3.1
        have hbel3 := hbel.trans (hb3.mono hbel.size)
        have hml := Nat.mod_lt x (Nat.pos_of_ne_zero hk0)
        have HG2 := Lib.hid (gcd_mod HG.out)
        generalize x % gk = r at *
        have hm3 : m3 ≤ 2 := by
          have := len_digs_mono (Nat.le_of_lt hml)
          rw [hM.len, hB3.len] at this
          omega
        have hr := digs_two hM hm3
        have hgl := digs_two hB3 (by omega)
        clear hN3 hM3 hb3 hA hB hbel
        go_wp2_with fail
        refine (low_any _ _ _ (digs gk) _ hB3 (by omega)).mono ?_
        rw [val_digs]
        rintro e w4 ⟨rfl, rfl⟩
        go_wp2_with fail
        refine (low_any _ _ _ (digs r) _ hM hm3).mono ?_
        rw [val_digs]
        rintro e w4 ⟨rfl, rfl⟩
        go_wp2_with fail
        refine (words_any gk r _ hgl hr).mono ?_
        rw [HG2.out]
        rintro e w4 ⟨rfl, q4, rfl⟩
        have hGl : G < 18446744073709551616 := by
          rw [← HG2.out]
          exact Nat.lt_of_le_of_lt (Nat.gcd_le_left _ (Nat.pos_of_ne_zero hk0)) hgl
        go_wp2_with fail
        refine (of_any G _ hGl).mono ?_
        rintro e w5 ⟨A5, n5, c5, rfl, hN5, hb5⟩
        have HF := Lib.hid (show Out w (digs G) (.returned (.slice A5 n5 c5)) w5 from ⟨_, _, _, rfl, hN5.mono hbel3.size, hbel3.trans (Below.mono ⟨hb5.os, hb5.tape, hb5.output, hb5.size, hb5.block⟩ hbel3.size)⟩)
        clear hN5 hb5 hbel3
        go_wp2
        go_ret
        exact HF.out

set_option maxHeartbeats 3200000 in
theorem cd_lt (A B : Option Addr) (n c m d a b : Nat) (w : World) (ha : Rd w A n c (digs a)) (hb : Rd w B m d (digs b)) (hm : m ≤ 400000) (hlt : a ≤ b ∧ cmpN a b = -1) :
    Calls Tryz.prog 154 #[.slice A n c, .slice B m d] w (Out w (digs (Nat.gcd a b))) := by
  have HL := Lib.hid hlt
  clear hlt
  obtain ⟨G, hG⟩ : ∃ G, Nat.gcd a b = G := ⟨_, rfl⟩
  rw [hG]
  have HG := Lib.hid hG
  clear hG
  go_enter Tryz.func154, Tryz.ntmps154
  go_wp2_with fail
  refine (cmp_any _ _ _ _ _ _ (digs a) (digs b) _ ha hb (Nrm_digs a) (Nrm_digs b)).mono ?_
  rw [val_digs, val_digs]
  rw [HL.out.2]
  rintro e w' ⟨rfl, q, rfl⟩
  go_wp2
  go_loopg [0, 1] a (fun k av bv wr => CdRel w G k av bv wr)
  case atStart => exact CdRel.of ((hb.drewN q)) ((ha.drewN q)) HL.out.1 hm (by rw [Nat.gcd_comm]; exact HG.out) (below_drewN' (Below.refl _ _) q)
  case round =>
    clear ha hb hm HL HG
    obtain ⟨A, B, n, c, m, d, x, rfl, rfl, hA, hB, hkx, hn, hg, hbel⟩ := hrel
    have HG := Lib.hid hg.out
    clear hg
    have hmn : m ≤ n := by rw [← hA.len, ← hB.len]; exact len_digs_mono hkx
    by_cases hm : 2 < m
    · have hm' : 2 < (m : Int) := by omega
      have hk0 : gk ≠ 0 := by
        rintro rfl
        have := hB.len
        rw [digs_zero] at this
        simp at this
        omega
      have htop : el (digs x) (n - 1) ≠ 0 := by
        rcases Nrm_digs x with e | e
        · have := hA.len; rw [e] at this; simp at this; omega
        · rwa [hA.len] at e
      have HT := Lib.hid htop
      clear htop
      go_wp2_with fail
      refine (foresee_any _ _ n c m d (digs x) (digs gk) _ hA hB (by omega) (by omega) hmn HT.out (by rw [val_digs, val_digs]; exact hkx)).mono ?_
      rw [val_digs, val_digs]
      rintro e w1 ⟨a0, b0, a1, b1, ev, rfl, hb1, hor⟩
      have HOR := Lib.hid hor
      clear hor HT
      have hA1 := hA.below hb1
      have hB1 := hB.below hb1
      have hbel1 := hbel.trans (hb1.mono hbel.size)
      obtain ⟨z, hz⟩ : ∃ z, ((b0 : Int) == 0) = z := ⟨_, rfl⟩
      have HZ := Lib.hid hz
      clear hz hA hB hbel
      cases z with
      | true =>
        go_wp2_with fail
        refine (idle_any a0 b0 a1 b1 ev true _ HZ.out).mono ?_
        rintro e w2 ⟨rfl, hb2⟩
        have hbA := ((Below.refl w1.heap.size w1).alloc (Nat.le_refl _) (Obj.cells #[Value.int IntKind.u64 (a0 : Int), Value.int IntKind.u64 (b0 : Int), Value.int IntKind.u64 (a1 : Int), Value.int IntKind.u64 (b1 : Int), Value.bool ev] 217)).trans (hb2.mono (by simp))
        have hA2 := hA1.below hbA
        have hB2 := hB1.below hbA
        have hbel2 := hbel1.trans (hbA.mono hbel1.size)
        clear hb2 hbA hA1 hB1 hbel1 hb1
        go_wp2_with fail
        refine (divide_any _ _ _ _ _ _ (digs x) (digs gk) _ hA2 hB2 (Nrm_digs x) (Nrm_digs gk) hn (by rw [val_digs]; exact hk0)).mono ?_
        rw [val_digs, val_digs]
        rintro e w3 ⟨A3, n3, c3, B3, m3, d3, rfl, hN3, hM3, hb3⟩
        have HR := Lib.hid (CdRel.of (w := w) (hB2.below hb3) hM3.1 (Nat.le_of_lt (Nat.mod_lt x (Nat.pos_of_ne_zero hk0))) (by omega) (gcd_mod HG.out) (hbel2.trans (hb3.mono hbel2.size)))
        clear hN3 hM3 hb3 hA2 hB2 hbel2
        go_wp2
        go_roundg (x % gk)
        case rel => exact HR.out
        case measure => exact Nat.mod_lt x (Nat.pos_of_ne_zero hk0)
      | false =>
        have hb0 : b0 ≠ 0 := by
          have := HZ.out
          simp at this
          exact this
        obtain ⟨R0, R1, hP, hb11, k1, k2, k3, k4⟩ := HOR.out.resolve_left hb0
        have HP := Lib.hid hP
        clear hP HOR
        go_wp2_with fail
        refine (idle_any a0 b0 a1 b1 ev false _ HZ.out).mono ?_
        rintro e w2 ⟨rfl, hb2⟩
        have hbA := ((Below.refl w1.heap.size w1).alloc (Nat.le_refl _) (Obj.cells #[Value.int IntKind.u64 (a0 : Int), Value.int IntKind.u64 (b0 : Int), Value.int IntKind.u64 (a1 : Int), Value.int IntKind.u64 (b1 : Int), Value.bool ev] 217)).trans (hb2.mono (by simp))
        have hA2 := hA1.below hbA
        have hB2 := hB1.below hbA
        have hbel2 := hbel1.trans (hbA.mono hbel1.size)
        have hS : Bst w2 w1.heap.size a0 b0 a1 b1 ev := (hb2.block _ (by simp)).trans (heap_alloc_new w1 _)
        obtain ⟨z0, z1, z2, z3, z4⟩ := hS.cells
        clear hb2 hbA hA1 hB1 hbel1 hb1 hS
        go_wp2_with fail
        refine (applied_nat _ _ _ _ _ _ a0 b0 a1 b1 R0 R1 x gk ev _ hA2 hB2 (by omega) (by omega) HP.out hb11 k1 k2 k3 k4).mono ?_
        rintro e w3 ⟨A3, n3, c3, B3, m3, d3, rfl, hN3, hM3, hb3⟩
        have HR := Lib.hid (CdRel.of (w := w) hN3.1 hM3.1 (Nat.le_of_lt HP.out.1) (len_le_of hA2 hN3.1 (HP.out.le hb11) hn) (HP.out.gcd.trans HG.out) (hbel2.trans (hb3.mono hbel2.size)))
        clear hN3 hM3 hb3 hA2 hB2 hbel2 z0 z1 z2 z3 z4
        go_wp2
        go_roundg R1
        case rel => exact HR.out
        case measure => exact HP.out.2.2.2.1 hb0
    · have hm' : ¬ (2 < (m : Int)) := by omega
      by_cases hm0 : m = 0
      · subst hm0
        have hgk : gk = 0 := len_digs_eq_zero.1 hB.len
        subst hgk
        have HX := Lib.hid (show x = G by have := HG.out; rwa [Nat.gcd_zero_right] at this)
        go_wp2_with (at_builtin; refine wpList_app0 wr rfl (.tmp 42) (.tmp 43) 36 rfl Tryz.underlying36 info50 _ _ _ (digs x) rfl rfl hA (by omega) ?_; intro A1 c1 w1 hN hb1)
        go_ret
        exact ⟨_, _, _, rfl, by rw [← HX.out]; exact hN.mono hbel.size, hbel.trans (hb1.mono hbel.size)⟩
      · have hm1 : ((m : Int) == 0) = false := by simp; omega
        have hk0 : gk ≠ 0 := fun e => hm0 (by rw [← hB.len, e, digs_zero]; rfl)
        go_wp2_with fail
        refine (divide_any _ _ _ _ _ _ (digs x) (digs gk) _ hA hB (Nrm_digs x) (Nrm_digs gk) hn (by rw [val_digs]; exact hk0)).mono ?_
        rw [val_digs, val_digs]
        rintro e w3 ⟨A3, n3, c3, B3, m3, d3, rfl, hN3, hM3, hb3⟩
        have hB3 := hB.below hb3
        have hM := hM3.1
        have hbel3 := hbel.trans (hb3.mono hbel.size)
        have hml := Nat.mod_lt x (Nat.pos_of_ne_zero hk0)
        have HG2 := Lib.hid (gcd_mod HG.out)
        generalize x % gk = r at *
        have hm3 : m3 ≤ 2 := by
          have := len_digs_mono (Nat.le_of_lt hml)
          rw [hM.len, hB3.len] at this
          omega
        have hr := digs_two hM hm3
        have hgl := digs_two hB3 (by omega)
        clear hN3 hM3 hb3 hA hB hbel
        go_wp2_with fail
        refine (low_any _ _ _ (digs gk) _ hB3 (by omega)).mono ?_
        rw [val_digs]
        rintro e w4 ⟨rfl, rfl⟩
        go_wp2_with fail
        refine (low_any _ _ _ (digs r) _ hM hm3).mono ?_
        rw [val_digs]
        rintro e w4 ⟨rfl, rfl⟩
        go_wp2_with fail
        refine (words_any gk r _ hgl hr).mono ?_
        rw [HG2.out]
        rintro e w4 ⟨rfl, q4, rfl⟩
        have hGl : G < 18446744073709551616 := by
          rw [← HG2.out]
          exact Nat.lt_of_le_of_lt (Nat.gcd_le_left _ (Nat.pos_of_ne_zero hk0)) hgl
        go_wp2_with fail
        refine (of_any G _ hGl).mono ?_
        rintro e w5 ⟨A5, n5, c5, rfl, hN5, hb5⟩
        have HF := Lib.hid (show Out w (digs G) (.returned (.slice A5 n5 c5)) w5 from ⟨_, _, _, rfl, hN5.mono hbel3.size, hbel3.trans (Below.mono ⟨hb5.os, hb5.tape, hb5.output, hb5.size, hb5.block⟩ hbel3.size)⟩)
        clear hN5 hb5 hbel3
        go_wp2
        go_ret
        exact HF.out
/-- limb.commonDivisor. -/
theorem cd_any (A B : Option Addr) (n c m d a b : Nat) (w : World) (ha : Rd w A n c (digs a)) (hb : Rd w B m d (digs b)) (hn : n ≤ 400000) (hm : m ≤ 400000) :
    Calls Tryz.prog 154 #[.slice A n c, .slice B m d] w (Out w (digs (Nat.gcd a b))) := by
  rcases Nat.lt_or_ge a b with h | h
  · exact cd_lt A B n c m d a b w ha hb hm ⟨Nat.le_of_lt h, cmpN_lt h⟩
  · refine cd_ge A B n c m d a b w ha hb hn ⟨h, ?_⟩
    rcases Nat.lt_or_ge b a with h2 | h2
    · rw [cmpN_gt h2]; rfl
    · rw [show a = b by omega, cmpN_eq]; rfl
end Go.Proofs.YtehekjlakegkpaaGreat
end
section
namespace Go.Proofs.YtehekjlakegkpaaGreat
open Go.RowKit

theorem and_bit (e r : Nat) (he : e < 4294967296) : bits .and .u32 ((e : Int) / 2 ^ r) 1 = ((e / 2 ^ r % 2 : Nat) : Int) := by
  have e1 : ((e : Int) / 2 ^ r) = ((e / 2 ^ r : Nat) : Int) := by rw [Int.natCast_ediv, Int.natCast_pow]; rfl
  have h1 : e / 2 ^ r < 4294967296 := Nat.lt_of_le_of_lt (Nat.div_le_self _ _) he
  rw [e1]
  have := u32_and_nat (e / 2 ^ r) 1 h1 (by omega)
  rw [nat_mask1] at this
  exact this
/-- A limb's bit is the number's. -/
theorem bit_at (xs : List Nat) (hL : Lim xs) (j r : Nat) (hr : r ≤ 31) : val xs / 2 ^ (32 * j + r) % 2 = el xs j / 2 ^ r % 2 := by
  have h1 : val xs = val (xs.take j) + pw j * (el xs j + 4294967296 * val (xs.drop (j + 1))) := by
    rw [← val_drop_any]
    rcases Nat.lt_or_ge xs.length j with h | h
    · rw [val_take_ge xs j (by omega), List.drop_of_length_le (by omega)]; simp [val]
    · exact val_take_drop xs j h
  have h2 := val_take_lt hL j
  have h3 : val xs / pw j = el xs j + 4294967296 * val (xs.drop (j + 1)) := by
    rw [h1, Nat.add_mul_div_left _ _ (pw_pos j), Nat.div_eq_of_lt h2, Nat.zero_add]
  rw [Nat.pow_add, ← pw_two, ← Nat.div_div_eq_div_mul, h3]
  have h4 : 4294967296 = 2 ^ r * (2 * 2 ^ (31 - r)) := by
    rw [← Nat.pow_succ', ← Nat.pow_add, show r + (31 - r + 1) = 32 by omega]
  rw [h4, Nat.mul_assoc, Nat.add_mul_div_left _ _ (Nat.two_pow_pos r), Nat.mul_assoc 2, Nat.add_mul_mod_self_left]
theorem bit_zero {v k : Nat} (h : v < 2 ^ k) (hk : k ≠ 0) : (v / 2 ^ (k - 1) % 2 = 0 ∧ v < 2 ^ (k - 1)) ∨ (v / 2 ^ (k - 1) % 2 = 1 ∧ 2 ^ (k - 1) ≤ v) := by
  have hp := Nat.two_pow_pos (k - 1)
  have e : 2 ^ k = 2 ^ (k - 1) * 2 := by rw [← Nat.pow_succ]; congr 1; omega
  rcases Nat.lt_or_ge v (2 ^ (k - 1)) with hh | hh
  · left; exact ⟨by rw [Nat.div_eq_of_lt hh], hh⟩
  · right
    have : v / 2 ^ (k - 1) = 1 := by
      have h1 : v / 2 ^ (k - 1) < 2 := by rw [Nat.div_lt_iff_lt_mul hp, Nat.mul_comm, ← e]; exact h
      have h2 : 1 ≤ v / 2 ^ (k - 1) := by rw [Nat.le_div_iff_mul_le hp]; omega
      omega
    exact ⟨by rw [this], hh⟩
/-- How many bits: k. -/
def BitsP (w : World) (n v : Nat) (e : Ending) (w' : World) : Prop :=
  ∃ k : Nat, e = .returned (.int .i64 k) ∧ k ≤ 32 * n ∧ v < 2 ^ k ∧ (k = 0 ∨ 2 ^ (k - 1) ≤ v) ∧ w = w'

set_option maxHeartbeats 800000 in
/-- The reference's bits. -/
theorem rbits_any (A : Option Addr) (n c : Nat) (xs : List Nat) (w : World) (ha : Rd w A n c xs) (hn : n ≤ 900000) :
    Calls Tryz.prog 150 #[.slice A n c] w (BitsP w n (val xs)) := by
  have HX := Lib.hid ha.len
  go_enter Tryz.func150, Tryz.ntmps150
  go_wp2
  go_loop [3] (fun t => ∃ k : Nat, k ≤ 32 * n ∧ t = .int .i64 k ∧ Hid (val xs < 2 ^ k)) (fun t => (intOf t).toNat)
  case atStart => exact ⟨32 * n, Nat.le_refl _, by go_num, by show val xs < 2 ^ (32 * n); rw [← pw_two, ← HX.out]; exact val_lt ha.lim⟩
  case round =>
    obtain ⟨k, hk, rfl, hlt⟩ := hrel
    by_cases hk0 : k = 0
    · subst hk0
      go_wp2
      go_ret
      exact ⟨0, rfl, Nat.zero_le _, hlt.out, .inl rfl, rfl⟩
    · obtain ⟨b, o, rfl, hbb, hcA⟩ := ha.at_ (by omega)
      have hcx := hcA ((k - 1) / 32) (by omega)
      have hxk := el_lt ha.lim ((k - 1) / 32)
      clear hcA
      have hpos : (0 : Int) < (k : Int) := by omega
      have hand := and_bit (el xs ((k - 1) / 32)) ((k - 1) % 32) hxk
      rw [← bit_at xs ha.lim ((k - 1) / 32) ((k - 1) % 32) (by omega), show 32 * ((k - 1) / 32) + (k - 1) % 32 = k - 1 by omega] at hand
      rcases bit_zero hlt.out hk0 with ⟨h1, h2⟩ | ⟨h1, h2⟩
      · rw [h1] at hand
        have HV := Lib.hid h2
        clear h1 h2
        simp only [Int.ofNat_zero] at hand
        go_wp2
        go_round
        case rel => exact ⟨k - 1, by omega, by go_num, HV.out⟩
        case measure => simp [intOf]; omega
      · rw [h1] at hand
        have HV := Lib.hid h2
        clear h1 h2
        have hand' : bits .and .u32 (((el xs ((k - 1) / 32) : Nat) : Int) / 2 ^ ((k - 1) % 32)) 1 = 1 := hand
        clear hand
        go_wp2
        go_ret
        exact ⟨k, rfl, hk, hlt.out, .inr HV.out, rfl⟩
end Go.Proofs.YtehekjlakegkpaaGreat
end
section
namespace Go.Proofs.YtehekjlakegkpaaGreat
open Go.RowKit

def RshRel (w : World) (n L t r : Nat) (xs : List Nat) (tv : Value) (wr : World) : Prop :=
  ∃ (i : Nat) (rs : List Nat), i ≤ n ∧ tv = .int .i64 i ∧ Blk wr w.heap.size rs ∧ rs.length = L ∧ Lim rs ∧ Below w.heap.size w wr ∧ el rs (i + t) < 2 ^ r ∧ (∀ j, i + t < j → el rs j = 0) ∧ val rs = val (xs.take i) * 2 ^ r * pw t

theorem low_mult {X r : Nat} (hr : r ≤ 31) (hX : X % 2 ^ r = 0) : X % 4294967296 % 2 ^ r = 0 ∧ X % 4294967296 + 2 ^ r ≤ 4294967296 := by
  have hp := Nat.two_pow_pos r
  have hB : 4294967296 = 2 ^ r * 2 ^ (32 - r) := by rw [← Nat.pow_add, show r + (32 - r) = 32 by omega]
  have h1 : X % 4294967296 % 2 ^ r = 0 := by
    rw [Nat.mod_mod_of_dvd X ⟨2 ^ (32 - r), hB⟩]; exact hX
  refine ⟨h1, ?_⟩
  obtain ⟨z, hz⟩ := Nat.dvd_of_mod_eq_zero h1
  have h2 : X % 4294967296 < 4294967296 := Nat.mod_lt _ (by omega)
  have h3 : z < 2 ^ (32 - r) := by
    have h4 : 2 ^ r * z < 2 ^ r * 2 ^ (32 - r) := by rw [← hz, ← hB]; exact h2
    exact Nat.lt_of_mul_lt_mul_left h4
  have h5 : 2 ^ r * (z + 1) ≤ 2 ^ r * 2 ^ (32 - r) := Nat.mul_le_mul_left _ h3
  rw [← hB, Nat.mul_add, ← hz] at h5
  omega
theorem or_low {E X r : Nat} (hr : r ≤ 31) (hE : E < 2 ^ r) (hX : X % 2 ^ r = 0) : bits .or .u32 (E : Int) ((X : Int) % 4294967296) = ((E + X % 4294967296 : Nat) : Int) ∧ E + X % 4294967296 < 4294967296 := by
  have h := low_mult hr hX
  have h2 : X % 4294967296 < 4294967296 := Nat.mod_lt _ (by omega)
  refine ⟨?_, by omega⟩
  rw [show ((X : Int) % 4294967296) = ((X % 4294967296 : Nat) : Int) by omega, u32_or_nat _ _ (by omega) h2, Nat.or_comm, nat_join r _ _ h.1 hE, Nat.add_comm]
theorem RshRel.step {w wr : World} {n L t r i : Nat} {xs rs : List Nat} (hr : r ≤ 31) (hx : el xs i < 4294967296) (hi : i < n) (hL : n + t + 1 ≤ L) (hB : Blk wr w.heap.size rs) (hrl : rs.length = L) (hrL : Lim rs) (hbel : Below w.heap.size w wr)
    (hlo : el rs (i + t) < 2 ^ r) (hz : ∀ j, i + t < j → el rs j = 0) (hv : val rs = val (xs.take i) * 2 ^ r * pw t) :
    RshRel w n L t r xs (.int .i64 ((i : Int) + 1))
      ((wr.setCell ⟨w.heap.size, i + t, none⟩ (.int .u32 (bits .or .u32 (el rs (i + t) : Nat) (IntKind.u64.wrap (((el xs i : Nat) : Int) * 2 ^ r) % 4294967296)))).setCell ⟨w.heap.size, i + t + 1, none⟩
        (.int .u32 (IntKind.u64.wrap (((el xs i : Nat) : Int) * 2 ^ r) / 4294967296 % 4294967296))) := by
  have hX := shl_lt hx hr
  have hXm : (el xs i * 2 ^ r) % 2 ^ r = 0 := Nat.mul_mod_left _ _
  have hXd : el xs i * 2 ^ r / 4294967296 < 2 ^ r := by
    rw [Nat.div_lt_iff_lt_mul (by omega)]
    have := Nat.mul_lt_mul_of_pos_right hx (Nat.two_pow_pos r)
    rw [Nat.mul_comm (2 ^ r)]; exact this
  have hp : 2 ^ r ≤ 2147483648 := Nat.le_trans (Nat.pow_le_pow_right (by omega) hr) (by decide)
  rw [shl_cast _ _ hx hr]
  generalize hXX : el xs i * 2 ^ r = X at *
  obtain ⟨o1, o2⟩ := or_low hr hlo hXm
  rw [o1, show ((X : Int) / 4294967296 % 4294967296) = ((X / 4294967296 : Nat) : Int) by omega]
  have hdm : 4294967296 * (X / 4294967296) + X % 4294967296 = X := Nat.div_add_mod X 4294967296
  have s1 := val_set rs (i + t) (el rs (i + t) + X % 4294967296) (by omega)
  have s2 := val_set (rs.set (i + t) (el rs (i + t) + X % 4294967296)) (i + t + 1) (X / 4294967296) (by rw [List.length_set]; omega)
  rw [el_set_other rs (i + t) (i + t + 1) _ (by omega), hz (i + t + 1) (by omega), Nat.mul_zero, Nat.add_zero, pw_succ] at s2
  refine ⟨i + 1, (rs.set (i + t) (el rs (i + t) + X % 4294967296)).set (i + t + 1) (X / 4294967296), by omega, rfl, (hB.set_ _ _).set_ _ _, by simp [hrl], Lim_set (Lim_set hrL _ _ o2) _ _ (by omega), (hbel.setCell (Nat.le_refl _) _).setCell (Nat.le_refl _) _, ?_, ?_, ?_⟩
  · rw [show i + 1 + t = i + t + 1 by omega, el_set_same _ _ _ (by rw [List.length_set]; omega)]; exact hXd
  · intro j hj
    rw [el_set_other _ _ _ _ (by omega), el_set_other _ _ _ _ (by omega)]
    exact hz j (by omega)
  · rw [val_take_step, Nat.add_mul, Nat.add_mul, ← hv, s2]
    have h5 : pw i * el xs i * 2 ^ r * pw t = pw (i + t) * X := by
      rw [pw_add, Nat.mul_assoc (pw i), hXX, Nat.mul_assoc, Nat.mul_comm X, ← Nat.mul_assoc]
    have h6 : pw (i + t) * (X % 4294967296) + 4294967296 * pw (i + t) * (X / 4294967296) = pw (i + t) * X := by
      rw [Nat.mul_comm 4294967296, Nat.mul_assoc, ← Nat.mul_add, Nat.add_comm (X % 4294967296), hdm]
    rw [h5]
    rw [Nat.mul_add] at s1
    omega

set_option maxHeartbeats 1600000 in
theorem rsh_any (A : Option Addr) (n c s : Nat) (xs : List Nat) (w : World) (ha : Rd w A n c xs) (hn : n ≤ 400000) (hs : s ≤ 12800000) :
    Calls Tryz.prog 151 #[.slice A n c, .int .i64 s] w (Out w (digs (val xs * 2 ^ s))) := by
  have hmk := fun W => mk34 ((n : Int) + (s : Int) / 32 + 1) (n + s / 32 + 1) (by omega) (by omega) W
  have HX := Lib.hid ha.len
  go_enter Tryz.func151, Tryz.ntmps151
  go_wp2
  go_loopw [17] (fun tv wr => RshRel w n (n + s / 32 + 1) (s / 32) (s % 32) xs tv wr) (fun tv _ => n - (intOf tv).toNat)
  case atStart => exact ⟨0, zeros (n + s / 32 + 1), Nat.zero_le _, rfl, Blk.new _ _, zeros_len _, Lim_zeros _, (Below.refl _ _).alloc (Nat.le_refl _) _, by rw [el_zeros]; exact Nat.two_pow_pos _, fun j _ => el_zeros _ _, by rw [val_zeros_]; simp [val]⟩
  case round =>
    obtain ⟨i, rs, hi, rfl, hB, hrl, hrL, hbel, hlo, hz, hv⟩ := hrel
    have HR := Lib.hid hrl
    have HZ := Lib.hid hz
    have HV := Lib.hid hv
    clear hmk hrl hz hv
    have hxi := el_lt ha.lim i
    have hri := el_lt hrL (i + s / 32)
    by_cases hin : i < n
    · obtain ⟨b, o, rfl, hbb, hcA⟩ := ha.at_ (by omega)
      have hcx := (hbel.cell (p := ⟨b, o + i, none⟩) hbb).trans (hcA i hin)
      clear hcA
      have hf0 := hB.frozen (i + s / 32)
      have hf1 := hB.frozen (i + s / 32 + 1)
      have hc0 := hB.cell (i := i + s / 32) (by rw [HR.out]; omega)
      have hc1 := hB.cell (i := i + s / 32 + 1) (by rw [HR.out]; omega)
      go_wp2
      go_roundw
      case rel => exact RshRel.step (by omega) hxi hin (by omega) hB HR.out hrL hbel hlo HZ.out HV.out
      case measure => simp [intOf]; omega
    · obtain rfl : i = n := by omega
      have HW := Lib.hid (show val rs = val xs * 2 ^ s by
        have := HV.out
        rwa [val_take_ge xs i (by rw [HX.out]; exact Nat.le_refl _), Nat.mul_assoc, pw_two, ← Nat.pow_add, show s % 32 + 32 * (s / 32) = s by omega] at this)
      have hsz := hbel.size
      go_wp2_with fail
      refine (rtrim_any _ _ _ rs _ (hB.nw hrL HR.out (by omega) (Nat.le_refl _)).1 (by omega)).mono ?_
      rw [HW.out]
      rintro e w2 ⟨R, j, cr, rfl, hN2, hb2⟩
      have HN := Lib.hid (hN2.mono (lo' := w.heap.size) hsz)
      have HB := Lib.hid (hbel.trans (hb2.mono hsz))
      clear hN2 hb2 hB hbel
      go_wp2
      go_ret
      exact ⟨_, _, _, rfl, HN.out, HB.out⟩

/-- A limb of the half. -/
def hlf (xs : List Nat) (j : Nat) : Nat := (el xs j + 4294967296 * el xs (j + 1)) / 2 % 4294967296
theorem half_val (xs rs : List Nat) (hL : Lim xs) (hl : rs.length = xs.length) (h : ∀ j, j < xs.length → el rs j = hlf xs j) : val rs = val xs / 2 := by
  have key : ∀ d k, k + d = xs.length → val (rs.drop k) = val (xs.drop k) / 2 := by
    intro d
    induction d with
    | zero => intro k hk; rw [List.drop_of_length_le (by omega), List.drop_of_length_le (by omega)]; rfl
    | succ d ih =>
      intro k hk
      rw [val_drop_any rs, val_drop_any xs, ih (k + 1) (by omega), h k (by omega)]
      exact (shr_num _ _ _ _ 2 2147483648 (el_lt hL k) (by omega) (by decide) (val_drop_any xs (k + 1))).symm
  have := key xs.length 0 (by omega)
  simpa using this
def HalfRel (w : World) (A1 : Option Addr) (n c1 : Nat) (xs : List Nat) (tv : Value) (wr : World) : Prop :=
  ∃ (k : Nat) (rs : List Nat), k ≤ n ∧ tv = .int .i64 k ∧ Nw wr w.heap.size A1 n c1 rs ∧ Below w.heap.size w wr ∧ rs.drop k = xs.drop k ∧ ∀ j, j < k → el rs j = hlf xs j

theorem or_half (x x1 : Nat) (hx : x < 4294967296) : bits .or .u32 ((x : Int) / 2) ((x1 : Int) * 2147483648 % 4294967296) = (((x + 4294967296 * x1) / 2 % 4294967296 : Nat) : Int) := by
  rw [show ((x : Int) / 2) = ((x / 2 : Nat) : Int) by omega, show ((x1 : Int) * 2147483648 % 4294967296) = ((x1 * 2147483648 % 4294967296 : Nat) : Int) by omega, u32_or_nat _ _ (by omega) (by omega), Nat.or_comm,
    nat_join 31 _ _ (by omega) (by omega)]
  congr 1; omega
theorem HalfRel.step {w wr : World} {n k b o c1 y : Nat} {xs rs : List Nat} (hk : k < n) (hN : Nw wr w.heap.size (some ⟨b, o, none⟩) n c1 rs) (hbel : Below w.heap.size w wr) (hd : rs.drop k = xs.drop k) (hh : ∀ j, j < k → el rs j = hlf xs j) {S : Int}
    (hS : S = (y : Int)) (hy : y = hlf xs k) :
    HalfRel w (some ⟨b, o, none⟩) n c1 xs (.int .i64 ((k : Int) + 1)) (wr.setCell ⟨b, o + k, none⟩ (.int .u32 S)) := by
  subst hS hy
  have hl : hlf xs k < 4294967296 := by unfold hlf; omega
  refine ⟨k + 1, rs.set k (hlf xs k), by omega, rfl, hN.store hk hl, hbel.setCell (hN.addr (by omega)).1 _, ?_, ?_⟩
  · rw [drop_set]; exact drop_succ_of hd
  · intro j hj
    rcases Nat.lt_or_ge j k with h | h
    · rw [el_set_other _ _ _ _ (by omega)]; exact hh j h
    · obtain rfl : j = k := by omega
      rw [el_set_same _ _ _ (by rw [hN.1.len]; exact hk)]
theorem HalfRel.step2 {w wr : World} {n k b o c1 x : Nat} {xs rs : List Nat} (hx : x < 4294967296) (hk : k < n) (hN : Nw wr w.heap.size (some ⟨b, o, none⟩) n c1 rs) (hbel : Below w.heap.size w wr) (hd : rs.drop k = xs.drop k) (hh : ∀ j, j < k → el rs j = hlf xs j) {S S0 : Int}
    (hS0 : S0 = (x : Int)) (hS : S = (hlf xs k : Nat)) :
    HalfRel w (some ⟨b, o, none⟩) n c1 xs (.int .i64 ((k : Int) + 1)) ((wr.setCell ⟨b, o + k, none⟩ (.int .u32 S0)).setCell ⟨b, o + k, none⟩ (.int .u32 S)).drew := by
  subst hS hS0
  have hl : hlf xs k < 4294967296 := by unfold hlf; omega
  have hlo := (hN.addr (by omega)).1
  refine ⟨k + 1, (rs.set k x).set k (hlf xs k), by omega, rfl, (hN.store hk hx).store hk hl, ((hbel.setCell hlo _).setCell hlo _).drew, ?_, ?_⟩
  · rw [drop_set, drop_set]; exact drop_succ_of hd
  · intro j hj
    rcases Nat.lt_or_ge j k with h | h
    · rw [el_set_other _ _ _ _ (by omega), el_set_other _ _ _ _ (by omega)]; exact hh j h
    · obtain rfl : j = k := by omega
      rw [el_set_same _ _ _ (by rw [List.length_set, hN.1.len]; exact hk)]

set_option maxHeartbeats 1600000 in
theorem half_any (A : Option Addr) (n c : Nat) (xs : List Nat) (w : World) (ha : Rd w A n c xs) (hn : n ≤ 900000) :
    Calls Tryz.prog 153 #[.slice A n c] w (Out w (digs (val xs / 2))) := by
  have HX := Lib.hid ha.len
  go_enter Tryz.func153, Tryz.ntmps153
  go_wp2_with (at_builtin; refine wpList_app0 _ rfl (.tmp 5) (.tmp 6) 50 rfl Tryz.underlying50 info50 _ _ _ xs rfl rfl ha (by omega) ?_; intro A1 c1 w1 hN1 hb1)
  go_loopw [10] (fun tv wr => HalfRel w A1 n c1 xs tv wr) (fun tv _ => n - (intOf tv).toNat)
  case atStart => exact ⟨0, xs, Nat.zero_le _, rfl, hN1, hb1, rfl, fun j hj => by omega⟩
  case round =>
    obtain ⟨k, rs, hk, rfl, hN, hbel, hd, hh⟩ := hrel
    have HD := Lib.hid hd
    have HH := Lib.hid hh
    have HR := Lib.hid hN.1.len
    clear hd hh hN1 hb1
    have hxk := el_lt ha.lim k
    have hxk1 := el_lt ha.lim (k + 1)
    have hsz := hbel.size
    by_cases hkn : k < n
    · obtain ⟨b, o, rfl, hjunk⟩ := hN.1.at_ (by omega)
      clear hjunk
      obtain ⟨hlob, hltb, hcc, hff⟩ := hN.addr (by omega)
      have hc0 : wr.cell? ⟨b, o + k, none⟩ = some (.int .u32 (el xs k)) := by
        rw [← el_of_drop HD.out]; exact hcc k hkn
      have hf := hff k hkn
      clear hcc hff
      by_cases hk1 : k + 1 < n
      · obtain ⟨b2, o2, rfl, hbb2, hcA⟩ := ha.at_ (by omega)
        have hcx := (hbel.cell (p := ⟨b2, o2 + (k + 1), none⟩) hbb2).trans (hcA (k + 1) hk1)
        have hcx' := (hbel.cell (p := ⟨b2, o2 + k + 1, none⟩) hbb2).trans (hcA (k + 1) hk1)
        clear hcA
        go_wp2
        go_region
        go_wp2
        go_roundw
        case rel => exact HalfRel.step2 (x := el xs k / 2) (by omega) hkn hN hbel HD.out HH.out (by omega) (or_half _ _ hxk)
        case measure => simp [intOf]; omega
      · have HZ := Lib.hid (el_ge xs (k + 1) (by rw [HX.out]; omega))
        go_wp2
        go_roundw
        case rel => exact HalfRel.step (y := el xs k / 2) hkn hN hbel HD.out HH.out (by omega) (by unfold hlf; rw [HZ.out]; omega)
        case measure => simp [intOf]; omega
    · obtain rfl : k = n := by omega
      have HV := Lib.hid (half_val xs rs ha.lim (by rw [HR.out, HX.out]) (by rw [HX.out]; exact HH.out))
      go_wp2_with fail
      refine (rtrim_any _ _ _ rs _ hN.1 (by omega)).mono ?_
      rw [HV.out]
      rintro e w2 ⟨R, j, cr, rfl, hN2, hb2⟩
      have HN := Lib.hid (hN2.mono (lo' := w.heap.size) hsz)
      have HB := Lib.hid (hbel.trans (hb2.mono hsz))
      clear hN2 hb2 hN hbel
      go_wp2
      go_ret
      exact ⟨_, _, _, rfl, HN.out, HB.out⟩
end Go.Proofs.YtehekjlakegkpaaGreat
end
