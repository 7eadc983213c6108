/-
  What limb.Gcd, the reference's gcd and its Gcd do. For slices that can be read.
-/
import Derived.Test.YteicihaigkgbnaaCdiv
import Derived.Test.YteicihaigkgbnaaRdiv
namespace Go.Proofs.Yteicihaigkgbnaa
open Go.RowKit

set_option maxHeartbeats 800000 in
theorem rgcd_any (A B : Option Addr) (n c m d a b : Nat) (w : World) (ha : Rd w A n c (digs a)) (hb : Rd w B m d (digs b)) (hn : n ≤ 400000) (hm : m ≤ 400000) :
    Calls Try.prog 44 #[.slice A n c, .slice B m d] w (Out w (digs (Nat.gcd a b))) := by
  obtain ⟨G, hG⟩ : ∃ G, Nat.gcd a b = G := ⟨_, rfl⟩
  rw [hG]
  have HG := Lib.hid hG
  clear hG
  go_enter Try.func44, Try.ntmps44
  go_wp2
  go_loopg [0, 1] b (fun k av bv wr => ∃ (A B : Option Addr) (n c m d x : Nat), av = .slice A n c ∧ bv = .slice B m d ∧ Rd wr A n c (digs x) ∧ Rd wr B m d (digs k) ∧ n ≤ 400000 ∧ m ≤ 400000 ∧ Hid (Nat.gcd x k = G) ∧ Below w.heap.size w wr)
  case atStart => exact ⟨A, B, n, c, m, d, a, rfl, rfl, ha, hb, hn, hm, HG.out, Below.refl _ _⟩
  case round =>
    clear ha hb hn hm HG
    obtain ⟨A, B, n, c, m, d, x, rfl, rfl, hA, hB, hn, hm, hg, hbel⟩ := hrel
    have HG := Lib.hid hg.out
    clear hg
    by_cases hm0 : m = 0
    · subst hm0
      have hgk : gk = 0 := len_digs_eq_zero.1 hB.len
      subst hgk
      have HX := Lib.hid (show x = G by have := HG.out; rwa [Nat.gcd_zero_right] at this)
      go_wp2_with fail
      refine (rtrim_any _ _ _ (digs x) _ hA (by omega)).mono ?_
      rw [val_digs, HX.out]
      rintro e w1 ⟨A1, n1, c1, rfl, hN, hb1⟩
      go_wp2
      go_ret
      exact ⟨_, _, _, rfl, hN.mono hbel.size, hbel.trans (hb1.mono hbel.size)⟩
    · have hm1 : 0 < (m : Int) := by omega
      have hk0 : gk ≠ 0 := fun e => hm0 (by rw [← hB.len, e, digs_zero]; rfl)
      go_wp2_with fail
      refine (rdm_any _ _ _ _ _ _ (digs x) (digs gk) _ hA hB hn hm (by rw [val_digs]; exact hk0)).mono ?_
      rw [val_digs, val_digs]
      rintro e w3 ⟨A3, n3, c3, B3, m3, d3, rfl, hN3, hM3, hb3⟩
      have hml := Nat.mod_lt x (Nat.pos_of_ne_zero hk0)
      have hm3 : m3 ≤ 400000 := len_le_of hB hM3.1 (Nat.le_of_lt hml) hm
      have hB3 := hB.below hb3
      have hM := hM3.1
      have hbel3 := hbel.trans (hb3.mono hbel.size)
      have HG2 := Lib.hid (gcd_mod HG.out)
      generalize x % gk = r at *
      clear hN3 hM3 hb3 hA hB hbel
      go_wp2
      go_roundg r
      case rel => exact ⟨_, _, _, _, _, _, gk, rfl, rfl, hB3, hM, hm, hm3, HG2.out, hbel3⟩
      case measure => exact hml

/-- The document's Gcd: the natural and the error. -/
def gcdR (xs ys : List Nat) : List Nat × Int := if fmB xs && fmB ys then (digs (Nat.gcd (val xs) (val ys)), 0) else ([], 1)

set_option maxHeartbeats 800000 in
theorem gcd_bad (A B : Option Addr) (n c m d : Nat) (xs ys : List Nat) (w : World) (ha : Rd w A n c xs) (hb : Rd w B m d ys) (f : (fmB xs && fmB ys) = false) :
    Calls Try.prog 42 #[.slice A n c, .slice B m d] w (Out2 w [] 1) := by
  cases fa : fmB xs
  · clear f
    go_enter Try.func42, Try.ntmps42
    go_wp2_with fail
    refine (formed_any _ _ _ xs _ ha).mono ?_
    rintro e w' ⟨rfl, rfl⟩
    go_wp2
    go_ret2
    exact ⟨_, _, _, rfl, Nw.nil _ _, Below.refl _ _⟩
  · have fb : fmB ys = false := by rw [fa] at f; simpa using f
    clear f
    go_enter Try.func42, Try.ntmps42
    go_wp2_with fail
    refine (formed_any _ _ _ xs _ ha).mono ?_
    rintro e w' ⟨rfl, rfl⟩
    go_wp2_with fail
    refine (formed_any _ _ _ ys _ hb).mono ?_
    rintro e w' ⟨rfl, rfl⟩
    go_wp2
    go_ret2
    exact ⟨_, _, _, rfl, Nw.nil _ _, Below.refl _ _⟩
set_option maxHeartbeats 800000 in
theorem gcd_yes (A B : Option Addr) (n c m d : Nat) (xs ys : List Nat) (w : World) (ha : Rd w A n c xs) (hb : Rd w B m d ys) (fa : fmB xs = true) (fb : fmB ys = true) :
    Calls Try.prog 42 #[.slice A n c, .slice B m d] w (Out2 w (digs (Nat.gcd (val xs) (val ys))) 0) := by
  have hn : n ≤ 400 := by rw [← ha.len]; exact fmB_len fa
  have hm : m ≤ 400 := by rw [← hb.len]; exact fmB_len fb
  have HA := Lib.hid (show Rd w A n c (digs (val xs)) by rw [digs_val ha.lim (fmB_nrm fa)]; exact ha)
  have HB := Lib.hid (show Rd w B m d (digs (val ys)) by rw [digs_val hb.lim (fmB_nrm fb)]; exact hb)
  go_enter Try.func42, Try.ntmps42
  go_wp2_with fail
  refine (formed_any _ _ _ xs _ ha).mono ?_
  rintro e w' ⟨rfl, rfl⟩
  go_wp2_with fail
  refine (formed_any _ _ _ ys _ hb).mono ?_
  rintro e w' ⟨rfl, rfl⟩
  go_wp2_with fail
  refine (cd_any _ _ _ _ _ _ (val xs) (val ys) _ HA.out HB.out (by omega) (by omega)).mono ?_
  rintro e w1 ⟨A1, n1, c1, rfl, hN1, hb1⟩
  go_wp2
  go_ret2
  exact ⟨_, _, _, rfl, hN1, hb1⟩
/-- limb.Gcd. -/
theorem gcd_any (A B : Option Addr) (n c m d : Nat) (xs ys : List Nat) (w : World) (ha : Rd w A n c xs) (hb : Rd w B m d ys) :
    Calls Try.prog 42 #[.slice A n c, .slice B m d] w (Out2 w (gcdR xs ys).1 (gcdR xs ys).2) := by
  cases f : fmB xs && fmB ys
  · have e : gcdR xs ys = ([], 1) := by unfold gcdR; rw [f]; rfl
    rw [e]; exact gcd_bad A B n c m d xs ys w ha hb f
  · have f' := f
    rw [Bool.and_eq_true] at f'
    have e : gcdR xs ys = (digs (Nat.gcd (val xs) (val ys)), 0) := by unfold gcdR; rw [f, if_pos rfl]
    rw [e]; exact gcd_yes A B n c m d xs ys w ha hb f'.1 f'.2

end Go.Proofs.Yteicihaigkgbnaa
