/-
  What the reference's DivMod does. For slices that can be read.
-/
import Derived.Test.YtcpeofgfppgooaaRdiv
namespace Go.Proofs.Ytcpeofgfppgooaa
open Go.RowKit

set_option maxHeartbeats 800000 in
theorem rDiv_bad (A B : Option Addr) (n c m d : Nat) (xs ys : List Nat) (w : World) (ha : Rd w A n c xs) (hb : Rd w B m d ys) (f : (fmB xs && fmB ys) = false) :
    Calls Try.prog 25 #[.slice A n c, .slice B m d] w (Out3 w [] [] 1) := by
  cases fa : fmB xs
  · clear f
    go_enter Try.func25, Try.ntmps25
    go_wp2_with fail
    refine (rformed_any _ _ _ xs _ ha).mono ?_
    rintro e w' ⟨rfl, rfl⟩
    go_wp2
    go_ret3
    exact ⟨_, _, _, _, _, _, rfl, Nw.nil _ _, Nw.nil _ _, Below.refl _ _⟩
  · have fb : fmB ys = false := by rw [fa] at f; simpa using f
    clear f
    go_enter Try.func25, Try.ntmps25
    go_wp2_with fail
    refine (rformed_any _ _ _ xs _ ha).mono ?_
    rintro e w' ⟨rfl, rfl⟩
    go_wp2_with fail
    refine (rformed_any _ _ _ ys _ hb).mono ?_
    rintro e w' ⟨rfl, rfl⟩
    go_wp2
    go_ret3
    exact ⟨_, _, _, _, _, _, rfl, Nw.nil _ _, Nw.nil _ _, Below.refl _ _⟩
set_option maxHeartbeats 800000 in
theorem rDiv_none (A B : Option Addr) (n c d : Nat) (xs ys : List Nat) (w : World) (ha : Rd w A n c xs) (hb : Rd w B 0 d ys) (fa : fmB xs = true) (fb : fmB ys = true) :
    Calls Try.prog 25 #[.slice A n c, .slice B 0 d] w (Out3 w [] [] 5) := by
  go_enter Try.func25, Try.ntmps25
  go_wp2_with fail
  refine (rformed_any _ _ _ xs _ ha).mono ?_
  rintro e w' ⟨rfl, rfl⟩
  go_wp2_with fail
  refine (rformed_any _ _ _ ys _ hb).mono ?_
  rintro e w' ⟨rfl, rfl⟩
  go_wp2
  go_ret3
  exact ⟨_, _, _, _, _, _, rfl, Nw.nil _ _, Nw.nil _ _, Below.refl _ _⟩
set_option maxHeartbeats 800000 in
theorem rDiv_yes (A B : Option Addr) (n c m d : Nat) (xs ys : List Nat) (w : World) (ha : Rd w A n c xs) (hb : Rd w B m d ys) (fa : fmB xs = true) (fb : fmB ys = true) (hm : m ≠ 0) :
    Calls Try.prog 25 #[.slice A n c, .slice B m d] w (Out3 w (digs (val xs / val ys)) (digs (val xs % val ys)) 0) := by
  have hn : n ≤ 400 := by rw [← ha.len]; exact fmB_len fa
  have hm4 : m ≤ 400 := by rw [← hb.len]; exact fmB_len fb
  have HY := Lib.hid (show val ys ≠ 0 by
    intro e
    have h1 := val_eq_zero e (fmB_nrm fb)
    have h2 := hb.len
    rw [h1] at h2
    exact hm h2.symm)
  have h1 : ((m : Int) == 0) = false := by simp; omega
  go_enter Try.func25, Try.ntmps25
  go_wp2_with fail
  refine (rformed_any _ _ _ xs _ ha).mono ?_
  rintro e w' ⟨rfl, rfl⟩
  go_wp2_with fail
  refine (rformed_any _ _ _ ys _ hb).mono ?_
  rintro e w' ⟨rfl, rfl⟩
  go_wp2_with fail
  refine (rdm_any _ _ _ _ _ _ xs ys _ ha hb (by omega) (by omega) HY.out).mono ?_
  rintro e w1 ⟨A1, n1, c1, A2, n2, c2, rfl, hN1, hN2, hb1⟩
  go_wp2
  go_ret3
  exact ⟨_, _, _, _, _, _, rfl, hN1, hN2, hb1⟩
/-- The reference's DivMod. -/
theorem rDiv_any (A B : Option Addr) (n c m d : Nat) (xs ys : List Nat) (w : World) (ha : Rd w A n c xs) (hb : Rd w B m d ys) :
    Calls Try.prog 25 #[.slice A n c, .slice B m d] w (Out3 w (divR xs ys).1 (divR xs ys).2.1 (divR xs ys).2.2) := by
  cases f : fmB xs && fmB ys
  · have e : divR xs ys = ([], [], 1) := by unfold divR; rw [f]; rfl
    rw [e]; exact rDiv_bad A B n c m d xs ys w ha hb f
  · have f' := f
    rw [Bool.and_eq_true] at f'
    by_cases hl : ys.length = 0
    · have e : divR xs ys = ([], [], 5) := by unfold divR; rw [f, if_pos rfl, if_pos hl]
      have h0 : m = 0 := by rw [← hb.len]; exact hl
      subst h0
      rw [e]; exact rDiv_none A B n c d xs ys w ha hb f'.1 f'.2
    · have e : divR xs ys = (digs (val xs / val ys), digs (val xs % val ys), 0) := by unfold divR; rw [f, if_pos rfl, if_neg hl]
      rw [e]; exact rDiv_yes A B n c m d xs ys w ha hb f'.1 f'.2 (by rw [← hb.len]; exact hl)
end Go.Proofs.Ytcpeofgfppgooaa
