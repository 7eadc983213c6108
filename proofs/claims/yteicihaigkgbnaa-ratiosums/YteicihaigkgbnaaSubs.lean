/-
  What limb.Sub, limb.Cmp and the reference's Sub and Cmp do. For slices that can be read.
-/
import Derived.Test.YteicihaigkgbnaaRsub
namespace Go.Proofs.Yteicihaigkgbnaa
open Go.RowKit

theorem cmpN_ge {a b : Nat} (h : b ≤ a) : ¬ cmpN a b < 0 := by
  rcases Nat.eq_or_lt_of_le h with e | e
  · subst e; rw [cmpN_eq]; omega
  · rw [cmpN_gt e]; omega
/-- The document's difference: the natural and the error. -/
def subR (xs ys : List Nat) : List Nat × Int :=
  if fmB xs && fmB ys then (if val xs < val ys then ([], 3) else (digs (val xs - val ys), 0)) else ([], 1)
/-- The document's comparison. -/
def cmpR (xs ys : List Nat) : Int := if fmB xs && fmB ys then cmpN (val xs) (val ys) else 0

set_option maxHeartbeats 400000 in
/-- limb.Sub, of naturals that are well formed, a not less than b. -/
theorem Sub_yes (A B : Option Addr) (n c m d : Nat) (xs ys : List Nat) (w : World) (ha : Rd w A n c xs) (hb : Rd w B m d ys) (fa : fmB xs = true) (fb : fmB ys = true) (hle : val ys ≤ val xs) :
    Calls Try.prog 51 #[.slice A n c, .slice B m d] w (Out2 w (digs (val xs - val ys)) 0) := by
  have hn : n ≤ 400 := by rw [← ha.len]; exact fmB_len fa
  have hmn : m ≤ n := by
    rcases Nat.lt_or_ge n m with h | h
    · have := val_lt_of_len ha.lim hb.lim (fmB_nrm fb) (by rw [ha.len, hb.len]; exact h)
      omega
    · exact h
  have HLE := Lib.hid hle
  clear hle
  go_enter Try.func51, Try.ntmps51
  go_wp2_with fail
  refine (formed_any _ _ _ xs _ ha).mono ?_
  rintro e w' ⟨rfl, rfl⟩
  go_wp2_with fail
  refine (formed_any _ _ _ ys _ hb).mono ?_
  rintro e w' ⟨rfl, rfl⟩
  go_wp2_with fail
  refine (cmp_any _ _ _ _ _ _ xs ys _ ha hb (fmB_nrm fa) (fmB_nrm fb)).mono ?_
  rintro e w' ⟨rfl, q, rfl⟩
  have hge := cmpN_ge HLE.out
  go_wp2_with fail
  refine (dif_any _ _ _ _ _ _ xs ys _ (ha.drewN q) (hb.drewN q) (by omega) hmn HLE.out).mono ?_
  rintro e w1 ⟨R, k, cr, rfl, hN, hbel⟩
  have HN : Hid (Nw w1 w.heap.size R k cr (digs (val xs - val ys))) := hN
  have HB : Hid (Below w.heap.size w w1) := ⟨hbel.os, hbel.tape, hbel.output, hbel.size, hbel.block⟩
  clear hN hbel
  go_wp2
  go_ret2
  exact ⟨_, _, _, rfl, HN.out, HB.out⟩
set_option maxHeartbeats 400000 in
/-- limb.Sub, of a that is less than b. -/
theorem Sub_less (A B : Option Addr) (n c m d : Nat) (xs ys : List Nat) (w : World) (ha : Rd w A n c xs) (hb : Rd w B m d ys) (fa : fmB xs = true) (fb : fmB ys = true) (hlt : val xs < val ys) :
    Calls Try.prog 51 #[.slice A n c, .slice B m d] w (Out2 w [] 3) := by
  have HLE := Lib.hid hlt
  clear hlt
  go_enter Try.func51, Try.ntmps51
  go_wp2_with fail
  refine (formed_any _ _ _ xs _ ha).mono ?_
  rintro e w' ⟨rfl, rfl⟩
  go_wp2_with fail
  refine (formed_any _ _ _ ys _ hb).mono ?_
  rintro e w' ⟨rfl, rfl⟩
  go_wp2_with fail
  refine (cmp_any _ _ _ _ _ _ xs ys _ ha hb (fmB_nrm fa) (fmB_nrm fb)).mono ?_
  rw [cmpN_lt HLE.out]
  rintro e w' ⟨rfl, q, rfl⟩
  go_wp2
  go_ret2
  exact ⟨_, _, _, rfl, Nw.nil _ _, below_drewN' (Below.refl _ _) q⟩
set_option maxHeartbeats 400000 in
/-- limb.Sub, of a natural that is not well formed. -/
theorem Sub_bad (A B : Option Addr) (n c m d : Nat) (xs ys : List Nat) (w : World) (ha : Rd w A n c xs) (hb : Rd w B m d ys) (f : (fmB xs && fmB ys) = false) :
    Calls Try.prog 51 #[.slice A n c, .slice B m d] w (Out2 w [] 1) := by
  cases fa : fmB xs
  · clear f
    go_enter Try.func51, Try.ntmps51
    go_wp2_with fail
    refine (formed_any _ _ _ xs _ ha).mono ?_
    rintro e w' ⟨rfl, rfl⟩
    go_wp2
    go_ret2
    exact ⟨_, _, _, rfl, Nw.nil _ _, Below.refl _ _⟩
  · have fb : fmB ys = false := by rw [fa] at f; simpa using f
    clear f
    go_enter Try.func51, Try.ntmps51
    go_wp2_with fail
    refine (formed_any _ _ _ xs _ ha).mono ?_
    rintro e w' ⟨rfl, rfl⟩
    go_wp2_with fail
    refine (formed_any _ _ _ ys _ hb).mono ?_
    rintro e w' ⟨rfl, rfl⟩
    go_wp2
    go_ret2
    exact ⟨_, _, _, rfl, Nw.nil _ _, Below.refl _ _⟩
theorem Sub_any (A B : Option Addr) (n c m d : Nat) (xs ys : List Nat) (w : World) (ha : Rd w A n c xs) (hb : Rd w B m d ys) :
    Calls Try.prog 51 #[.slice A n c, .slice B m d] w (Out2 w (subR xs ys).1 (subR xs ys).2) := by
  cases f : fmB xs && fmB ys
  · have e : subR xs ys = ([], 1) := by unfold subR; rw [f]; rfl
    rw [e]; exact Sub_bad A B n c m d xs ys w ha hb f
  · have f' := f
    rw [Bool.and_eq_true] at f'
    by_cases hl : val xs < val ys
    · have e : subR xs ys = ([], 3) := by unfold subR; rw [f, if_pos rfl, if_pos hl]
      rw [e]; exact Sub_less A B n c m d xs ys w ha hb f'.1 f'.2 hl
    · have e : subR xs ys = (digs (val xs - val ys), 0) := by unfold subR; rw [f, if_pos rfl, if_neg hl]
      rw [e]; exact Sub_yes A B n c m d xs ys w ha hb f'.1 f'.2 (by omega)
set_option maxHeartbeats 400000 in
/-- limb.Cmp. -/
theorem Cmp_any (A B : Option Addr) (n c m d : Nat) (xs ys : List Nat) (w : World) (ha : Rd w A n c xs) (hb : Rd w B m d ys) :
    Calls Try.prog 55 #[.slice A n c, .slice B m d] w (Quiet w (.int .i64 (cmpR xs ys))) := by
  cases f : fmB xs && fmB ys
  · have e : cmpR xs ys = 0 := by unfold cmpR; rw [f]; rfl
    rw [e]
    clear e
    cases fa : fmB xs
    · clear f
      go_enter Try.func55, Try.ntmps55
      go_wp2_with fail
      refine (formed_any _ _ _ xs _ ha).mono ?_
      rintro e w' ⟨rfl, rfl⟩
      go_wp2
      go_ret
      exact ⟨rfl, 0, rfl⟩
    · have fb : fmB ys = false := by rw [fa] at f; simpa using f
      clear f
      go_enter Try.func55, Try.ntmps55
      go_wp2_with fail
      refine (formed_any _ _ _ xs _ ha).mono ?_
      rintro e w' ⟨rfl, rfl⟩
      go_wp2_with fail
      refine (formed_any _ _ _ ys _ hb).mono ?_
      rintro e w' ⟨rfl, rfl⟩
      go_wp2
      go_ret
      exact ⟨rfl, 0, rfl⟩
  · have e : cmpR xs ys = cmpN (val xs) (val ys) := by unfold cmpR; rw [f]; rfl
    rw [e]
    clear e
    rw [Bool.and_eq_true] at f
    obtain ⟨fa, fb⟩ := f
    go_enter Try.func55, Try.ntmps55
    go_wp2_with fail
    refine (formed_any _ _ _ xs _ ha).mono ?_
    rintro e w' ⟨rfl, rfl⟩
    go_wp2_with fail
    refine (formed_any _ _ _ ys _ hb).mono ?_
    rintro e w' ⟨rfl, rfl⟩
    go_wp2_with fail
    refine (cmp_any _ _ _ _ _ _ xs ys _ ha hb (fmB_nrm fa) (fmB_nrm fb)).mono ?_
    rintro e w' ⟨rfl, q, rfl⟩
    go_wp2
    go_ret
    exact ⟨rfl, q, rfl⟩

end Go.Proofs.Yteicihaigkgbnaa
