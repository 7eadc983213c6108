/-
  What limb.divide and limb.DivMod do: the quotient and the rest, in new memory. For slices that can be read; divide for naturals of at most 400000 limbs whose last limb is not 0.
-/
import Derived.Test.YteicihaigkgbnaaLong
import Derived.Test.YteicihaigkgbnaaSubs
namespace Go.Proofs.Yteicihaigkgbnaa
open Go.RowKit

theorem OutQ.drew {w : World} {k q r : Nat} {e : Ending} {w' : World} (h : OutQ (w.drewN k) q r e w') : OutQ w q r e w' := by
  obtain ⟨A, n, c, B, m, d, h1, h2, h3, h4⟩ := h
  exact ⟨A, n, c, B, m, d, h1, h2, h3, ⟨h4.os, h4.tape, h4.output, h4.size, h4.block⟩⟩

set_option maxHeartbeats 800000 in
theorem divide_less (A B : Option Addr) (n c m d : Nat) (xs ys : List Nat) (w : World) (ha : Rd w A n c xs) (hb : Rd w B m d ys) (nx : Nrm xs) (ny : Nrm ys) (hn : n ≤ 400000) (hlt : val xs < val ys) :
    Calls Try.prog 69 #[.slice A n c, .slice B m d] w (OutQ w (val xs / val ys) (val xs % val ys)) := by
  have HV := Lib.hid (show digs (val xs / val ys) = [] ∧ digs (val xs % val ys) = xs by
    rw [Nat.div_eq_of_lt hlt, Nat.mod_eq_of_lt hlt, digs_zero, digs_val ha.lim nx]; exact ⟨rfl, rfl⟩)
  have HL := Lib.hid hlt
  clear hlt
  go_enter Try.func69, Try.ntmps69
  go_wp2_with fail
  refine (cmp_any _ _ _ _ _ _ xs ys _ ha hb nx ny).mono ?_
  rw [cmpN_lt HL.out]
  rintro e w' ⟨rfl, q, rfl⟩
  go_wp2_with (at_builtin; refine wpList_app0 (w.drewN q) rfl (.tmp 12) (.tmp 13) 29 rfl Try.underlying29 info50 _ _ _ xs rfl rfl (ha.drewN q) (by omega) ?_; intro A1 c1 w1 hN hb1)
  go_ret2
  exact OutQ.drew (k := q) ⟨_, _, _, _, _, _, rfl, by rw [HV.out.1]; exact Nw.nil _ _, by rw [HV.out.2]; exact hN, hb1⟩

set_option maxHeartbeats 800000 in
theorem divide_one (A B : Option Addr) (n c d : Nat) (xs ys : List Nat) (w : World) (ha : Rd w A n c xs) (hb : Rd w B 1 d ys) (nx : Nrm xs) (ny : Nrm ys) (hn : n ≤ 400000) (hle : val ys ≤ val xs) :
    Calls Try.prog 69 #[.slice A n c, .slice B 1 d] w (OutQ w (val xs / val ys) (val xs % val ys)) := by
  have hval : val ys = el ys 0 := by
    have := val_take_one ys
    rwa [val_take_ge ys 1 (by rw [hb.len]; exact Nat.le_refl _)] at this
  have hy0 : 0 < el ys 0 := by
    rcases ny with e | e
    · have := hb.len; rw [e] at this; simp at this
    · rw [hb.len] at e; simp at e; omega
  have hy1 := el_lt hb.lim 0
  have HL := Lib.hid (cmpN_ge hle)
  have HVAL := Lib.hid hval
  clear hle hval
  obtain ⟨bb, bo, rfl, hbb, hcB⟩ := hb.at_ (by omega)
  have hcy := hcB 0 (by omega)
  simp only [Nat.add_zero] at hcy
  clear hcB
  go_enter Try.func69, Try.ntmps69
  go_wp2_with fail
  refine (cmp_any _ _ _ _ _ _ xs ys _ ha hb nx ny).mono ?_
  rintro e w' ⟨rfl, q, rfl⟩
  have hge := HL.out
  go_wp2_with fail
  refine (dbl_any _ _ _ (el ys 0) xs _ (ha.drewN q) (by omega) hy0 hy1).mono ?_
  rw [← HVAL.out]
  rintro e w1 ⟨A1, n1, c1, rfl, hN1, hb1⟩
  have hr : val xs % val ys < 18446744073709551616 := by
    have := Nat.mod_lt (val xs) (show 0 < val ys by rw [HVAL.out]; exact hy0)
    have := HVAL.out
    omega
  generalize val xs % val ys = r at *
  generalize val xs / val ys = qq at *
  go_wp2_with fail
  refine (of_any r _ hr).mono ?_
  rintro e w2 ⟨A2, n2, c2, rfl, hN2, hb2⟩
  have HF := Lib.hid (OutQ.drew (k := q) (w := w) (q := qq) (r := r) ⟨A1, n1, c1, A2, n2, c2, rfl, hN1.below hb2, hN2.mono hb1.size, hb1.trans (hb2.mono hb1.size)⟩)
  clear hN1 hN2 hb1 hb2
  go_wp2
  go_ret2
  exact HF.out

set_option maxHeartbeats 800000 in
theorem divide_long (A B : Option Addr) (n c m d : Nat) (xs ys : List Nat) (w : World) (ha : Rd w A n c xs) (hb : Rd w B m d ys) (nx : Nrm xs) (ny : Nrm ys) (hn : n ≤ 400000) (hm : 2 ≤ m) (hle : val ys ≤ val xs) :
    Calls Try.prog 69 #[.slice A n c, .slice B m d] w (OutQ w (val xs / val ys) (val xs % val ys)) := by
  have hmn : m ≤ n := by
    rcases Nat.lt_or_ge n m with h | h
    · have := val_lt_of_len ha.lim hb.lim ny (by rw [ha.len, hb.len]; exact h)
      omega
    · exact h
  have hy0 : el ys (m - 1) ≠ 0 := by
    rcases ny with e | e
    · have := hb.len; rw [e] at this; simp at this; omega
    · rw [hb.len] at e; exact e
  have HL := Lib.hid (cmpN_ge hle)
  have HY := Lib.hid hy0
  have h1 : ((m : Int) == 1) = false := by simp; omega
  clear hle hy0
  go_enter Try.func69, Try.ntmps69
  go_wp2_with fail
  refine (cmp_any _ _ _ _ _ _ xs ys _ ha hb nx ny).mono ?_
  rintro e w' ⟨rfl, q, rfl⟩
  have hge := HL.out
  go_wp2_with fail
  refine (long_any _ _ _ _ _ _ xs ys _ (ha.drewN q) (hb.drewN q) hm hmn hn HY.out).mono ?_
  rintro e w1 ⟨A1, n1, c1, A2, n2, c2, rfl, hN1, hN2, hb1⟩
  have HF := Lib.hid (OutQ.drew (k := q) (w := w) ⟨A1, n1, c1, A2, n2, c2, rfl, hN1, hN2, hb1⟩)
  clear hN1 hN2 hb1
  go_wp2
  go_ret2
  exact HF.out
/-- limb.divide. -/
theorem divide_any (A B : Option Addr) (n c m d : Nat) (xs ys : List Nat) (w : World) (ha : Rd w A n c xs) (hb : Rd w B m d ys) (nx : Nrm xs) (ny : Nrm ys) (hn : n ≤ 400000) (hy : val ys ≠ 0) :
    Calls Try.prog 69 #[.slice A n c, .slice B m d] w (OutQ w (val xs / val ys) (val xs % val ys)) := by
  rcases Nat.lt_or_ge (val xs) (val ys) with h | h
  · exact divide_less A B n c m d xs ys w ha hb nx ny hn h
  · have hm : m ≠ 0 := by
      intro e
      have hl := hb.len
      rw [e] at hl
      obtain rfl := List.eq_nil_of_length_eq_zero hl
      exact hy rfl
    by_cases h1 : m = 1
    · subst h1; exact divide_one A B n c d xs ys w ha hb nx ny hn h
    · exact divide_long A B n c m d xs ys w ha hb nx ny hn (by omega) h

/-- The end of a call that gives two naturals and an error number. -/
def Out3 (w : World) (qs rs : List Nat) (k : Int) (e : Ending) (w' : World) : Prop :=
  ∃ A n c B m d, e = .returned (.tuple #[.slice A n c, .slice B m d, .int .i64 k]) ∧ Nw w' w.heap.size A n c qs ∧ Nw w' w.heap.size B m d rs ∧ Below w.heap.size w w'
/-- The document's division: the two naturals and the error. -/
def divR (xs ys : List Nat) : List Nat × List Nat × Int :=
  if fmB xs && fmB ys then (if ys.length = 0 then ([], [], 5) else (digs (val xs / val ys), digs (val xs % val ys), 0)) else ([], [], 1)

set_option maxHeartbeats 800000 in
theorem div_bad (A B : Option Addr) (n c m d : Nat) (xs ys : List Nat) (w : World) (ha : Rd w A n c xs) (hb : Rd w B m d ys) (f : (fmB xs && fmB ys) = false) :
    Calls Try.prog 59 #[.slice A n c, .slice B m d] w (Out3 w [] [] 1) := by
  cases fa : fmB xs
  · clear f
    go_enter Try.func59, Try.ntmps59
    go_wp2_with fail
    refine (formed_any _ _ _ xs _ ha).mono ?_
    rintro e w' ⟨rfl, rfl⟩
    go_wp2
    go_ret3
    exact ⟨_, _, _, _, _, _, rfl, Nw.nil _ _, Nw.nil _ _, Below.refl _ _⟩
  · have fb : fmB ys = false := by rw [fa] at f; simpa using f
    clear f
    go_enter Try.func59, Try.ntmps59
    go_wp2_with fail
    refine (formed_any _ _ _ xs _ ha).mono ?_
    rintro e w' ⟨rfl, rfl⟩
    go_wp2_with fail
    refine (formed_any _ _ _ ys _ hb).mono ?_
    rintro e w' ⟨rfl, rfl⟩
    go_wp2
    go_ret3
    exact ⟨_, _, _, _, _, _, rfl, Nw.nil _ _, Nw.nil _ _, Below.refl _ _⟩
set_option maxHeartbeats 800000 in
theorem div_none (A B : Option Addr) (n c d : Nat) (xs ys : List Nat) (w : World) (ha : Rd w A n c xs) (hb : Rd w B 0 d ys) (fa : fmB xs = true) (fb : fmB ys = true) :
    Calls Try.prog 59 #[.slice A n c, .slice B 0 d] w (Out3 w [] [] 5) := by
  go_enter Try.func59, Try.ntmps59
  go_wp2_with fail
  refine (formed_any _ _ _ xs _ ha).mono ?_
  rintro e w' ⟨rfl, rfl⟩
  go_wp2_with fail
  refine (formed_any _ _ _ ys _ hb).mono ?_
  rintro e w' ⟨rfl, rfl⟩
  go_wp2
  go_ret3
  exact ⟨_, _, _, _, _, _, rfl, Nw.nil _ _, Nw.nil _ _, Below.refl _ _⟩
set_option maxHeartbeats 800000 in
theorem div_yes (A B : Option Addr) (n c m d : Nat) (xs ys : List Nat) (w : World) (ha : Rd w A n c xs) (hb : Rd w B m d ys) (fa : fmB xs = true) (fb : fmB ys = true) (hm : m ≠ 0) :
    Calls Try.prog 59 #[.slice A n c, .slice B m d] w (Out3 w (digs (val xs / val ys)) (digs (val xs % val ys)) 0) := by
  have hn : n ≤ 400 := by rw [← ha.len]; exact fmB_len fa
  have HY := Lib.hid (show val ys ≠ 0 by
    intro e
    have h1 := val_eq_zero e (fmB_nrm fb)
    have h2 := hb.len
    rw [h1] at h2
    exact hm h2.symm)
  have h1 : ((m : Int) == 0) = false := by simp; omega
  go_enter Try.func59, Try.ntmps59
  go_wp2_with fail
  refine (formed_any _ _ _ xs _ ha).mono ?_
  rintro e w' ⟨rfl, rfl⟩
  go_wp2_with fail
  refine (formed_any _ _ _ ys _ hb).mono ?_
  rintro e w' ⟨rfl, rfl⟩
  go_wp2_with fail
  refine (divide_any _ _ _ _ _ _ xs ys _ ha hb (fmB_nrm fa) (fmB_nrm fb) (by omega) HY.out).mono ?_
  rintro e w1 ⟨A1, n1, c1, A2, n2, c2, rfl, hN1, hN2, hb1⟩
  go_wp2
  go_ret3
  exact ⟨_, _, _, _, _, _, rfl, hN1, hN2, hb1⟩
/-- limb.DivMod. -/
theorem div_any (A B : Option Addr) (n c m d : Nat) (xs ys : List Nat) (w : World) (ha : Rd w A n c xs) (hb : Rd w B m d ys) :
    Calls Try.prog 59 #[.slice A n c, .slice B m d] w (Out3 w (divR xs ys).1 (divR xs ys).2.1 (divR xs ys).2.2) := by
  cases f : fmB xs && fmB ys
  · have e : divR xs ys = ([], [], 1) := by unfold divR; rw [f]; rfl
    rw [e]; exact div_bad A B n c m d xs ys w ha hb f
  · have f' := f
    rw [Bool.and_eq_true] at f'
    by_cases hl : ys.length = 0
    · have e : divR xs ys = ([], [], 5) := by unfold divR; rw [f, if_pos rfl, if_pos hl]
      have h0 : m = 0 := by rw [← hb.len]; exact hl
      subst h0
      rw [e]; exact div_none A B n c d xs ys w ha hb f'.1 f'.2
    · have e : divR xs ys = (digs (val xs / val ys), digs (val xs % val ys), 0) := by unfold divR; rw [f, if_pos rfl, if_neg hl]
      rw [e]; exact div_yes A B n c m d xs ys w ha hb f'.1 f'.2 (by rw [← hb.len]; exact hl)
end Go.Proofs.Yteicihaigkgbnaa
