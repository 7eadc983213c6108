/-
  What limb.divide and limb.DivMod do: the quotient and the rest, in new memory. For slices that can be read; divide for naturals of at most 400000 limbs whose last limb is not 0.
  What the reference's mul does. For slices that can be read, of at most 400000 limbs.
  limb.Formed, Add, Sub, Mul, Cmp of well formed naturals, said of the numbers. For naturals of at most 400 limbs whose result has at most 400.
-/
import Derived.Test.YtehekjlakegkpaaGreatX10
import Derived.Test.YtehekjlakegkpaaGreatX11
import Derived.Test.YtehekjlakegkpaaGreatX08
section
namespace Go.Proofs.YtehekjlakegkpaaGreat
open Go.RowKit

theorem OutQ.drew {w : World} {k q r : Nat} {e : Ending} {w' : World} (h : OutQ (w.drewN k) q r e w') : OutQ w q r e w' := by
  obtain ⟨A, n, c, B, m, d, h1, h2, h3, h4⟩ := h
  exact ⟨A, n, c, B, m, d, h1, h2, h3, ⟨h4.os, h4.tape, h4.output, h4.size, h4.block⟩⟩

set_option maxHeartbeats 800000 in
theorem divide_less (A B : Option Addr) (n c m d : Nat) (xs ys : List Nat) (w : World) (ha : Rd w A n c xs) (hb : Rd w B m d ys) (nx : Nrm xs) (ny : Nrm ys) (hn : n ≤ 400000) (hlt : val xs < val ys) :
    Calls Tryz.prog 157 #[.slice A n c, .slice B m d] w (OutQ w (val xs / val ys) (val xs % val ys)) := by
  have HV := Lib.hid (show digs (val xs / val ys) = [] ∧ digs (val xs % val ys) = xs by
    rw [Nat.div_eq_of_lt hlt, Nat.mod_eq_of_lt hlt, digs_zero, digs_val ha.lim nx]; exact ⟨rfl, rfl⟩)
  have HL := Lib.hid hlt
  clear hlt
  go_enter Tryz.func157, Tryz.ntmps157
  go_wp2_with fail
  refine (cmp_any _ _ _ _ _ _ xs ys _ ha hb nx ny).mono ?_
  rw [cmpN_lt HL.out]
  rintro e w' ⟨rfl, q, rfl⟩
  go_wp2_with (at_builtin; refine wpList_app0 (w.drewN q) rfl (.tmp 12) (.tmp 13) 36 rfl Tryz.underlying36 info50 _ _ _ xs rfl rfl (ha.drewN q) (by omega) ?_; intro A1 c1 w1 hN hb1)
  go_ret2
  exact OutQ.drew (k := q) ⟨_, _, _, _, _, _, rfl, by rw [HV.out.1]; exact Nw.nil _ _, by rw [HV.out.2]; exact hN, hb1⟩

set_option maxHeartbeats 800000 in
theorem divide_one (A B : Option Addr) (n c d : Nat) (xs ys : List Nat) (w : World) (ha : Rd w A n c xs) (hb : Rd w B 1 d ys) (nx : Nrm xs) (ny : Nrm ys) (hn : n ≤ 400000) (hle : val ys ≤ val xs) :
    Calls Tryz.prog 157 #[.slice A n c, .slice B 1 d] w (OutQ w (val xs / val ys) (val xs % val ys)) := by
  have hval : val ys = el ys 0 := by
    have := val_take_one ys
    rwa [val_take_ge ys 1 (by rw [hb.len]; exact Nat.le_refl _)] at this
  have hy0 : 0 < el ys 0 := by
    rcases ny with e | e
    · have := hb.len; rw [e] at this; simp at this
    · rw [hb.len] at e; simp at e; omega
  have hy1 := el_lt hb.lim 0
  have HL := Lib.hid (cmpN_ge hle)
  have HVAL := Lib.hid hval
  clear hle hval
  obtain ⟨bb, bo, rfl, hbb, hcB⟩ := hb.at_ (by omega)
  have hcy := hcB 0 (by omega)
  simp only [Nat.add_zero] at hcy
  clear hcB
  go_enter Tryz.func157, Tryz.ntmps157
  go_wp2_with fail
  refine (cmp_any _ _ _ _ _ _ xs ys _ ha hb nx ny).mono ?_
  rintro e w' ⟨rfl, q, rfl⟩
  have hge := HL.out
  go_wp2_with fail
  refine (dbl_any _ _ _ (el ys 0) xs _ (ha.drewN q) (by omega) hy0 hy1).mono ?_
  rw [← HVAL.out]
  rintro e w1 ⟨A1, n1, c1, rfl, hN1, hb1⟩
  have hr : val xs % val ys < 18446744073709551616 := by
    have := Nat.mod_lt (val xs) (show 0 < val ys by rw [HVAL.out]; exact hy0)
    have := HVAL.out
    omega
  generalize val xs % val ys = r at *
  generalize val xs / val ys = qq at *
  go_wp2_with fail
  refine (of_any r _ hr).mono ?_
  rintro e w2 ⟨A2, n2, c2, rfl, hN2, hb2⟩
  have HF := Lib.hid (OutQ.drew (k := q) (w := w) (q := qq) (r := r) ⟨A1, n1, c1, A2, n2, c2, rfl, hN1.below hb2, hN2.mono hb1.size, hb1.trans (hb2.mono hb1.size)⟩)
  clear hN1 hN2 hb1 hb2
  go_wp2
  go_ret2
  exact HF.out

set_option maxHeartbeats 800000 in
theorem divide_long (A B : Option Addr) (n c m d : Nat) (xs ys : List Nat) (w : World) (ha : Rd w A n c xs) (hb : Rd w B m d ys) (nx : Nrm xs) (ny : Nrm ys) (hn : n ≤ 400000) (hm : 2 ≤ m) (hle : val ys ≤ val xs) :
    Calls Tryz.prog 157 #[.slice A n c, .slice B m d] w (OutQ w (val xs / val ys) (val xs % val ys)) := by
  have hmn : m ≤ n := by
    rcases Nat.lt_or_ge n m with h | h
    · have := val_lt_of_len ha.lim hb.lim ny (by rw [ha.len, hb.len]; exact h)
      omega
    · exact h
  have hy0 : el ys (m - 1) ≠ 0 := by
    rcases ny with e | e
    · have := hb.len; rw [e] at this; simp at this; omega
    · rw [hb.len] at e; exact e
  have HL := Lib.hid (cmpN_ge hle)
  have HY := Lib.hid hy0
  have h1 : ((m : Int) == 1) = false := by simp; omega
  clear hle hy0
  go_enter Tryz.func157, Tryz.ntmps157
  go_wp2_with fail
  refine (cmp_any _ _ _ _ _ _ xs ys _ ha hb nx ny).mono ?_
  rintro e w' ⟨rfl, q, rfl⟩
  have hge := HL.out
  go_wp2_with fail
  refine (long_any _ _ _ _ _ _ xs ys _ (ha.drewN q) (hb.drewN q) hm hmn hn HY.out).mono ?_
  rintro e w1 ⟨A1, n1, c1, A2, n2, c2, rfl, hN1, hN2, hb1⟩
  have HF := Lib.hid (OutQ.drew (k := q) (w := w) ⟨A1, n1, c1, A2, n2, c2, rfl, hN1, hN2, hb1⟩)
  clear hN1 hN2 hb1
  go_wp2
  go_ret2
  exact HF.out
/-- limb.divide. -/
theorem divide_any (A B : Option Addr) (n c m d : Nat) (xs ys : List Nat) (w : World) (ha : Rd w A n c xs) (hb : Rd w B m d ys) (nx : Nrm xs) (ny : Nrm ys) (hn : n ≤ 400000) (hy : val ys ≠ 0) :
    Calls Tryz.prog 157 #[.slice A n c, .slice B m d] w (OutQ w (val xs / val ys) (val xs % val ys)) := by
  rcases Nat.lt_or_ge (val xs) (val ys) with h | h
  · exact divide_less A B n c m d xs ys w ha hb nx ny hn h
  · have hm : m ≠ 0 := by
      intro e
      have hl := hb.len
      rw [e] at hl
      obtain rfl := List.eq_nil_of_length_eq_zero hl
      exact hy rfl
    by_cases h1 : m = 1
    · subst h1; exact divide_one A B n c d xs ys w ha hb nx ny hn h
    · exact divide_long A B n c m d xs ys w ha hb nx ny hn (by omega) h

/-- The end of a call that gives two naturals and an error number. -/
def Out3 (w : World) (qs rs : List Nat) (k : Int) (e : Ending) (w' : World) : Prop :=
  ∃ A n c B m d, e = .returned (.tuple #[.slice A n c, .slice B m d, .int .i64 k]) ∧ Nw w' w.heap.size A n c qs ∧ Nw w' w.heap.size B m d rs ∧ Below w.heap.size w w'
/-- The document's division: the two naturals and the error. -/
def divR (xs ys : List Nat) : List Nat × List Nat × Int :=
  if fmB xs && fmB ys then (if ys.length = 0 then ([], [], 5) else (digs (val xs / val ys), digs (val xs % val ys), 0)) else ([], [], 1)

set_option maxHeartbeats 800000 in
theorem div_bad (A B : Option Addr) (n c m d : Nat) (xs ys : List Nat) (w : World) (ha : Rd w A n c xs) (hb : Rd w B m d ys) (f : (fmB xs && fmB ys) = false) :
    Calls Tryz.prog 122 #[.slice A n c, .slice B m d] w (Out3 w [] [] 1) := by
  cases fa : fmB xs
  · clear f
    go_enter Tryz.func122, Tryz.ntmps122
    go_wp2_with fail
    refine (formed_any _ _ _ xs _ ha).mono ?_
    rintro e w' ⟨rfl, rfl⟩
    go_wp2
    go_ret3
    exact ⟨_, _, _, _, _, _, rfl, Nw.nil _ _, Nw.nil _ _, Below.refl _ _⟩
  · have fb : fmB ys = false := by rw [fa] at f; simpa using f
    clear f
    go_enter Tryz.func122, Tryz.ntmps122
    go_wp2_with fail
    refine (formed_any _ _ _ xs _ ha).mono ?_
    rintro e w' ⟨rfl, rfl⟩
    go_wp2_with fail
    refine (formed_any _ _ _ ys _ hb).mono ?_
    rintro e w' ⟨rfl, rfl⟩
    go_wp2
    go_ret3
    exact ⟨_, _, _, _, _, _, rfl, Nw.nil _ _, Nw.nil _ _, Below.refl _ _⟩
set_option maxHeartbeats 800000 in
theorem div_none (A B : Option Addr) (n c d : Nat) (xs ys : List Nat) (w : World) (ha : Rd w A n c xs) (hb : Rd w B 0 d ys) (fa : fmB xs = true) (fb : fmB ys = true) :
    Calls Tryz.prog 122 #[.slice A n c, .slice B 0 d] w (Out3 w [] [] 5) := by
  go_enter Tryz.func122, Tryz.ntmps122
  go_wp2_with fail
  refine (formed_any _ _ _ xs _ ha).mono ?_
  rintro e w' ⟨rfl, rfl⟩
  go_wp2_with fail
  refine (formed_any _ _ _ ys _ hb).mono ?_
  rintro e w' ⟨rfl, rfl⟩
  go_wp2
  go_ret3
  exact ⟨_, _, _, _, _, _, rfl, Nw.nil _ _, Nw.nil _ _, Below.refl _ _⟩
set_option maxHeartbeats 800000 in
theorem div_yes (A B : Option Addr) (n c m d : Nat) (xs ys : List Nat) (w : World) (ha : Rd w A n c xs) (hb : Rd w B m d ys) (fa : fmB xs = true) (fb : fmB ys = true) (hm : m ≠ 0) :
    Calls Tryz.prog 122 #[.slice A n c, .slice B m d] w (Out3 w (digs (val xs / val ys)) (digs (val xs % val ys)) 0) := by
  have hn : n ≤ 400 := by rw [← ha.len]; exact fmB_len fa
  have HY := Lib.hid (show val ys ≠ 0 by
    intro e
    have h1 := val_eq_zero e (fmB_nrm fb)
    have h2 := hb.len
    rw [h1] at h2
    exact hm h2.symm)
  have h1 : ((m : Int) == 0) = false := by simp; omega
  go_enter Tryz.func122, Tryz.ntmps122
  go_wp2_with fail
  refine (formed_any _ _ _ xs _ ha).mono ?_
  rintro e w' ⟨rfl, rfl⟩
  go_wp2_with fail
  refine (formed_any _ _ _ ys _ hb).mono ?_
  rintro e w' ⟨rfl, rfl⟩
  go_wp2_with fail
  refine (divide_any _ _ _ _ _ _ xs ys _ ha hb (fmB_nrm fa) (fmB_nrm fb) (by omega) HY.out).mono ?_
  rintro e w1 ⟨A1, n1, c1, A2, n2, c2, rfl, hN1, hN2, hb1⟩
  go_wp2
  go_ret3
  exact ⟨_, _, _, _, _, _, rfl, hN1, hN2, hb1⟩
/-- limb.DivMod. -/
theorem div_any (A B : Option Addr) (n c m d : Nat) (xs ys : List Nat) (w : World) (ha : Rd w A n c xs) (hb : Rd w B m d ys) :
    Calls Tryz.prog 122 #[.slice A n c, .slice B m d] w (Out3 w (divR xs ys).1 (divR xs ys).2.1 (divR xs ys).2.2) := by
  cases f : fmB xs && fmB ys
  · have e : divR xs ys = ([], [], 1) := by unfold divR; rw [f]; rfl
    rw [e]; exact div_bad A B n c m d xs ys w ha hb f
  · have f' := f
    rw [Bool.and_eq_true] at f'
    by_cases hl : ys.length = 0
    · have e : divR xs ys = ([], [], 5) := by unfold divR; rw [f, if_pos rfl, if_pos hl]
      have h0 : m = 0 := by rw [← hb.len]; exact hl
      subst h0
      rw [e]; exact div_none A B n c d xs ys w ha hb f'.1 f'.2
    · have e : divR xs ys = (digs (val xs / val ys), digs (val xs % val ys), 0) := by unfold divR; rw [f, if_pos rfl, if_neg hl]
      rw [e]; exact div_yes A B n c m d xs ys w ha hb f'.1 f'.2 (by rw [← hb.len]; exact hl)
end Go.Proofs.YtehekjlakegkpaaGreat
end
section
namespace Go.Proofs.YtehekjlakegkpaaGreat
open Go.RowKit

/-- make of the reference's naturals. -/
theorem mk34 (L : Int) (n : Nat) (hL : L = n) (hn : n ≤ 1000000) (W : World) :
    (Instr.makeSlice 50 (.int .i64 L) (.int .i64 L)).run Tryz.prog W = .ok (.slice (some ⟨W.heap.size, 0, none⟩) n n) (W.alloc (.cells (vals (zeros n)) 69)) := by
  obtain ⟨i0, hi, hz0, hz1, hz2⟩ := info_parts info50
  subst hL
  have h := run_make_rowN (P := Tryz.prog) 50 69 i0 (.int .u32 0) Tryz.underlying50 hi hz0 .i64 .i64 n n (Nat.le_refl _) (by rw [hz2]; omega) (by omega) W
  rw [hz1, Nat.mul_one, vals_made] at h
  exact h
theorem MulIn.drewN {w wr : World} {L m i x : Nat} {rs ys : List Nat} {cv tv : Value} (h : MulIn w L m i x rs ys cv tv wr) (k : Nat) : MulIn w L m i x rs ys cv tv (wr.drewN k) := by
  obtain ⟨j, q, ts, h1, h2, h3, h4, h5, h6, h7, h8, h9⟩ := h
  exact ⟨j, q, ts, h1, h2, h3, h4, h5.drewN k, h6, h7, below_drewN' h8 k, h9⟩

set_option maxHeartbeats 1600000 in
/-- The reference's mul. -/
theorem rmul_any (A B : Option Addr) (n c m d : Nat) (xs ys : List Nat) (w : World) (ha : Rd w A n c xs) (hb : Rd w B m d ys) (hn : n ≤ 400000) (hm : m ≤ 400000) :
    Calls Tryz.prog 111 #[.slice A n c, .slice B m d] w (Out w (digs (val xs * val ys))) := by
  have hmk := fun W => mk34 ((n : Int) + (m : Int) + 1) (n + m + 1) (by omega) (by omega) W
  have HX := Lib.hid ha.len
  have HY := Lib.hid hb.len
  go_enter Tryz.func111, Tryz.ntmps111
  go_wp2
  go_loopw [18] (fun tv wr => MulRel w (n + m + 1) n m xs ys tv wr) (fun tv _ => n - (intOf tv).toNat)
  case atStart => exact ⟨0, zeros (n + m + 1), Nat.zero_le _, rfl, Blk.new _ _, zeros_len _, Lim_zeros _, (Below.refl _ _).alloc (Nat.le_refl _) _, fun j _ => el_zeros _ _, by rw [val_zeros_]; simp [val]⟩
  case round =>
    obtain ⟨i, rs, hi, rfl, hB, hrl, hrL, hbel, hz, hv⟩ := hrel
    have HR := Lib.hid hrl
    have HZ := Lib.hid hz
    have HV := Lib.hid hv
    clear hmk hrl hz hv
    have hxi := el_lt ha.lim i
    by_cases hin : i < n
    · obtain ⟨b, o, rfl, hbb, hcA⟩ := ha.at_ (by omega)
      have HCA := Lib.hid (hcA i hin)
      clear hcA
      go_wp2
      go_loopw [7, 23] (fun cv tv wr => MulIn w (n + m + 1) m i (el xs i) rs ys cv tv wr) (fun _ tv _ => m - (intOf tv).toNat)
      case atStart => exact ⟨0, 0, rs, Nat.zero_le _, rfl, rfl, by omega, hB, HR.out, hrL, hbel, fun _ _ => rfl, by simp [val]⟩
      case round =>
        obtain ⟨j, q, ts, hj, rfl, rfl, hq, hB2, htl, htL, hbel2, he, heq⟩ := hrel
        have HT := Lib.hid htl
        have HE := Lib.hid he
        have HQ := Lib.hid heq
        clear htl he heq hB
        have hyj := el_lt hb.lim j
        have htj := el_lt htL (i + j)
        have hxy := mul_le _ _ hxi hyj
        by_cases hjm : j < m
        · obtain ⟨b2, o2, rfl, hbb2, hcB⟩ := hb.at_ (by omega)
          have hcy := (hbel2.cell (p := ⟨b2, o2 + j, none⟩) hbb2).trans (hcB j hjm)
          clear hcB
          have hcx := (hbel2.cell (p := ⟨b, o + i, none⟩) hbb).trans HCA.out
          have hf := hB2.frozen (i + j)
          have hc0 := hB2.cell (i := i + j) (by rw [HT.out]; omega)
          go_wp2
          go_quiet (fail)
          go_wp2
          go_roundw
          case rel => exact (MulIn.step hxi hyj hjm (by omega) hq hB2 HT.out htL hbel2 HE.out HQ.out (by omega) (by omega)).drewN nq
          case measure => simp [intOf]; omega
        · obtain rfl : j = m := by omega
          have hf := hB2.frozen (i + j)
          have hc0 := hB2.cell (i := i + j) (by rw [HT.out]; omega)
          go_wp2
          go_roundw
          case rel => exact MulRel.step hin (by omega) (by rw [HY.out]; exact Nat.le_refl _) hq hB2 HT.out htL hbel2 HZ.out HV.out HE.out HQ.out (by omega)
          case measure => simp [intOf]; omega
    · obtain rfl : i = n := by omega
      have HW := Lib.hid (show val rs = val xs * val ys by
        have := HV.out
        rwa [val_take_ge xs i (by rw [HX.out]; exact Nat.le_refl _)] at this)
      go_wp2_with fail
      refine (rtrim_any _ (i + m + 1) (i + m + 1) rs _ (hB.nw hrL HR.out (by omega) (Nat.le_refl _)).1 (by omega)).mono ?_
      rw [HW.out]
      rintro e w2 ⟨R, k, cr, rfl, hN2, hb2⟩
      have HN := Lib.hid (hN2.mono (lo' := w.heap.size) hbel.size)
      have HB := Lib.hid (hbel.trans (hb2.mono hbel.size))
      clear hN2 hb2 hbel hB
      go_wp2
      go_ret
      exact ⟨_, _, _, rfl, HN.out, HB.out⟩
set_option maxHeartbeats 400000 in
/-- limb.Mul, of naturals that are well formed, where the sum is not too long. -/
theorem mul_yes (A B : Option Addr) (n c m d : Nat) (xs ys : List Nat) (w : World) (ha : Rd w A n c xs) (hb : Rd w B m d ys) (fa : fmB xs = true) (fb : fmB ys = true)
    (hl : (digs (val xs * val ys)).length ≤ 400) :
    Calls Tryz.prog 102 #[.slice A n c, .slice B m d] w (Out2 w (digs (val xs * val ys)) 0) := by
  have hn : n ≤ 400 := by rw [← ha.len]; exact fmB_len fa
  have hm : m ≤ 400 := by rw [← hb.len]; exact fmB_len fb
  have HL := Lib.hid hl
  clear hl
  go_enter Tryz.func102, Tryz.ntmps102
  go_wp2_with fail
  refine (formed_any _ _ _ xs _ ha).mono ?_
  rintro e w' ⟨rfl, rfl⟩
  go_wp2_with fail
  refine (formed_any _ _ _ ys _ hb).mono ?_
  rintro e w' ⟨rfl, rfl⟩
  go_wp2_with fail
  refine (prod_any _ _ _ _ _ _ xs ys _ ha hb (by omega) (by omega)).mono ?_
  rintro e w1 ⟨R, k, cr, rfl, hN, hbel⟩
  have hk : k ≤ 400 := by rw [← hN.1.len]; exact HL.out
  go_wp2_with fail
  refine (limited_yes _ _ _ _ hk).mono ?_
  rintro e w' ⟨rfl, rfl⟩
  go_wp2
  go_ret2
  exact ⟨_, _, _, rfl, hN, hbel⟩
set_option maxHeartbeats 400000 in
/-- limb.Mul, where the sum is too long. -/
theorem mul_long (A B : Option Addr) (n c m d : Nat) (xs ys : List Nat) (w : World) (ha : Rd w A n c xs) (hb : Rd w B m d ys) (fa : fmB xs = true) (fb : fmB ys = true)
    (hl : 400 < (digs (val xs * val ys)).length) :
    Calls Tryz.prog 102 #[.slice A n c, .slice B m d] w (Out2 w [] 4) := by
  have hn : n ≤ 400 := by rw [← ha.len]; exact fmB_len fa
  have hm : m ≤ 400 := by rw [← hb.len]; exact fmB_len fb
  have HL := Lib.hid hl
  clear hl
  go_enter Tryz.func102, Tryz.ntmps102
  go_wp2_with fail
  refine (formed_any _ _ _ xs _ ha).mono ?_
  rintro e w' ⟨rfl, rfl⟩
  go_wp2_with fail
  refine (formed_any _ _ _ ys _ hb).mono ?_
  rintro e w' ⟨rfl, rfl⟩
  go_wp2_with fail
  refine (prod_any _ _ _ _ _ _ xs ys _ ha hb (by omega) (by omega)).mono ?_
  rintro e w1 ⟨R, k, cr, rfl, hN, hbel⟩
  have hk : 400 < k := by rw [← hN.1.len]; exact HL.out
  go_wp2_with fail
  refine (limited_no _ _ _ _ hk).mono ?_
  rintro e w' ⟨rfl, rfl⟩
  go_wp2
  go_ret2
  exact ⟨_, _, _, rfl, Nw.nil _ _, hbel⟩
set_option maxHeartbeats 400000 in
/-- limb.Mul, of a natural that is not well formed. -/
theorem mul_bad (A B : Option Addr) (n c m d : Nat) (xs ys : List Nat) (w : World) (ha : Rd w A n c xs) (hb : Rd w B m d ys) (f : (fmB xs && fmB ys) = false) :
    Calls Tryz.prog 102 #[.slice A n c, .slice B m d] w (Out2 w [] 1) := by
  cases fa : fmB xs
  · clear f
    go_enter Tryz.func102, Tryz.ntmps102
    go_wp2_with fail
    refine (formed_any _ _ _ xs _ ha).mono ?_
    rintro e w' ⟨rfl, rfl⟩
    go_wp2
    go_ret2
    exact ⟨_, _, _, rfl, Nw.nil _ _, Below.refl _ _⟩
  · have fb : fmB ys = false := by rw [fa] at f; simpa using f
    clear f
    go_enter Tryz.func102, Tryz.ntmps102
    go_wp2_with fail
    refine (formed_any _ _ _ xs _ ha).mono ?_
    rintro e w' ⟨rfl, rfl⟩
    go_wp2_with fail
    refine (formed_any _ _ _ ys _ hb).mono ?_
    rintro e w' ⟨rfl, rfl⟩
    go_wp2
    go_ret2
    exact ⟨_, _, _, rfl, Nw.nil _ _, Below.refl _ _⟩
/-- The document's product: the natural and the error. -/
def mulR (xs ys : List Nat) : List Nat × Int :=
  if fmB xs && fmB ys then (if (digs (val xs * val ys)).length ≤ 400 then (digs (val xs * val ys), 0) else ([], 4)) else ([], 1)
theorem mul_any (A B : Option Addr) (n c m d : Nat) (xs ys : List Nat) (w : World) (ha : Rd w A n c xs) (hb : Rd w B m d ys) :
    Calls Tryz.prog 102 #[.slice A n c, .slice B m d] w (Out2 w (mulR xs ys).1 (mulR xs ys).2) := by
  cases f : fmB xs && fmB ys
  · have e : mulR xs ys = ([], 1) := by unfold mulR; rw [f]; rfl
    rw [e]; exact mul_bad A B n c m d xs ys w ha hb f
  · have f' := f
    rw [Bool.and_eq_true] at f'
    by_cases hl : (digs (val xs * val ys)).length ≤ 400
    · have e : mulR xs ys = (digs (val xs * val ys), 0) := by unfold mulR; rw [f, if_pos rfl, if_pos hl]
      rw [e]; exact mul_yes A B n c m d xs ys w ha hb f'.1 f'.2 hl
    · have e : mulR xs ys = ([], 4) := by unfold mulR; rw [f, if_pos rfl, if_neg hl]
      rw [e]; exact mul_long A B n c m d xs ys w ha hb f'.1 f'.2 (by omega)
set_option maxHeartbeats 400000 in
/-- The reference's Mul, of naturals that are well formed, where the sum is not too long. -/
theorem rMul_yes (A B : Option Addr) (n c m d : Nat) (xs ys : List Nat) (w : World) (ha : Rd w A n c xs) (hb : Rd w B m d ys) (fa : fmB xs = true) (fb : fmB ys = true)
    (hl : (digs (val xs * val ys)).length ≤ 400) :
    Calls Tryz.prog 56 #[.slice A n c, .slice B m d] w (Out2 w (digs (val xs * val ys)) 0) := by
  have hn : n ≤ 400 := by rw [← ha.len]; exact fmB_len fa
  have hm : m ≤ 400 := by rw [← hb.len]; exact fmB_len fb
  have HL := Lib.hid hl
  clear hl
  go_enter Tryz.func56, Tryz.ntmps56
  go_wp2_with fail
  refine (rformed_any _ _ _ xs _ ha).mono ?_
  rintro e w' ⟨rfl, rfl⟩
  go_wp2_with fail
  refine (rformed_any _ _ _ ys _ hb).mono ?_
  rintro e w' ⟨rfl, rfl⟩
  go_wp2_with fail
  refine (rmul_any _ _ _ _ _ _ xs ys _ ha hb (by omega) (by omega)).mono ?_
  rintro e w1 ⟨R, k, cr, rfl, hN, hbel⟩
  have hk : k ≤ 400 := by rw [← hN.1.len]; exact HL.out
  go_wp2_with fail
  refine (bounded_yes _ _ _ _ hk).mono ?_
  rintro e w' ⟨rfl, rfl⟩
  go_wp2
  go_ret2
  exact ⟨_, _, _, rfl, hN, hbel⟩
set_option maxHeartbeats 400000 in
/-- The reference's Mul, where the sum is too long. -/
theorem rMul_long (A B : Option Addr) (n c m d : Nat) (xs ys : List Nat) (w : World) (ha : Rd w A n c xs) (hb : Rd w B m d ys) (fa : fmB xs = true) (fb : fmB ys = true)
    (hl : 400 < (digs (val xs * val ys)).length) :
    Calls Tryz.prog 56 #[.slice A n c, .slice B m d] w (Out2 w [] 4) := by
  have hn : n ≤ 400 := by rw [← ha.len]; exact fmB_len fa
  have hm : m ≤ 400 := by rw [← hb.len]; exact fmB_len fb
  have HL := Lib.hid hl
  clear hl
  go_enter Tryz.func56, Tryz.ntmps56
  go_wp2_with fail
  refine (rformed_any _ _ _ xs _ ha).mono ?_
  rintro e w' ⟨rfl, rfl⟩
  go_wp2_with fail
  refine (rformed_any _ _ _ ys _ hb).mono ?_
  rintro e w' ⟨rfl, rfl⟩
  go_wp2_with fail
  refine (rmul_any _ _ _ _ _ _ xs ys _ ha hb (by omega) (by omega)).mono ?_
  rintro e w1 ⟨R, k, cr, rfl, hN, hbel⟩
  have hk : 400 < k := by rw [← hN.1.len]; exact HL.out
  go_wp2_with fail
  refine (bounded_no _ _ _ _ hk).mono ?_
  rintro e w' ⟨rfl, rfl⟩
  go_wp2
  go_ret2
  exact ⟨_, _, _, rfl, Nw.nil _ _, hbel⟩
set_option maxHeartbeats 400000 in
/-- The reference's Mul, of a natural that is not well formed. -/
theorem rMul_bad (A B : Option Addr) (n c m d : Nat) (xs ys : List Nat) (w : World) (ha : Rd w A n c xs) (hb : Rd w B m d ys) (f : (fmB xs && fmB ys) = false) :
    Calls Tryz.prog 56 #[.slice A n c, .slice B m d] w (Out2 w [] 1) := by
  cases fa : fmB xs
  · clear f
    go_enter Tryz.func56, Tryz.ntmps56
    go_wp2_with fail
    refine (rformed_any _ _ _ xs _ ha).mono ?_
    rintro e w' ⟨rfl, rfl⟩
    go_wp2
    go_ret2
    exact ⟨_, _, _, rfl, Nw.nil _ _, Below.refl _ _⟩
  · have fb : fmB ys = false := by rw [fa] at f; simpa using f
    clear f
    go_enter Tryz.func56, Tryz.ntmps56
    go_wp2_with fail
    refine (rformed_any _ _ _ xs _ ha).mono ?_
    rintro e w' ⟨rfl, rfl⟩
    go_wp2_with fail
    refine (rformed_any _ _ _ ys _ hb).mono ?_
    rintro e w' ⟨rfl, rfl⟩
    go_wp2
    go_ret2
    exact ⟨_, _, _, rfl, Nw.nil _ _, Below.refl _ _⟩
theorem rMul_any (A B : Option Addr) (n c m d : Nat) (xs ys : List Nat) (w : World) (ha : Rd w A n c xs) (hb : Rd w B m d ys) :
    Calls Tryz.prog 56 #[.slice A n c, .slice B m d] w (Out2 w (mulR xs ys).1 (mulR xs ys).2) := by
  cases f : fmB xs && fmB ys
  · have e : mulR xs ys = ([], 1) := by unfold mulR; rw [f]; rfl
    rw [e]; exact rMul_bad A B n c m d xs ys w ha hb f
  · have f' := f
    rw [Bool.and_eq_true] at f'
    by_cases hl : (digs (val xs * val ys)).length ≤ 400
    · have e : mulR xs ys = (digs (val xs * val ys), 0) := by unfold mulR; rw [f, if_pos rfl, if_pos hl]
      rw [e]; exact rMul_yes A B n c m d xs ys w ha hb f'.1 f'.2 hl
    · have e : mulR xs ys = ([], 4) := by unfold mulR; rw [f, if_pos rfl, if_neg hl]
      rw [e]; exact rMul_long A B n c m d xs ys w ha hb f'.1 f'.2 (by omega)
end Go.Proofs.YtehekjlakegkpaaGreat
end
section
namespace Go.Proofs.YtehekjlakegkpaaGreat
open Go.RowKit

theorem fm_digs {a : Nat} (h : (digs a).length ≤ 400) : fmB (digs a) = true := by rw [fmB_digs]; simpa using h
theorem digs_of {xs : List Nat} (hl : Lim xs) (h : fmB xs = true) : ∃ a, xs = digs a ∧ (digs a).length ≤ 400 :=
  ⟨val xs, (digs_val hl (fmB_nrm h)).symm, by rw [digs_val hl (fmB_nrm h)]; exact fmB_len h⟩
theorem len_add {a b i : Nat} (ha : (digs a).length ≤ i) (hb : (digs b).length ≤ i) : (digs (a + b)).length ≤ i + 1 := by
  rw [len_digs_iff] at *
  rw [pw_succ]; omega
theorem len_mul {a b i j : Nat} (ha : (digs a).length ≤ i) (hb : (digs b).length ≤ j) : (digs (a * b)).length ≤ i + j := by
  rw [len_digs_iff] at *
  rw [pw_add]
  rcases Nat.eq_zero_or_pos a with h | h
  · subst h; rw [Nat.zero_mul]; exact Nat.mul_pos (pw_pos i) (pw_pos j)
  · exact Nat.lt_of_lt_of_le (Nat.mul_lt_mul_of_pos_left hb h) (Nat.mul_le_mul_right _ (by omega))
section
variable (A B : Option Addr) (n c m d a b : Nat) (w : World)
theorem formed_nat (ha : Rd w A n c (digs a)) (la : (digs a).length ≤ 400) :
    Calls Tryz.prog 97 #[.slice A n c] w fun e w' => e = .returned (.bool true) ∧ w = w' := by
  have := formed_any A n c (digs a) w ha
  rw [fm_digs la] at this; exact this
theorem add_nat (ha : Rd w A n c (digs a)) (hb : Rd w B m d (digs b)) (la : (digs a).length ≤ 400) (lb : (digs b).length ≤ 400) (lr : (digs (a + b)).length ≤ 400) :
    Calls Tryz.prog 49 #[.slice A n c, .slice B m d] w (Out2 w (digs (a + b)) 0) := by
  have := add_yes A B n c m d (digs a) (digs b) w ha hb (fm_digs la) (fm_digs lb) (by rw [val_digs, val_digs]; exact lr)
  rw [val_digs, val_digs] at this; exact this
theorem mul_nat (ha : Rd w A n c (digs a)) (hb : Rd w B m d (digs b)) (la : (digs a).length ≤ 400) (lb : (digs b).length ≤ 400) (lr : (digs (a * b)).length ≤ 400) :
    Calls Tryz.prog 102 #[.slice A n c, .slice B m d] w (Out2 w (digs (a * b)) 0) := by
  have := mul_yes A B n c m d (digs a) (digs b) w ha hb (fm_digs la) (fm_digs lb) (by rw [val_digs, val_digs]; exact lr)
  rw [val_digs, val_digs] at this; exact this
theorem sub_nat (ha : Rd w A n c (digs a)) (hb : Rd w B m d (digs b)) (la : (digs a).length ≤ 400) (lb : (digs b).length ≤ 400) (h : b ≤ a) :
    Calls Tryz.prog 123 #[.slice A n c, .slice B m d] w (Out2 w (digs (a - b)) 0) := by
  have := Sub_yes A B n c m d (digs a) (digs b) w ha hb (fm_digs la) (fm_digs lb) (by rw [val_digs, val_digs]; exact h)
  rw [val_digs, val_digs] at this; exact this
theorem cmp_nat (ha : Rd w A n c (digs a)) (hb : Rd w B m d (digs b)) (la : (digs a).length ≤ 400) (lb : (digs b).length ≤ 400) :
    Calls Tryz.prog 45 #[.slice A n c, .slice B m d] w (Quiet w (.int .i64 (cmpN a b))) := by
  have := Cmp_any A B n c m d (digs a) (digs b) w ha hb
  have e : cmpR (digs a) (digs b) = cmpN a b := by unfold cmpR; rw [fm_digs la, fm_digs lb, val_digs, val_digs]; rfl
  rw [e] at this; exact this
theorem cmp_same (ha : Rd w A n c (digs a)) (hb : Rd w B m d (digs a)) (la : (digs a).length ≤ 400) :
    Calls Tryz.prog 45 #[.slice A n c, .slice B m d] w (Quiet w (.int .i64 0)) := by
  have := cmp_nat A B n c m d a a w ha hb la la
  rw [cmpN_eq] at this; exact this
end
end Go.Proofs.YtehekjlakegkpaaGreat
end
