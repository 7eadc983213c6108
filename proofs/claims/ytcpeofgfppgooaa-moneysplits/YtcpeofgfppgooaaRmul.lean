/-
  What the reference's mul does. For slices that can be read, of at most 400000 limbs.
-/
import Derived.Test.YtcpeofgfppgooaaMul
import Derived.Test.YtcpeofgfppgooaaAdd
namespace Go.Proofs.Ytcpeofgfppgooaa
open Go.RowKit

/-- make of the reference's naturals. -/
theorem mk34 (L : Int) (n : Nat) (hL : L = n) (hn : n ≤ 1000000) (W : World) :
    (Instr.makeSlice 41 (.int .i64 L) (.int .i64 L)).run Try.prog W = .ok (.slice (some ⟨W.heap.size, 0, none⟩) n n) (W.alloc (.cells (vals (zeros n)) 50)) := by
  obtain ⟨i0, hi, hz0, hz1, hz2⟩ := info_parts info50
  subst hL
  have h := run_make_rowN (P := Try.prog) 41 50 i0 (.int .u32 0) Try.underlying41 hi hz0 .i64 .i64 n n (Nat.le_refl _) (by rw [hz2]; omega) (by omega) W
  rw [hz1, Nat.mul_one, vals_made] at h
  exact h
theorem MulIn.drewN {w wr : World} {L m i x : Nat} {rs ys : List Nat} {cv tv : Value} (h : MulIn w L m i x rs ys cv tv wr) (k : Nat) : MulIn w L m i x rs ys cv tv (wr.drewN k) := by
  obtain ⟨j, q, ts, h1, h2, h3, h4, h5, h6, h7, h8, h9⟩ := h
  exact ⟨j, q, ts, h1, h2, h3, h4, h5.drewN k, h6, h7, below_drewN' h8 k, h9⟩

set_option maxHeartbeats 1600000 in
/-- The reference's mul. -/
theorem rmul_any (A B : Option Addr) (n c m d : Nat) (xs ys : List Nat) (w : World) (ha : Rd w A n c xs) (hb : Rd w B m d ys) (hn : n ≤ 400000) (hm : m ≤ 400000) :
    Calls Try.prog 30 #[.slice A n c, .slice B m d] w (Out w (digs (val xs * val ys))) := by
  have hmk := fun W => mk34 ((n : Int) + (m : Int) + 1) (n + m + 1) (by omega) (by omega) W
  have HX := Lib.hid ha.len
  have HY := Lib.hid hb.len
  go_enter Try.func30, Try.ntmps30
  go_wp2
  go_loopw [18] (fun tv wr => MulRel w (n + m + 1) n m xs ys tv wr) (fun tv _ => n - (intOf tv).toNat)
  case atStart => exact ⟨0, zeros (n + m + 1), Nat.zero_le _, rfl, Blk.new _ _, zeros_len _, Lim_zeros _, (Below.refl _ _).alloc (Nat.le_refl _) _, fun j _ => el_zeros _ _, by rw [val_zeros_]; simp [val]⟩
  case round =>
    obtain ⟨i, rs, hi, rfl, hB, hrl, hrL, hbel, hz, hv⟩ := hrel
    have HR := Lib.hid hrl
    have HZ := Lib.hid hz
    have HV := Lib.hid hv
    clear hmk hrl hz hv
    have hxi := el_lt ha.lim i
    by_cases hin : i < n
    · obtain ⟨b, o, rfl, hbb, hcA⟩ := ha.at_ (by omega)
      have HCA := Lib.hid (hcA i hin)
      clear hcA
      go_wp2
      go_loopw [7, 23] (fun cv tv wr => MulIn w (n + m + 1) m i (el xs i) rs ys cv tv wr) (fun _ tv _ => m - (intOf tv).toNat)
      case atStart => exact ⟨0, 0, rs, Nat.zero_le _, rfl, rfl, by omega, hB, HR.out, hrL, hbel, fun _ _ => rfl, by simp [val]⟩
      case round =>
        obtain ⟨j, q, ts, hj, rfl, rfl, hq, hB2, htl, htL, hbel2, he, heq⟩ := hrel
        have HT := Lib.hid htl
        have HE := Lib.hid he
        have HQ := Lib.hid heq
        clear htl he heq hB
        have hyj := el_lt hb.lim j
        have htj := el_lt htL (i + j)
        have hxy := mul_le _ _ hxi hyj
        by_cases hjm : j < m
        · obtain ⟨b2, o2, rfl, hbb2, hcB⟩ := hb.at_ (by omega)
          have hcy := (hbel2.cell (p := ⟨b2, o2 + j, none⟩) hbb2).trans (hcB j hjm)
          clear hcB
          have hcx := (hbel2.cell (p := ⟨b, o + i, none⟩) hbb).trans HCA.out
          have hf := hB2.frozen (i + j)
          have hc0 := hB2.cell (i := i + j) (by rw [HT.out]; omega)
          go_wp2
          go_quiet (fail)
          go_wp2
          go_roundw
          case rel => exact (MulIn.step hxi hyj hjm (by omega) hq hB2 HT.out htL hbel2 HE.out HQ.out (by omega) (by omega)).drewN nq
          case measure => simp [intOf]; omega
        · obtain rfl : j = m := by omega
          have hf := hB2.frozen (i + j)
          have hc0 := hB2.cell (i := i + j) (by rw [HT.out]; omega)
          go_wp2
          go_roundw
          case rel => exact MulRel.step hin (by omega) (by rw [HY.out]; exact Nat.le_refl _) hq hB2 HT.out htL hbel2 HZ.out HV.out HE.out HQ.out (by omega)
          case measure => simp [intOf]; omega
    · obtain rfl : i = n := by omega
      have HW := Lib.hid (show val rs = val xs * val ys by
        have := HV.out
        rwa [val_take_ge xs i (by rw [HX.out]; exact Nat.le_refl _)] at this)
      go_wp2_with fail
      refine (rtrim_any _ (i + m + 1) (i + m + 1) rs _ (hB.nw hrL HR.out (by omega) (Nat.le_refl _)).1 (by omega)).mono ?_
      rw [HW.out]
      rintro e w2 ⟨R, k, cr, rfl, hN2, hb2⟩
      have HN := Lib.hid (hN2.mono (lo' := w.heap.size) hbel.size)
      have HB := Lib.hid (hbel.trans (hb2.mono hbel.size))
      clear hN2 hb2 hbel hB
      go_wp2
      go_ret
      exact ⟨_, _, _, rfl, HN.out, HB.out⟩
/-- The document's product: the natural and the error. -/
def mulR (xs ys : List Nat) : List Nat × Int :=
  if fmB xs && fmB ys then (if (digs (val xs * val ys)).length ≤ 400 then (digs (val xs * val ys), 0) else ([], 4)) else ([], 1)
set_option maxHeartbeats 400000 in
/-- The reference's Mul, of naturals that are well formed, where the sum is not too long. -/
theorem rMul_yes (A B : Option Addr) (n c m d : Nat) (xs ys : List Nat) (w : World) (ha : Rd w A n c xs) (hb : Rd w B m d ys) (fa : fmB xs = true) (fb : fmB ys = true)
    (hl : (digs (val xs * val ys)).length ≤ 400) :
    Calls Try.prog 23 #[.slice A n c, .slice B m d] w (Out2 w (digs (val xs * val ys)) 0) := by
  have hn : n ≤ 400 := by rw [← ha.len]; exact fmB_len fa
  have hm : m ≤ 400 := by rw [← hb.len]; exact fmB_len fb
  have HL := Lib.hid hl
  clear hl
  go_enter Try.func23, Try.ntmps23
  go_wp2_with fail
  refine (rformed_any _ _ _ xs _ ha).mono ?_
  rintro e w' ⟨rfl, rfl⟩
  go_wp2_with fail
  refine (rformed_any _ _ _ ys _ hb).mono ?_
  rintro e w' ⟨rfl, rfl⟩
  go_wp2_with fail
  refine (rmul_any _ _ _ _ _ _ xs ys _ ha hb (by omega) (by omega)).mono ?_
  rintro e w1 ⟨R, k, cr, rfl, hN, hbel⟩
  have hk : k ≤ 400 := by rw [← hN.1.len]; exact HL.out
  go_wp2_with fail
  refine (bounded_yes _ _ _ _ hk).mono ?_
  rintro e w' ⟨rfl, rfl⟩
  go_wp2
  go_ret2
  exact ⟨_, _, _, rfl, hN, hbel⟩
set_option maxHeartbeats 400000 in
/-- The reference's Mul, where the sum is too long. -/
theorem rMul_long (A B : Option Addr) (n c m d : Nat) (xs ys : List Nat) (w : World) (ha : Rd w A n c xs) (hb : Rd w B m d ys) (fa : fmB xs = true) (fb : fmB ys = true)
    (hl : 400 < (digs (val xs * val ys)).length) :
    Calls Try.prog 23 #[.slice A n c, .slice B m d] w (Out2 w [] 4) := by
  have hn : n ≤ 400 := by rw [← ha.len]; exact fmB_len fa
  have hm : m ≤ 400 := by rw [← hb.len]; exact fmB_len fb
  have HL := Lib.hid hl
  clear hl
  go_enter Try.func23, Try.ntmps23
  go_wp2_with fail
  refine (rformed_any _ _ _ xs _ ha).mono ?_
  rintro e w' ⟨rfl, rfl⟩
  go_wp2_with fail
  refine (rformed_any _ _ _ ys _ hb).mono ?_
  rintro e w' ⟨rfl, rfl⟩
  go_wp2_with fail
  refine (rmul_any _ _ _ _ _ _ xs ys _ ha hb (by omega) (by omega)).mono ?_
  rintro e w1 ⟨R, k, cr, rfl, hN, hbel⟩
  have hk : 400 < k := by rw [← hN.1.len]; exact HL.out
  go_wp2_with fail
  refine (bounded_no _ _ _ _ hk).mono ?_
  rintro e w' ⟨rfl, rfl⟩
  go_wp2
  go_ret2
  exact ⟨_, _, _, rfl, Nw.nil _ _, hbel⟩
set_option maxHeartbeats 400000 in
/-- The reference's Mul, of a natural that is not well formed. -/
theorem rMul_bad (A B : Option Addr) (n c m d : Nat) (xs ys : List Nat) (w : World) (ha : Rd w A n c xs) (hb : Rd w B m d ys) (f : (fmB xs && fmB ys) = false) :
    Calls Try.prog 23 #[.slice A n c, .slice B m d] w (Out2 w [] 1) := by
  cases fa : fmB xs
  · clear f
    go_enter Try.func23, Try.ntmps23
    go_wp2_with fail
    refine (rformed_any _ _ _ xs _ ha).mono ?_
    rintro e w' ⟨rfl, rfl⟩
    go_wp2
    go_ret2
    exact ⟨_, _, _, rfl, Nw.nil _ _, Below.refl _ _⟩
  · have fb : fmB ys = false := by rw [fa] at f; simpa using f
    clear f
    go_enter Try.func23, Try.ntmps23
    go_wp2_with fail
    refine (rformed_any _ _ _ xs _ ha).mono ?_
    rintro e w' ⟨rfl, rfl⟩
    go_wp2_with fail
    refine (rformed_any _ _ _ ys _ hb).mono ?_
    rintro e w' ⟨rfl, rfl⟩
    go_wp2
    go_ret2
    exact ⟨_, _, _, rfl, Nw.nil _ _, Below.refl _ _⟩
theorem rMul_any (A B : Option Addr) (n c m d : Nat) (xs ys : List Nat) (w : World) (ha : Rd w A n c xs) (hb : Rd w B m d ys) :
    Calls Try.prog 23 #[.slice A n c, .slice B m d] w (Out2 w (mulR xs ys).1 (mulR xs ys).2) := by
  cases f : fmB xs && fmB ys
  · have e : mulR xs ys = ([], 1) := by unfold mulR; rw [f]; rfl
    rw [e]; exact rMul_bad A B n c m d xs ys w ha hb f
  · have f' := f
    rw [Bool.and_eq_true] at f'
    by_cases hl : (digs (val xs * val ys)).length ≤ 400
    · have e : mulR xs ys = (digs (val xs * val ys), 0) := by unfold mulR; rw [f, if_pos rfl, if_pos hl]
      rw [e]; exact rMul_yes A B n c m d xs ys w ha hb f'.1 f'.2 hl
    · have e : mulR xs ys = ([], 4) := by unfold mulR; rw [f, if_pos rfl, if_neg hl]
      rw [e]; exact rMul_long A B n c m d xs ys w ha hb f'.1 f'.2 (by omega)
end Go.Proofs.Ytcpeofgfppgooaa
