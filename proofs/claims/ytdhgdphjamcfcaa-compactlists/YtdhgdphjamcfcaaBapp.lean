/-
  What compact.appendLittle, compact.appendNumber, compact.roomy and compact.Append do: the bytes of a number behind what is there, in memory of the call's own. For slices of bytes that can be read, of at most 190000000000000 bytes.
-/
import Derived.Test.YtdhgdphjamcfcaaBnum
namespace Go.Proofs.Ytdhgdphjamcfcaa
open Go.RowKit

/-- The ending of a call that makes bytes, in rows from base on. -/
def OutO (w : World) (base : Nat) (bs : List Nat) (e : Ending) (w' : World) : Prop :=
  ∃ A n c, e = .returned (.slice A n c) ∧ Owk .u8 5 w' base A n c bs ∧ Below base w w'
def LitRel (w : World) (base N n0 size : Nat) (xs : List Nat) (bv nv tv : Value) (wr : World) : Prop :=
  ∃ (k c m : Nat) (A : Option Addr), k ≤ size ∧ bv = .slice A (n0 + k) c ∧ nv = .int .u64 (m : Int) ∧ Hid (N / pb k = m) ∧ tv = .int .i64 (k : Int) ∧ Owk .u8 5 wr base A (n0 + k) c (xs ++ lb k N) ∧ Below base w wr

set_option maxHeartbeats 800000 in
/-- compact.appendLittle. -/
theorem aplit_any (A : Option Addr) (n c N size base : Nat) (xs : List Nat) (w : World) (h : Owk .u8 5 w base A n c xs) (hbase : base ≤ w.heap.size) (hN : N < 18446744073709551616) (hs : size ≤ 9) (hn : n ≤ 190000000000000) :
    Calls Try.prog 26 #[.slice A n c, .int .u64 N, .int .i64 size] w (OutO w base (xs ++ lb size N)) := by
  go_enter Try.func26, Try.ntmps26
  go_wp2
  go_loopw [0, 1, 8] (fun bv nv tv wr => LitRel w base N n size xs bv nv tv wr) (fun _ _ tv _ => size - (intOf tv).toNat)
  case atStart => exact ⟨0, c, N, A, by omega, rfl, rfl, Lib.hid (by simp [pb]), rfl, by simpa [lb] using h, Below.refl _ _⟩
  case round =>
    obtain ⟨k, c1, m, A1, hk, rfl, rfl, HM, rfl, hO, hbel⟩ := hrel
    have hsz := hbel.size
    have hm : m < 18446744073709551616 := by rw [← HM.out]; exact Nat.lt_of_le_of_lt (Nat.div_le_self _ _) hN
    by_cases hlt : k < size
    · go_wp2_with (at_builtin; refine wpList_appk _ .u8 5 1 rfl (.tmp 10) (.tmp 13) 22 rfl base Try.underlying22 infoB _ _ _ _ 1 1 (xs ++ lb k N) [m % 256] rfl rfl (hO.alloc _) (rk_one _ _ _ _ _ (by omega)) (by unfold maxLen; omega) (by omega) (by simp; omega) ?_; intro A2 c2 w2 hO2 hb2)
      go_roundw
      case rel => exact ⟨k + 1, c2, m / 256, A2, by omega, rfl, by go_num, Lib.hid (by rw [pb_succ, Nat.mul_comm, ← Nat.div_div_eq_div_mul, HM.out]), by go_num, by rw [lb_succ, HM.out, ← List.append_assoc]; exact hO2, (hbel.alloc (by omega) _).trans hb2⟩
      case measure => simp [intOf]; omega
    · obtain rfl : k = size := by omega
      go_wp2
      go_ret
      exact ⟨_, _, _, rfl, hO, hbel⟩
theorem i_or3 (k : Nat) (h : k ≤ 100) : bits .or .i64 ((k : Int) * 4) 3 = ((4 * k + 3 : Nat) : Int) := by
  have : ∀ j : Fin 101, bits .or .i64 ((j.val : Int) * 4) 3 = ((4 * j.val + 3 : Nat) : Int) := by decide +kernel
  exact this ⟨k, by omega⟩
theorem lb_one (n : Nat) (h : n < 64) : lb 1 (4 * n) = [4 * n] := by
  simp only [lb]; congr 1; omega
set_option maxHeartbeats 800000 in
/-- compact.appendNumber. -/
theorem apnum_any (A : Option Addr) (n c N base : Nat) (xs : List Nat) (w : World) (h : Owk .u8 5 w base A n c xs) (hbase : base ≤ w.heap.size) (hN : N < 18446744073709551616) (hn : n ≤ 180000000000000) :
    Calls Try.prog 20 #[.slice A n c, .int .u64 N] w (OutO w base (xs ++ nb N)) := by
  by_cases h1 : N < 64
  · have HV := Lib.hid (show nb N = lb 1 (4 * N) by rw [lb_one N h1]; unfold nb; rw [if_pos h1])
    have HS := Lib.hid (show sz N = 1 by unfold sz; rw [if_pos h1])
    have ho : bits .or .u64 ((N : Int) * 4) 0 = ((4 * N : Nat) : Int) := or_low2 N 0 (by omega) (by omega)
    go_enter Try.func20, Try.ntmps20
    go_wp2_with fail
    refine (size_any N _ hN).mono ?_
    rw [HS.out]
    rintro e w' ⟨rfl, rfl⟩
    go_wp2_with fail
    refine (aplit_any A n c (4 * N) 1 base xs _ h hbase (by omega) (by omega) (by omega)).mono ?_
    rw [← HV.out]
    rintro e w1 ⟨A1, n1, c1, rfl, hO1, hb1⟩
    go_wp2
    go_ret
    exact ⟨_, _, _, rfl, hO1, hb1⟩
  · by_cases h2 : N < 16384
    · have HV := Lib.hid (show nb N = lb 2 (4 * N + 1) by unfold nb; rw [if_neg h1, if_pos h2])
      have HS := Lib.hid (show sz N = 2 by unfold sz; rw [if_neg h1, if_pos h2])
      have ho : bits .or .u64 ((N : Int) * 4) 1 = ((4 * N + 1 : Nat) : Int) := or_low2 N 1 (by omega) (by omega)
      go_enter Try.func20, Try.ntmps20
      go_wp2_with fail
      refine (size_any N _ hN).mono ?_
      rw [HS.out]
      rintro e w' ⟨rfl, rfl⟩
      go_wp2_with fail
      refine (aplit_any A n c (4 * N + 1) 2 base xs _ h hbase (by omega) (by omega) (by omega)).mono ?_
      rw [← HV.out]
      rintro e w1 ⟨A1, n1, c1, rfl, hO1, hb1⟩
      go_wp2
      go_ret
      exact ⟨_, _, _, rfl, hO1, hb1⟩
    · by_cases h3 : N < 1073741824
      · have HV := Lib.hid (show nb N = lb 4 (4 * N + 2) by unfold nb; rw [if_neg h1, if_neg h2, if_pos h3])
        have HS := Lib.hid (show sz N = 4 by unfold sz; rw [if_neg h1, if_neg h2, if_pos h3])
        have ho : bits .or .u64 ((N : Int) * 4) 2 = ((4 * N + 2 : Nat) : Int) := or_low2 N 2 (by omega) (by omega)
        go_enter Try.func20, Try.ntmps20
        go_wp2_with fail
        refine (size_any N _ hN).mono ?_
        rw [HS.out]
        rintro e w' ⟨rfl, rfl⟩
        go_wp2_with fail
        refine (aplit_any A n c (4 * N + 2) 4 base xs _ h hbase (by omega) (by omega) (by omega)).mono ?_
        rw [← HV.out]
        rintro e w1 ⟨A1, n1, c1, rfl, hO1, hb1⟩
        go_wp2
        go_ret
        exact ⟨_, _, _, rfl, hO1, hb1⟩
      · have hb8 := bn_le N
        have hb4 := bn_ge N
        have HV := Lib.hid (show nb N = [4 * (bn N - 4) + 3] ++ lb (bn N) N by unfold nb; rw [if_neg h1, if_neg h2, if_neg h3]; rfl)
        have HS := Lib.hid (show sz N = 1 + bn N by unfold sz; rw [if_neg h1, if_neg h2, if_neg h3])
        obtain ⟨p, hp⟩ : ∃ p, bn N = p + 4 := ⟨bn N - 4, by omega⟩
        rw [hp] at HV HS
        have ho : bits .or .i64 ((1 + ((p : Int) + 4) - 1 - 4) * 4) 3 = ((4 * p + 3 : Nat) : Int) := by rw [show (1 + ((p : Int) + 4) - 1 - 4) = (p : Int) by omega]; exact i_or3 p (by omega)
        have hp4 : p ≤ 4 := by omega
        clear hb8 hb4 hp h1 h2 h3
        have HX := Lib.hid HV.out
        go_enter Try.func20, Try.ntmps20
        go_wp2_with fail
        refine (size_any N _ hN).mono ?_
        rw [HS.out]
        rintro e w' ⟨rfl, rfl⟩
        have q1 : (((1 + (p + 4) : Nat) : Int) == 1) = false := by simp; omega
        have q2 : (((1 + (p + 4) : Nat) : Int) == 2) = false := by simp; omega
        have q4 : (((1 + (p + 4) : Nat) : Int) == 4) = false := by simp; omega
        go_wp2_with (at_builtin; refine wpList_appk _ .u8 5 1 rfl (.tmp 36) (.tmp 42) 22 rfl base Try.underlying22 infoB _ _ _ _ 1 1 xs [4 * p + 3] rfl rfl (h.alloc _) (rk_one _ _ _ _ _ (by omega)) (by unfold maxLen; omega) (by omega) (by simp; omega) ?_; intro A2 c2 w2 hO2 hb2)
        rw [show (1 + ((p : Int) + 4) - 1) = ((p + 4 : Nat) : Int) by omega]
        refine (aplit_any A2 (n + 1) c2 N (p + 4) base (xs ++ [4 * p + 3]) _ hO2 (Nat.le_trans hbase (by have := hb2.size; simp at this; omega)) hN (by omega) (by omega)).mono ?_
        rw [List.append_assoc, show [4 * p + 3] ++ lb (p + 4) N = nb N by rw [HV.out]; rfl]
        rintro e w3 ⟨A3, n3, c3, rfl, hO3, hb3⟩
        have HB := Lib.hid ((((Below.refl base w).alloc hbase (.cells #[.int .u8 ((4 * p + 3 : Nat) : Int)] 5)).trans hb2).trans hb3)
        clear hb2 hb3 hO2 ho
        go_wp2
        go_ret
        exact ⟨_, _, _, rfl, hO3, HB.out⟩
/-- 'make' of bytes, a length and a room. -/
theorem mkB (z : Int) (n c : Nat) (hz : z = (c : Nat)) (hnc : n ≤ c) (hc : c ≤ 281474976710656) (W : World) :
    (Instr.makeSlice 22 (.int .i64 (n : Int)) (.int .i64 z)).run Try.prog W = .ok (.slice (some ⟨W.heap.size, 0, none⟩) n c) (W.alloc (.cells (litsK .u8 (zeros c)).toArray 5)) := by
  obtain ⟨i0, hi, hz0, hz1, hz2⟩ := info_parts infoB
  subst hz
  have h := run_make_rowK (P := Try.prog) 22 5 i0 (.int .u8 0) Try.underlying22 hi hz0 .i64 .i64 n c hnc (by rw [hz2]; omega) (by omega) W
  rw [hz1, Nat.mul_one, litsK_made] at h
  exact h
set_option maxHeartbeats 400000 in
/-- compact.roomy. -/
theorem roomy_any (A : Option Addr) (n c more : Nat) (xs : List Nat) (w : World) (h : Rk .u8 w A n c xs) (hn : n ≤ 150000000000000) (hm : more ≤ 100000) :
    Calls Try.prog 21 #[.slice A n c, .int .i64 more] w (OutB w xs) := by
  have hmk := fun W => mkB ((n : Int) + (more : Int)) n (n + more) (by omega) (by omega) (by omega) W
  have HL := Lib.hid h.len
  go_enter Try.func21, Try.ntmps21
  go_wp2_with (with_reducible refine wpList_copyk .u8 5 1 rfl (.tmp 13) (.tmp 14) 22 22 rfl Try.underlying22 infoB A w.heap.size n c (n + more) xs (zeros (n + more)) rfl rfl (Bkk.new .u8 5 w (zeros (n + more))) ?_ (h.alloc _) w.heap.size w ?_ (Nat.le_refl _) ?_)
  · rw [zeros_len]; omega
  · exact (Below.refl _ _).alloc (Nat.le_refl _) _
  · intro w1 hB1 hb1
    have HO := Lib.hid (show Owk .u8 5 w1 w.heap.size (some ⟨w.heap.size, 0, none⟩) n (n + more) xs by
      have := hB1.own (n := n) (c := n + more) (by rw [List.length_append, List.length_drop, zeros_len, HL.out]; omega) (by omega) (by omega) (base := w.heap.size) (Nat.le_refl _)
      rwa [List.take_append_of_le_length (by rw [HL.out]; exact Nat.le_refl _), List.take_of_length_le (by rw [HL.out]; exact Nat.le_refl _)] at this)
    clear hmk hB1
    go_wp2
    go_ret
    exact ⟨_, _, _, rfl, HO.out, hb1⟩
set_option maxHeartbeats 400000 in
/-- compact.Append. -/
theorem append_any (A : Option Addr) (n c N : Nat) (xs : List Nat) (w : World) (h : Rk .u8 w A n c xs) (hN : N < 18446744073709551616) (hn : n ≤ 150000000000000) :
    Calls Try.prog 10 #[.slice A n c, .int .u64 N] w (OutB w (xs ++ nb N)) := by
  have hs := sz_le N
  have HL := Lib.hid h.len
  go_enter Try.func10, Try.ntmps10
  go_wp2_with fail
  refine (size_any N _ hN).mono ?_
  rintro e w' ⟨rfl, rfl⟩
  go_wp2_with fail
  refine (roomy_any A n c (sz N) xs _ h hn (by omega)).mono ?_
  rintro e w1 ⟨A1, n1, c1, rfl, hO1, hb1⟩
  have hn1 : n1 = n := by rw [← hO1.len, HL.out]
  subst hn1
  go_wp2_with fail
  refine (apnum_any A1 n1 c1 N w.heap.size xs _ hO1 hb1.size hN (by omega)).mono ?_
  rintro e w2 ⟨A2, n2, c2, rfl, hO2, hb2⟩
  have HB := Lib.hid (hb1.trans hb2)
  clear hO1 hb1 hb2
  go_wp2
  go_ret
  exact ⟨_, _, _, rfl, hO2, HB.out⟩
end Go.Proofs.Ytdhgdphjamcfcaa
