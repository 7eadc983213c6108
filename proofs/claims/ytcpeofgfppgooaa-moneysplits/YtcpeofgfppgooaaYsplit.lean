/-
  What money.Split and the reference's Split answer: the parts and what is left; 3 where the shares' sum is too great, 5 where it is 0. For slices of at most 200 numbers below 2^64 that can be read.
-/
import Derived.Test.YtcpeofgfppgooaaYmath
import Derived.Test.YtcpeofgfppgooaaYpart
import Derived.Test.YtcpeofgfppgooaaBnum
namespace Go.Proofs.Ytcpeofgfppgooaa
open Go.RowKit

/-- The end of a call that gives numbers, a number and an error number. -/
def OutS (w : World) (ps : List Nat) (l k : Nat) (e : Ending) (w' : World) : Prop :=
  ∃ A n c, e = .returned (.tuple #[.slice A n c, .int .u64 (l : Int), .int .i64 (k : Int)]) ∧ Rk .u64 w' A n c ps ∧ Below w.heap.size w w'
theorem mkQ (n : Nat) (hc : n ≤ 200) (W : World) :
    (Instr.makeSlice 23 (.int .i64 (n : Int)) (.int .i64 (n : Int))).run Try.prog W = .ok (.slice (some ⟨W.heap.size, 0, none⟩) n n) (W.alloc (.cells (litsK .u64 (zeros n)).toArray 22)) := by
  obtain ⟨i0, hi, hz0, hz1, hz2⟩ := info_parts infoQ
  have h := run_make_rowK (P := Try.prog) 23 22 i0 (.int .u64 0) Try.underlying23 hi hz0 .i64 .i64 n n (Nat.le_refl _) (by rw [hz2]; omega) (by omega) W
  rw [hz1, Nat.mul_one, litsK_made] at h
  exact h

theorem ysplit_long (A : Option Addr) (n c a : Nat) (xs : List Nat) (w : World) (h : Rk .u64 w A n c xs) (hX : Bl 18446744073709551616 xs) (hS : ¬ tot xs < 18446744073709551616) :
    Calls Try.prog 17 #[.int .u64 a, .slice A n c] w (OutS w [] 0 3) := by
  have hs := ysum_any A n c xs w h hX
  rw [show sumM xs = (0, 3) from if_neg hS] at hs
  go_enter Try.func17, Try.ntmps17
  go_wp2_with fail
  refine hs.mono ?_
  rintro e w' ⟨rfl, rfl⟩
  go_wp2
  go_ret3
  exact ⟨_, _, _, rfl, Rk.nil _ _, Below.refl _ _⟩
theorem ysplit_none (A : Option Addr) (n c a : Nat) (xs : List Nat) (w : World) (h : Rk .u64 w A n c xs) (hX : Bl 18446744073709551616 xs) (hS : tot xs = 0) :
    Calls Try.prog 17 #[.int .u64 a, .slice A n c] w (OutS w [] 0 5) := by
  have hs := ysum_any A n c xs w h hX
  rw [show sumM xs = (0, 0) by rw [sumM, hS, if_pos (by omega)]] at hs
  go_enter Try.func17, Try.ntmps17
  go_wp2_with fail
  refine hs.mono ?_
  rintro e w' ⟨rfl, rfl⟩
  go_wp2
  go_ret3
  exact ⟨_, _, _, rfl, Rk.nil _ _, Below.refl _ _⟩
theorem xsplit_long (A : Option Addr) (n c a : Nat) (xs : List Nat) (w : World) (h : Rk .u64 w A n c xs) (hX : Bl 18446744073709551616 xs) (hS : ¬ tot xs < 18446744073709551616) :
    Calls Try.prog 18 #[.int .u64 a, .slice A n c] w (OutS w [] 0 3) := by
  have hs := xsum_any A n c xs w h hX
  rw [show sumM xs = (0, 3) from if_neg hS] at hs
  go_enter Try.func18, Try.ntmps18
  go_wp2_with fail
  refine hs.mono ?_
  rintro e w' ⟨rfl, rfl⟩
  go_wp2
  go_ret3
  exact ⟨_, _, _, rfl, Rk.nil _ _, Below.refl _ _⟩
theorem xsplit_none (A : Option Addr) (n c a : Nat) (xs : List Nat) (w : World) (h : Rk .u64 w A n c xs) (hX : Bl 18446744073709551616 xs) (hS : tot xs = 0) :
    Calls Try.prog 18 #[.int .u64 a, .slice A n c] w (OutS w [] 0 5) := by
  have hs := xsum_any A n c xs w h hX
  rw [show sumM xs = (0, 0) by rw [sumM, hS, if_pos (by omega)]] at hs
  go_enter Try.func18, Try.ntmps18
  go_wp2_with fail
  refine hs.mono ?_
  rintro e w' ⟨rfl, rfl⟩
  go_wp2
  go_ret3
  exact ⟨_, _, _, rfl, Rk.nil _ _, Below.refl _ _⟩

/-- The loop: the first k parts are in the row, and the rest of a. -/
def SpRel (w : World) (a n : Nat) (ps : List Nat) (lv tv : Value) (wr : World) : Prop :=
  ∃ (k L : Nat) (rs : List Nat), k ≤ n ∧ lv = .int .u64 (L : Int) ∧ tv = .int .i64 (k : Int) ∧ Bkk .u64 22 wr w.heap.size rs ∧ rs.length = n ∧
    (∀ j, j < n → el rs j = if j < k then el ps j else 0) ∧ L + tot (ps.take k) = a ∧ Below w.heap.size w wr
set_option maxHeartbeats 1600000 in
theorem ysplit_yes (A : Option Addr) (n c a S : Nat) (xs : List Nat) (w : World) (h : Rk .u64 w A n c xs) (hX : Bl 18446744073709551616 xs) (hn : n ≤ 200) (ha : a < 18446744073709551616) (hT : tot xs = S) (hS0 : 0 < S) (hS : S < 18446744073709551616) :
    Calls Try.prog 17 #[.int .u64 a, .slice A n c] w (OutS w (prts a S xs) (a - tot (prts a S xs)) 0) := by
  have hs := ysum_any A n c xs w h hX
  rw [show sumM xs = (S, 0) by rw [sumM, hT, if_pos hS]] at hs
  have HT := Lib.hid hT
  have HL := Lib.hid h.len
  have HP := Lib.hid (prts_le (a := a) hS0 hT)
  have HW := Lib.hid (prts_len a S xs)
  have hmk := mkQ n hn
  have h1 : ((S : Int) == 0) = false := by simp; omega
  have hcap := h.cap
  have hmax := h.max
  clear hT
  go_enter Try.func17, Try.ntmps17
  go_wp2_with fail
  refine hs.mono ?_
  rintro e w' ⟨rfl, rfl⟩
  go_wp2
  go_loopw [10, 29] (fun lv tv wr => SpRel w a n (prts a S xs) lv tv wr) (fun _ tv _ => n - (intOf tv).toNat)
  case atStart => exact ⟨0, a, zeros n, by omega, rfl, rfl, Bkk.new _ _ _ _, zeros_len _, fun j _ => by rw [if_neg (by omega), el_zeros], rfl, (Below.refl _ _).alloc (Nat.le_refl _) _⟩
  case round =>
    obtain ⟨k, L, rs, hk, rfl, rfl, hB, hrl, hel, hL, hb⟩ := hrel
    have HE := Lib.hid hel
    have HR := Lib.hid hrl
    have HA := Lib.hid hL
    have hLa : L ≤ a := by omega
    clear hmk hs
    by_cases hlt : k < n
    · obtain ⟨b, o, rfl, hbb, hcA⟩ := h.at_ (by omega)
      have hcx := (hb.cell (p := ⟨b, o + k, none⟩) hbb).trans (hcA k hlt)
      have hx := Bl_el hX (by omega) k
      have hxS : el xs k ≤ S := by have := el_le_tot xs k; rw [HT.out] at this; exact this
      have hf := hB.frozen k
      have hc0 := hB.cell (i := k) (by omega)
      have HQ := Lib.hid (prts_el a S xs (j := k) (by rw [HL.out]; exact hlt))
      have hp := prt_le (a := a) hS0 hxS
      have HN := Lib.hid (tot_take_succ (prts a S xs) k)
      have hpl : el (prts a S xs) k ≤ L := by
        have h1 := HN.out
        have h2 := tot_take_le (prts a S xs) (k + 1)
        have h3 := HP.out
        have h4 := HA.out
        omega
      have hy := ypart_any a (el xs k) S wr ha hx hS
      rw [show partM a (el xs k) S = (a * el xs k / S, 0) by rw [partM, if_neg (by omega), if_pos (by omega)], ← HQ.out] at hy
      rw [← HQ.out] at hp
      clear hcA hel hrl hL
      generalize hpE : el (prts a S xs) k = p at *
      have HPE := Lib.hid hpE
      clear hpE
      generalize el xs k = x at *
      go_wp2_with fail
      refine hy.mono ?_
      rintro e w1 ⟨rfl, q, rfl⟩
      go_wp2_with fail
      have hsb := fun W => ysub_any L p W (by omega) (by omega)
      rw [show subM L p = (L - p, 0) from if_pos hpl] at hsb
      refine (hsb _).mono ?_
      rintro e w1 ⟨rfl, rfl⟩
      go_wp2
      go_roundw
      case rel =>
        refine ⟨k + 1, L - p, rs.set k p, by omega, by go_num, by go_num, Bkk.set_ (show Bkk _ _ (wr.drewN q) _ _ from hB) k p, by rw [List.length_set]; exact HR.out, fun j hj => ?_, by have h1 := HN.out; have h2 := HA.out; omega, (below_drewN' hb q).setCell (Nat.le_refl _) _⟩
        by_cases hjk : j = k
        · subst hjk; rw [el_set_same _ _ _ (by rw [HR.out]; exact hj), if_pos (by omega), HPE.out]
        · rw [el_set_other _ _ _ _ (by omega), HE.out j hj]
          by_cases hj2 : j < k
          · rw [if_pos hj2, if_pos (by omega)]
          · rw [if_neg hj2, if_neg (by omega)]
      case measure => simp [intOf]; omega
    · obtain rfl : k = n := by omega
      obtain rfl : rs = prts a S xs := by
        apply ext_el
        · rw [hrl, HW.out, HL.out]
        · intro j hj
          rw [hel j (by omega), if_pos (by omega)]
      rw [List.take_of_length_le (by omega)] at hL
      have HA2 := Lib.hid (show L = a - tot (prts a S xs) by omega)
      have HK := Lib.hid (hB.rk hrl (by omega))
      clear hel HE HR HA hL hrl hB HW HP
      go_wp2
      go_ret3
      exact ⟨_, _, _, by rw [← HA2.out]; rfl, HK.out, hb⟩
/-- The reference's loop. -/
def SxRel (w : World) (a n : Nat) (ps : List Nat) (ov lv tv : Value) (wr : World) : Prop :=
  ∃ (k L c : Nat) (A : Option Addr), k ≤ n ∧ ov = .slice A k c ∧ lv = .int .u64 (L : Int) ∧ tv = .int .i64 (k : Int) ∧ Owk .u64 22 wr w.heap.size A k c (ps.take k) ∧ L + tot (ps.take k) = a ∧ Below w.heap.size w wr
set_option maxHeartbeats 1600000 in
theorem xsplit_yes (A : Option Addr) (n c a S : Nat) (xs : List Nat) (w : World) (h : Rk .u64 w A n c xs) (hX : Bl 18446744073709551616 xs) (hn : n ≤ 200) (ha : a < 18446744073709551616) (hT : tot xs = S) (hS0 : 0 < S) (hS : S < 18446744073709551616) :
    Calls Try.prog 18 #[.int .u64 a, .slice A n c] w (OutS w (prts a S xs) (a - tot (prts a S xs)) 0) := by
  have hs := xsum_any A n c xs w h hX
  rw [show sumM xs = (S, 0) by rw [sumM, hT, if_pos hS]] at hs
  have HT := Lib.hid hT
  have HL := Lib.hid h.len
  have HP := Lib.hid (prts_le (a := a) hS0 hT)
  have HW := Lib.hid (prts_len a S xs)
  have h1 : ((S : Int) == 0) = false := by simp; omega
  have hcap := h.cap
  have hmax := h.max
  clear hT
  go_enter Try.func18, Try.ntmps18
  go_wp2_with fail
  refine hs.mono ?_
  rintro e w' ⟨rfl, rfl⟩
  go_wp2
  go_loopw [9, 10, 27] (fun ov lv tv wr => SxRel w a n (prts a S xs) ov lv tv wr) (fun _ _ tv _ => n - (intOf tv).toNat)
  case atStart => exact ⟨0, a, 0, none, by omega, rfl, rfl, rfl, Owk.nil _ _ _ _, rfl, Below.refl _ _⟩
  case round =>
    obtain ⟨k, L, c2, A2, hk, rfl, rfl, rfl, hO, hL, hb⟩ := hrel
    have HA := Lib.hid hL
    have hLa : L ≤ a := by omega
    have hsz := hb.size
    clear hs
    by_cases hlt : k < n
    · obtain ⟨b, o, rfl, hbb, hcA⟩ := h.at_ (by omega)
      have hcx := (hb.cell (p := ⟨b, o + k, none⟩) hbb).trans (hcA k hlt)
      have hx := Bl_el hX (by omega) k
      have hxS : el xs k ≤ S := by have := el_le_tot xs k; rw [HT.out] at this; exact this
      have HQ := Lib.hid (prts_el a S xs (j := k) (by rw [HL.out]; exact hlt))
      have hp := prt_le (a := a) hS0 hxS
      have HN := Lib.hid (tot_take_succ (prts a S xs) k)
      have HC := Lib.hid (show (prts a S xs).take k ++ [el (prts a S xs) k] = (prts a S xs).take (k + 1) by
        rw [List.take_succ_eq_append_getElem (by rw [HW.out, HL.out]; exact hlt), el_get _ _ (by rw [HW.out, HL.out]; exact hlt)])
      have hpl : el (prts a S xs) k ≤ L := by
        have h1 := HN.out
        have h2 := tot_take_le (prts a S xs) (k + 1)
        have h3 := HP.out
        have h4 := HA.out
        omega
      have hy := xpart_any a (el xs k) S wr ha hx hS
      rw [show partM a (el xs k) S = (a * el xs k / S, 0) by rw [partM, if_neg (by omega), if_pos (by omega)], ← HQ.out] at hy
      rw [← HQ.out] at hp
      clear hcA hL
      generalize el (prts a S xs) k = p at *
      generalize el xs k = x at *
      go_wp2_with fail
      refine hy.mono ?_
      rintro e w1 ⟨rfl, b1⟩
      have hO1 := hO.below b1
      have hB1 := hb.trans (b1.mono hb.size)
      have hs1 := hB1.size
      clear hO hb b1
      go_wp2_with (at_builtin; refine wpList_appk _ .u64 22 8 rfl (.tmp 40) (.tmp 42) 23 rfl w.heap.size Try.underlying23 infoQ _ _ _ _ 1 1 ((prts a S xs).take k) [p] rfl rfl (hO1.alloc _) (rk_one _ _ _ _ _ rfl) (by unfold maxLen; omega) (by omega) (by simp; omega) ?_; intro A4 c4 w4 hO4 hb4)
      have hB4 := (hB1.alloc (Nat.le_trans (Nat.le_refl _) hs1) _).trans hb4
      clear hB1 hb4
      go_wp2
      go_roundw
      case rel => exact ⟨k + 1, L - p, c4, A4, by omega, rfl, by go_num, by go_num, by rw [← HC.out]; exact hO4, by have h1 := HN.out; have h2 := HA.out; omega, hB4⟩
      case measure => simp [intOf]; omega
    · obtain rfl : k = n := by omega
      rw [List.take_of_length_le (by rw [HW.out, HL.out]; exact Nat.le_refl _)] at hL hO
      have HA2 := Lib.hid (show L = a - tot (prts a S xs) by omega)
      have HK := Lib.hid hO.rk
      clear HA hL hO HW HP
      go_wp2
      go_ret3
      exact ⟨_, _, _, by rw [← HA2.out]; rfl, HK.out, hb⟩
end Go.Proofs.Ytcpeofgfppgooaa
