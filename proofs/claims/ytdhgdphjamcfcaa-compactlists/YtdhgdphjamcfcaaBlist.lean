/-
  What compact.List and the reference's List do: the bytes of a list. For slices that can be read; at most 1000 numbers, behind at most 149000000000000 bytes.
-/
import Derived.Test.YtdhgdphjamcfcaaBapp
namespace Go.Proofs.Ytdhgdphjamcfcaa
open Go.RowKit

def Lst1 (m : Nat) (sv tv : Value) : Prop := ∃ k S : Nat, k ≤ m ∧ S ≤ 9 + 9 * k ∧ sv = .int .i64 (S : Int) ∧ tv = .int .i64 (k : Int)
def Lst2 (w : World) (m n0 : Nat) (zs ys : List Nat) (bv tv : Value) (wr : World) : Prop :=
  ∃ (k n c : Nat) (A : Option Addr), k ≤ m ∧ n ≤ n0 + 9 * k ∧ bv = .slice A n c ∧ tv = .int .i64 (k : Int) ∧ Owk .u8 5 wr w.heap.size A n c (zs ++ cat (ys.take k)) ∧ Below w.heap.size w wr

set_option maxHeartbeats 800000 in
/-- compact.List. -/
theorem list_any (A B : Option Addr) (n c m d : Nat) (xs ys : List Nat) (w : World) (h : Rk .u8 w A n c xs) (hy : Rk .u64 w B m d ys) (hY : Bl 18446744073709551616 ys) (hm : m ≤ 1000) (hn : n ≤ 149000000000000) :
    Calls Try.prog 15 #[.slice A n c, .slice B m d] w (OutB w (xs ++ nl ys)) := by
  have hs := sz_le m
  have HL := Lib.hid h.len
  have HY := Lib.hid hy.len
  go_enter Try.func15, Try.ntmps15
  go_wp2_with fail
  refine (size_any m _ (by omega)).mono ?_
  rintro e w' ⟨rfl, rfl⟩
  go_wp2_with fail
  go_loop [6, 18] (fun sv tv => Lst1 m sv tv) (fun _ tv => m - (intOf tv).toNat)
  case atStart => exact ⟨0, sz m, by omega, by omega, rfl, rfl⟩
  case round =>
    obtain ⟨k, S, hk, hS, rfl, rfl⟩ := hrel
    by_cases hlt : k < m
    · obtain ⟨b, o, rfl, hb, hc⟩ := hy.at_ (by omega)
      have hcell := hc k hlt
      have he := Bl_el hY (by omega) k
      have hsk := sz_le (el ys k)
      clear hc
      go_wp2_with fail
      refine (size_any _ _ he).mono ?_
      rintro e w' ⟨rfl, rfl⟩
      go_wp2
      go_round
      case rel => exact ⟨k + 1, S + sz (el ys k), by omega, by omega, by go_num, by go_num⟩
      case measure => simp [intOf]; omega
    · obtain rfl : k = m := by omega
      go_wp2_with fail
      refine (roomy_any A n c S xs _ h (by omega) (by omega)).mono ?_
      rintro e w1 ⟨A1, n1, c1, rfl, hO1, hb1⟩
      have hn1 : n1 = n := by rw [← hO1.len, HL.out]
      subst hn1
      go_wp2_with fail
      refine (apnum_any A1 n1 c1 k w.heap.size xs _ hO1 hb1.size (by omega) (by omega)).mono ?_
      rintro e w2 ⟨A2, n2, c2, rfl, hO2, hb2⟩
      have hn2 : n2 ≤ n1 + 9 := by
        have := hO2.len
        rw [List.length_append, HL.out, nb_len] at this
        omega
      have hB2 := hb1.trans hb2
      clear hO1 hb1 hb2
      go_wp2_with fail
      go_loopw [0, 34] (fun bv tv wr => Lst2 w k n2 (xs ++ nb k) ys bv tv wr) (fun _ tv _ => k - (intOf tv).toNat)
      case atStart => exact ⟨0, n2, c2, A2, by omega, by omega, rfl, rfl, by simpa [cat] using hO2, hB2⟩
      case round =>
        obtain ⟨i, n3, c3, A3, hi, hn3, rfl, rfl, hO3, hb3⟩ := hrel
        clear hO2 hB2
        by_cases hlt2 : i < k
        · obtain ⟨b, o, rfl, hb, hc⟩ := hy.at_ (by omega)
          have hcell := (hb3.cell (p := ⟨b, o + i, none⟩) hb).trans (hc i hlt2)
          have he := Bl_el hY (by omega) i
          clear hc
          go_wp2_with fail
          refine (apnum_any A3 n3 c3 (el ys i) w.heap.size _ _ hO3 hb3.size he (by omega)).mono ?_
          rw [List.append_assoc, ← cat_take_succ ys i (by rw [HY.out]; exact hlt2)]
          rintro e w4 ⟨A4, n4, c4, rfl, hO4, hb4⟩
          have hn4 : n4 ≤ n2 + 9 * (i + 1) := by
            have h4 := hO4.len
            have h3 := hO3.len
            have hsi := sz_le (el ys i)
            rw [cat_take_succ ys i (by rw [HY.out]; exact hlt2)] at h4
            simp only [List.length_append, nb_len] at h3 h4
            omega
          have hB4 := hb3.trans hb4
          clear hO3 hb3 hb4
          go_wp2
          go_roundw
          case rel => exact ⟨i + 1, n4, c4, A4, by omega, hn4, rfl, by go_num, hO4, hB4⟩
          case measure => simp [intOf]; omega
        · obtain rfl : i = k := by omega
          have HV := Lib.hid (show xs ++ nb i ++ cat (ys.take i) = xs ++ nl ys by
            rw [List.append_assoc, List.take_of_length_le (by rw [HY.out]; exact Nat.le_refl _)]; unfold nl; rw [HY.out])
          have HO := Lib.hid hO3
          clear hO3
          go_wp2
          go_ret
          exact ⟨_, _, _, rfl, by rw [← HV.out]; exact HO.out, hb3⟩

set_option maxHeartbeats 800000 in
/-- The reference's List. -/
theorem rlist_any (B : Option Addr) (m d : Nat) (ys : List Nat) (w : World) (hy : Rk .u64 w B m d ys) (hY : Bl 18446744073709551616 ys) (hm : m ≤ 1000) :
    Calls Try.prog 16 #[.slice B m d] w (OutB w (nl ys)) := by
  have hs := sz_le m
  have HY := Lib.hid hy.len
  go_enter Try.func16, Try.ntmps16
  go_wp2_with fail
  refine (number_any m _ (by omega)).mono ?_
  rintro e w1 ⟨A1, n1, c1, rfl, hO1, hb1⟩
  have hn1 : n1 ≤ 9 := by
    have := hO1.len
    rw [nb_len] at this
    omega
  go_wp2_with fail
  go_loopw [3, 11] (fun bv tv wr => Lst2 w m n1 (nb m) ys bv tv wr) (fun _ tv _ => m - (intOf tv).toNat)
  case atStart => exact ⟨0, n1, c1, A1, by omega, by omega, rfl, rfl, by simpa [cat] using hO1, hb1⟩
  case round =>
    obtain ⟨i, n3, c3, A3, hi, hn3, rfl, rfl, hO3, hb3⟩ := hrel
    clear hO1 hb1
    by_cases hlt2 : i < m
    · obtain ⟨b, o, rfl, hb, hc⟩ := hy.at_ (by omega)
      have hcell := (hb3.cell (p := ⟨b, o + i, none⟩) hb).trans (hc i hlt2)
      have he := Bl_el hY (by omega) i
      have hsi := sz_le (el ys i)
      have hsz3 := hb3.size
      clear hc
      go_wp2_with fail
      refine (number_any (el ys i) _ he).mono ?_
      rintro e w4 ⟨A4, n4, c4, rfl, hO4, hb4⟩
      have hn4 : n4 = sz (el ys i) := by rw [← hO4.len, nb_len]
      subst hn4
      have hsz4 := hb4.size
      have hO3' := hO3.below hb4
      have hr4 := hO4.rk
      have hB4 := hb3.trans (hb4.mono hsz3)
      clear hO3 hO4 hb3 hb4
      go_wp2_with (at_builtin; refine wpList_appk _ .u8 5 1 rfl (.tmp 14) (.tmp 19) 22 rfl w.heap.size Try.underlying22 infoB _ _ _ _ _ _ (nb m ++ cat (ys.take i)) (nb (el ys i)) rfl rfl hO3' hr4 (by unfold maxLen; omega) (by omega) (by omega) ?_; rw [List.append_assoc, ← cat_take_succ ys i (by rw [HY.out]; exact hlt2)]; intro A5 c5 w5 hO5 hb5)
      go_roundw
      case rel => exact ⟨i + 1, n3 + sz (el ys i), c5, A5, by omega, by omega, rfl, by go_num, hO5, hB4.trans hb5⟩
      case measure => simp [intOf]; omega
    · obtain rfl : i = m := by omega
      have HV := Lib.hid (show nb i ++ cat (ys.take i) = nl ys by
        rw [List.take_of_length_le (by rw [HY.out]; exact Nat.le_refl _)]; unfold nl; rw [HY.out])
      have HO := Lib.hid hO3
      clear hO3
      go_wp2
      go_ret
      exact ⟨_, _, _, rfl, by rw [← HV.out]; exact HO.out, hb3⟩
end Go.Proofs.Ytdhgdphjamcfcaa
