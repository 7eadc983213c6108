/-
  What compact.little, compact.value and compact.Take do. For slices of bytes that can be read; little for at most 8 bytes.
-/
import Derived.Test.YtdhgdphjamcfcaaBsize
namespace Go.Proofs.Ytdhgdphjamcfcaa
open Go.RowKit

/-- A byte laid above the lower ones. -/
theorem or_byte (q x k : Nat) (hq : q < pb k) (hx : x < 256) (hk : k ≤ 7) : bits .or .u64 (q : Int) (IntKind.u64.wrap ((x : Int) * 2 ^ (8 * k))) = ((q + pb k * x : Nat) : Int) := by
  have hp : pb k ≤ 72057594037927936 := by
    rw [pb_two]
    exact Nat.le_trans (Nat.pow_le_pow_right (by omega) (show 8 * k ≤ 56 by omega)) (by decide)
  have hm : pb k * x ≤ 72057594037927936 * 255 := Nat.mul_le_mul hp (by omega)
  have e : ((x : Int) * 2 ^ (8 * k)) = ((pb k * x : Nat) : Int) := by rw [pb_two, Int.natCast_mul, Int.natCast_pow, Int.mul_comm]; rfl
  rw [e, IntKind.wrap_u64, show ((pb k * x : Nat) : Int) % 18446744073709551616 = ((pb k * x : Nat) : Int) by omega, u64_or_nat _ _ (by omega) (by omega), Nat.or_comm]
  rw [nat_join (8 * k) _ _ (by rw [← pb_two, Nat.mul_mod_right]) (by rw [← pb_two]; exact hq), Nat.add_comm]
set_option maxHeartbeats 400000 in
/-- compact.little. -/
theorem little_any (A : Option Addr) (n c : Nat) (xs : List Nat) (w : World) (h : Rk .u8 w A n c xs) (hB : Bl 256 xs) (hn : n ≤ 8) :
    Calls Try.prog 27 #[.slice A n c] w fun e w' => e = .returned (.int .u64 (lev xs)) ∧ w = w' := by
  have HL := Lib.hid h.len
  go_enter Try.func27, Try.ntmps27
  go_wp2
  go_loop [3, 8] (fun a t => ∃ k : Nat, k ≤ n ∧ t = .int .i64 k ∧ a = .int .u64 (lev (xs.take k))) (fun _ t => n - (intOf t).toNat)
  case atStart => exact ⟨0, Nat.zero_le _, rfl, rfl⟩
  case round =>
    obtain ⟨k, hk, rfl, rfl⟩ := hrel
    by_cases hlt : k < n
    · obtain ⟨b, o, rfl, hb, hc⟩ := h.at_ (by omega)
      have hcell := hc k hlt
      have he := Bl_el hB (by omega) k
      have HS := Lib.hid (lev_take_succ xs k (by rw [HL.out]; exact hlt))
      have HQ := Lib.hid (show lev (xs.take k) < pb k by
        have := lev_lt (Bl_take hB k)
        rwa [List.length_take, HL.out, Nat.min_eq_left (by omega)] at this)
      have h8 : (0:Int) ≤ 8 * (k : Int) := by omega
      clear hc
      go_wp2
      go_round
      case rel => exact ⟨k + 1, by omega, by go_num, by rw [or_byte _ _ _ HQ.out he (by omega), HS.out]⟩
      case measure => simp [intOf]; omega
    · obtain rfl : k = n := by omega
      have HV := Lib.hid (show ((lev (xs.take k) : Nat) : Int) = lev xs by rw [List.take_of_length_le (by rw [HL.out]; exact Nat.le_refl _)])
      go_wp2
      go_ret
      exact ⟨retU HV.out, rfl⟩
set_option maxHeartbeats 400000 in
/-- compact.value. -/
theorem value_any (A : Option Addr) (n c : Nat) (xs : List Nat) (w : World) (h : Rk .u8 w A n c xs) (hB : Bl 256 xs) (h0 : 0 < n) (h9 : n ≤ 9) (h8 : el xs 0 % 4 ≠ 3 → n ≤ 8) (h5 : el xs 0 % 4 = 3 → 2 ≤ n) :
    Calls Try.prog 23 #[.slice A n c] w fun e w' => e = .returned (.int .u64 (num xs : Nat)) ∧ w = w' := by
  obtain ⟨b, o, rfl, hb, hc⟩ := h.at_ h0
  have hcell := hc 0 h0
  rw [Nat.add_zero] at hcell
  clear hc
  have he := Bl_el hB (by omega) 0
  have ha := and3 (el xs 0) he
  have hcap := h.cap
  have hmax := h.max
  by_cases h3 : el xs 0 % 4 = 3
  · rw [h3] at ha
    have HV := Lib.hid (show ((lev (xs.drop 1) : Nat) : Int) = (num xs : Nat) by unfold num; rw [if_pos h3])
    have h2 := h5 h3
    have hc1 : ¬ c = 1 := by omega
    clear h3 h8 h5
    have h01 : (1 : Int) ≤ (n : Int) := by omega
    have h1c : (1 : Int) ≤ (c : Int) := by omega
    go_enter Try.func23, Try.ntmps23
    go_wp2_with fail
    refine (little_any _ _ _ (xs.drop 1) _ (h.drop (i := 1) (by omega) fun _ => rfl) (Bl_drop hB 1) (by omega)).mono ?_
    rintro e w' ⟨rfl, rfl⟩
    go_wp2
    go_ret
    exact ⟨retU (by rw [← List.drop_one]; exact HV.out), rfl⟩
  · have h8' := h8 h3
    have hne : (((el xs 0 % 4 : Nat) : Int) == 3) = false := by simp; omega
    have HV := Lib.hid (show ((lev xs : Nat) : Int) / 4 = (num xs : Nat) by unfold num; rw [if_neg h3]; omega)
    clear h3 h8 h5
    have hlv : lev xs < 18446744073709551616 := by
      have h1 := lev_lt hB
      rw [h.len, pb_two] at h1
      have h2 := Nat.pow_le_pow_right (show 0 < 2 by omega) (show 8 * n ≤ 64 by omega)
      omega
    generalize el xs 0 % 4 = r at *
    go_enter Try.func23, Try.ntmps23
    go_wp2_with fail
    refine (little_any _ _ _ xs _ h hB (by omega)).mono ?_
    rintro e w' ⟨rfl, rfl⟩
    go_wp2
    go_ret
    exact ⟨retU HV.out, rfl⟩

/-- The ending of Take. -/
def tkE (bs : List Nat) : Ending := .returned (.tuple #[.int .u64 (tk bs).1, .int .i64 (tk bs).2.1, .int .i64 (tk bs).2.2])
theorem tkE_of {bs : List Nat} {n k e : Nat} (h : tk bs = (n, k, e)) : Ending.returned (.tuple #[.int .u64 n, .int .i64 k, .int .i64 e]) = tkE bs := by unfold tkE; rw [h]
set_option maxHeartbeats 800000 in
/-- compact.Take. -/
theorem take_any (A : Option Addr) (n c : Nat) (xs : List Nat) (w : World) (h : Rk .u8 w A n c xs) (hB : Bl 256 xs) :
    Calls Try.prog 12 #[.slice A n c] w fun e w' => e = tkE xs ∧ w = w' := by
  have HL := Lib.hid h.len
  have hcap := h.cap
  have hmax := h.max
  by_cases h0 : n = 0
  · subst h0
    have HE := Lib.hid (tkE_of (tk_nil xs HL.out))
    go_enter Try.func12, Try.ntmps12
    go_wp2
    go_ret3
    exact ⟨HE.out, rfl⟩
  · have hp : 0 < n := by omega
    have h00 : ((n : Int) == 0) = false := by simp; omega
    obtain ⟨b, o, rfl, hb, hc⟩ := h.at_ hp
    have hcell := hc 0 hp
    rw [Nat.add_zero] at hcell
    clear hc
    have he := Bl_el hB (by omega) 0
    have hg := st_ge (el xs 0)
    by_cases h9 : 9 < st (el xs 0)
    · have HE := Lib.hid (tkE_of (tk_big xs (by rw [HL.out]; exact h0) h9))
      have h9' : (9 : Int) < ((st (el xs 0) : Nat) : Int) := by omega
      go_enter Try.func12, Try.ntmps12
      go_wp2_with fail
      refine (stated_any _ _ he).mono ?_
      rintro e w' ⟨rfl, rfl⟩
      go_wp2
      go_ret3
      exact ⟨HE.out, rfl⟩
    · have h9' : ¬ (9 : Int) < ((st (el xs 0) : Nat) : Int) := by omega
      by_cases hs : n < st (el xs 0)
      · have HE := Lib.hid (tkE_of (tk_short xs (by rw [HL.out]; exact h0) (by omega) (by rw [HL.out]; exact hs)))
        have hs' : (n : Int) < ((st (el xs 0) : Nat) : Int) := by omega
        go_enter Try.func12, Try.ntmps12
        go_wp2_with fail
        refine (stated_any _ _ he).mono ?_
        rintro e w' ⟨rfl, rfl⟩
        go_wp2
        go_ret3
        exact ⟨HE.out, rfl⟩
      · have hs' : ¬ (n : Int) < ((st (el xs 0) : Nat) : Int) := by omega
        have hT := h.take (i := st (el xs 0)) (by omega)
        have h8 : el (xs.take (st (el xs 0))) 0 % 4 ≠ 3 → st (el xs 0) ≤ 8 := fun hne => by
          rw [el_take _ _ _ (by omega)] at hne
          exact st_eight hne
        have h5 : el (xs.take (st (el xs 0))) 0 % 4 = 3 → 2 ≤ st (el xs 0) := fun he3 => by
          rw [el_take _ _ _ (by omega)] at he3
          unfold st; rw [if_neg (by omega), if_neg (by omega), if_neg (by omega)]; omega
        have hn := num_st hB (by omega)
        by_cases hf : sz (num (xs.take (st (el xs 0)))) = st (el xs 0)
        · have ht := tk_yes xs (by rw [HL.out]; exact h0) (by omega) (by rw [HL.out]; omega) hf
          have HE := Lib.hid (tkE_of ht)
          clear ht
          have hff : (((sz (num (xs.take (st (el xs 0)))) : Nat) : Int) != ((st (el xs 0) : Nat) : Int)) = false := by rw [hf]; simp
          have HF := Lib.hid hf
          clear hf
          go_enter Try.func12, Try.ntmps12
          go_wp2_with fail
          refine (stated_any _ _ he).mono ?_
          rintro e w' ⟨rfl, rfl⟩
          go_wp2_with fail
          refine (value_any _ _ _ _ _ hT (Bl_take hB _) (by omega) (by omega) h8 h5).mono ?_
          rintro e w' ⟨rfl, rfl⟩
          go_wp2_with fail
          refine (size_any _ _ hn).mono ?_
          rintro e w' ⟨rfl, rfl⟩
          go_wp2
          go_ret3
          exact ⟨HE.out, rfl⟩
        · have HE := Lib.hid (tkE_of (tk_form xs (by rw [HL.out]; exact h0) (by omega) (by rw [HL.out]; omega) hf))
          have hff : (((sz (num (xs.take (st (el xs 0)))) : Nat) : Int) != ((st (el xs 0) : Nat) : Int)) = true := by simp; omega
          clear hf
          go_enter Try.func12, Try.ntmps12
          go_wp2_with fail
          refine (stated_any _ _ he).mono ?_
          rintro e w' ⟨rfl, rfl⟩
          go_wp2_with fail
          refine (value_any _ _ _ _ _ hT (Bl_take hB _) (by omega) (by omega) h8 h5).mono ?_
          rintro e w' ⟨rfl, rfl⟩
          go_wp2_with fail
          refine (size_any _ _ hn).mono ?_
          rintro e w' ⟨rfl, rfl⟩
          go_wp2
          go_ret3
          exact ⟨HE.out, rfl⟩
end Go.Proofs.Ytdhgdphjamcfcaa
