/-
  What the reference's Formed, bounded, trim, Of, Low, cmp, Same and the law's own same do. For slices that can be read, of at most 900000 limbs where memory is made.
-/
import Derived.Test.YtcpeofgfppgooaaLow
import Derived.Test.YtcpeofgfppgooaaApp
namespace Go.Proofs.Ytcpeofgfppgooaa
open Go.RowKit

set_option maxHeartbeats 400000 in
/-- The reference's Formed. -/
theorem rformed_any (A : Option Addr) (n c : Nat) (xs : List Nat) (w : World) (h : Rd w A n c xs) :
    Calls Try.prog 28 #[.slice A n c] w fun e w' => e = .returned (.bool (fmB xs)) ∧ w = w' := by
  have HL := Lib.hid h.len
  have hcap := h.cap
  have hmax := h.max
  by_cases h4 : n ≤ 400
  · by_cases h0 : n = 0
    · subst h0
      have HV := Lib.hid (show true = fmB xs by
        have : xs = [] := List.eq_nil_of_length_eq_zero HL.out
        rw [this]; rfl)
      go_enter Try.func28, Try.ntmps28
      go_wp2
      go_ret
      exact ⟨ret_b HV.out, rfl⟩
    · obtain ⟨b, o, rfl, hb, hc⟩ := h.at_ (by omega)
      have hcell := hc (n - 1) (by omega)
      clear hc
      have h00 : ((n : Int) == 0) = false := by simp; omega
      have h44 : (n : Int) ≤ 400 := by omega
      have HV := Lib.hid (show (((el xs (n - 1) : Nat) : Int) != 0) = fmB xs by
        unfold fmB
        have e1 : decide (xs.length ≤ 400) = true := by rw [HL.out]; simpa using h4
        have e2 : xs.isEmpty = false := by
          cases xs with
          | nil => exact absurd HL.out (by simp; omega)
          | cons x xs => rfl
        rw [e1, e2, HL.out, Bool.eq_iff_iff]; simp)
      go_enter Try.func28, Try.ntmps28
      go_wp2
      go_ret
      exact ⟨ret_b HV.out, rfl⟩
  · have h44 : ¬ ((n : Int) ≤ 400) := by omega
    have hd : decide ((n : Int) ≤ 400) = false := by simp; omega
    have HV := Lib.hid (show false = fmB xs by
      unfold fmB
      have e1 : decide (xs.length ≤ 400) = false := by rw [HL.out]; simpa using h4
      rw [e1]; rfl)
    go_enter Try.func28, Try.ntmps28
    go_wp2
    go_ret
    exact ⟨ret_b HV.out, rfl⟩

set_option maxHeartbeats 400000 in
/-- The reference's bounded. -/
theorem bounded_yes (A : Option Addr) (n c : Nat) (w : World) (h : n ≤ 400) :
    Calls Try.prog 29 #[.slice A n c] w fun e w' => e = .returned (.tuple #[.slice A n c, .int .i64 0]) ∧ w = w' := by
  have h1 : ¬ (400 < (n : Int)) := by omega
  go_enter Try.func29, Try.ntmps29
  go_wp2
  go_ret2
  exact ⟨rfl, rfl⟩
set_option maxHeartbeats 400000 in
theorem bounded_no (A : Option Addr) (n c : Nat) (w : World) (h : 400 < n) :
    Calls Try.prog 29 #[.slice A n c] w fun e w' => e = .returned (.tuple #[.slice none 0 0, .int .i64 4]) ∧ w = w' := by
  have h1 : (400 < (n : Int)) := by omega
  go_enter Try.func29, Try.ntmps29
  go_wp2
  go_ret2
  exact ⟨rfl, rfl⟩

set_option maxHeartbeats 400000 in
theorem rtrim_any (A : Option Addr) (n c : Nat) (xs : List Nat) (w : World) (h : Rd w A n c xs) (hn : n ≤ 900000) :
    Calls Try.prog 31 #[.slice A n c] w (Out w (digs (val xs))) := by
  have hlen := Lib.hid h.len
  have hcap := h.cap
  have hmax := h.max
  have HL := Lib.hid h.lim
  go_enter Try.func31, Try.ntmps31
  go_wp2
  go_loop [3] (fun t => ∃ k : Nat, k ≤ n ∧ t = .int .i64 k ∧ Hid (∀ j, k ≤ j → el xs j = 0)) (fun t => (intOf t).toNat)
  case atStart => exact ⟨n, Nat.le_refl _, rfl, fun j hj => el_ge xs j (by rw [hlen.out]; exact hj)⟩
  case round =>
    obtain ⟨k, hk, rfl, hz⟩ := hrel
    by_cases hk0 : k = 0
    · subst hk0
      have HT := take_trim HL.out (Nat.zero_le _) (hz.out) (Or.inl rfl)
      have hR := h.take (Nat.zero_le n)
      rw [HT] at hR
      clear HT
      go_wp2_with (at_builtin; refine wpList_app0 _ rfl (.tmp 18) (.tmp 21) 41 rfl Try.underlying41 info50 _ _ _ (digs (val xs)) rfl rfl hR (by omega) ?_; intro A1 c1 w1 ho hbel)
      go_ret
      exact ⟨_, _, _, rfl, ho, hbel⟩
    · obtain ⟨b, o, rfl, hb, hc⟩ := h.at_ (by omega)
      have hcell := hc (k - 1) (by omega)
      have hpos : (0 : Int) < (k : Int) := by omega
      clear hc
      by_cases he : el xs (k - 1) = 0
      · have hq : (((el xs (k - 1) : Nat) : Int) == 0) = true := by rw [he]; rfl
        have HE := Lib.hid he
        clear he
        go_wp2
        go_round
        case rel => exact ⟨k - 1, by omega, by go_num, fun j hj => by
          rcases Nat.eq_or_lt_of_le hj with hj | hj
          · rw [← hj]; exact HE.out
          · exact hz.out j (by omega)⟩
        case measure => simp [intOf]; omega
      · have hq : (((el xs (k - 1) : Nat) : Int) == 0) = false := by simp; exact he
        have HE := Lib.hid he
        clear he
        have HT := take_trim HL.out (by rw [hlen.out]; exact hk) hz.out (Or.inr HE.out)
        have hR := h.take hk
        rw [HT] at hR
        clear HT
        go_wp2_with (at_builtin; refine wpList_app0 _ rfl (.tmp 18) (.tmp 21) 41 rfl Try.underlying41 info50 _ _ _ (digs (val xs)) rfl rfl hR (by omega) ?_; intro A1 c1 w1 ho hbel)
        go_ret
        exact ⟨_, _, _, rfl, ho, hbel⟩
end Go.Proofs.Ytcpeofgfppgooaa
