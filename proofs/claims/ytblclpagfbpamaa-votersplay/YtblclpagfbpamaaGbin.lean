/-
  cmp.Less, slices.BinarySearch over numbers below 2^64; bags.Bag and the reference's Bag. For every slice of numbers below 2^64 that can be read.
-/
import Derived.Test.YtblclpagfbpamaaGbag
namespace Go.Proofs.Ytblclpagfbpamaa
open Go.RowKit
set_option linter.unusedVariables false

theorem unan_no (a : Nat) (w : World) : Calls Try.prog 68 #[.int .u64 a] w fun e w' => e = .returned (.bool false) ∧ w = w' := by
  go_enter Try.func68, Try.ntmps68
  go_wp2
  go_ret
  exact ⟨by simp, rfl⟩
theorem usnan_no (a : Nat) (w : World) : Calls Try.prog 66 #[.int .u64 a] w fun e w' => e = .returned (.bool false) ∧ w = w' := by
  go_enter Try.func66, Try.ntmps66
  go_wp2
  go_ret
  exact ⟨by simp, rfl⟩
theorem uless_any (a b : Nat) (w : World) : Calls Try.prog 65 #[.int .u64 a, .int .u64 b] w fun e w' => e = .returned (.bool (decide (a < b))) ∧ w = w' := by
  go_enter Try.func65, Try.ntmps65
  go_wp2_with fail
  refine (unan_no a w).mono ?_
  rintro e w' ⟨rfl, rfl⟩
  go_wp2
  go_ret
  exact ⟨by simp, rfl⟩
/-- A place and some bool are answered, and nothing is done. -/
def OutPl (w : World) (k : Nat) : Ending → World → Prop := fun e w' => (∃ b : Bool, e = .returned (.tuple #[.int .i64 (k : Nat), .bool b])) ∧ w = w'
set_option maxHeartbeats 1600000 in
theorem ubin_any (A : Option Addr) (n c : Nat) (xs : List Nat) (s : Nat) (w : World) (h : Rk .u64 w A n c xs) (hup : Ris xs) :
    Calls Try.prog 60 #[.slice A n c, .int .u64 s] w (OutPl w (bagN xs s)) := by
  have hn100 : n ≤ 100 := by have := hup.1; rw [h.len] at this; exact this
  have HU := Lib.hid hup
  have HL := Lib.hid h.len
  have hcap := h.cap
  have hmax := h.max
  clear hup
  go_enter Try.func60, Try.ntmps60
  go_wp2_with fail
  go_loop [7, 8] (fun iv jv => ∃ i j : Nat, i ≤ j ∧ j ≤ n ∧ iv = .int .i64 (i : Int) ∧ jv = .int .i64 (j : Int) ∧ (∀ m : Nat, m < i → el xs m < s) ∧ (∀ m : Nat, j ≤ m → m < n → s ≤ el xs m)) (fun iv jv => (intOf jv).toNat - (intOf iv).toNat)
  case atStart => exact ⟨0, n, Nat.zero_le _, Nat.le_refl _, rfl, rfl, fun m hm => by omega, fun m hm hx => by omega⟩
  case round =>
    obtain ⟨i, j, hij, hjn, rfl, rfl, hlo, hhi⟩ := hrel
    have HLO := Lib.hid hlo
    have HHI := Lib.hid hhi
    clear hlo hhi
    by_cases hlt : i < j
    · obtain ⟨g, o, rfl, hg, hc⟩ := h.at_ (by omega)
      obtain ⟨k, hk⟩ : ∃ k : Nat, k = (i + j) / 2 := ⟨_, rfl⟩
      have hk1 : k < n := by omega
      have hcell := hc k hk1
      have hw1 : IntKind.i64.wrap ((i : Int) + (j : Int)) = (i : Int) + (j : Int) := by rw [IntKind.wrap_i64]; omega
      have HK := Lib.hid hk
      have hq : ((i : Int) + (j : Int)) / 2 = (k : Int) := by omega
      have hki : i ≤ k ∧ k < j := by omega
      clear hc hk
      obtain ⟨x, hx⟩ : ∃ x, el xs k = x := ⟨_, rfl⟩
      rw [hx] at hcell
      have HX := Lib.hid hx
      clear hx
      go_wp2_with fail
      refine (uless_any x s _).mono ?_
      rintro e w1 ⟨rfl, rfl⟩
      have hw2 : IntKind.i64.wrap ((k : Int) + 1) = (k : Int) + 1 := by rw [IntKind.wrap_i64]; omega
      by_cases hx2 : x < s
      · go_wp2_with fail
        go_round
        case rel =>
          refine ⟨k + 1, j, by omega, hjn, by simp, rfl, fun m hm => ?_, HHI.out⟩
          rcases Nat.lt_or_ge m k with hmk | hmk
          · have := HU.out.lt hmk (by rw [HL.out]; omega)
            have := HX.out
            omega
          · obtain rfl : m = k := by omega
            rw [HX.out]
            exact hx2
        case measure => simp [intOf]; omega
      · go_wp2_with fail
        go_round
        case rel =>
          refine ⟨i, k, by omega, by omega, rfl, rfl, HLO.out, fun m hm hmn => ?_⟩
          rcases Nat.lt_or_ge k m with hmk | hmk
          · have := HU.out.lt hmk (by rw [HL.out]; omega)
            have := HX.out
            omega
          · obtain rfl : m = k := by omega
            rw [HX.out]
            omega
        case measure => simp [intOf]; omega
    · obtain rfl : i = j := by omega
      have hp := bagN_eq (xs := xs) (s := s) (k := i) (by rw [HL.out]; omega) HLO.out (fun hc => HHI.out i (Nat.le_refl _) (by rw [HL.out] at hc; exact hc))
      have HP := Lib.hid hp
      clear hp
      by_cases hin : i < n
      · obtain ⟨g, o, rfl, hg, hc⟩ := h.at_ (by omega)
        have hcell := hc i hin
        obtain ⟨x, hx⟩ : ∃ x, el xs i = x := ⟨_, rfl⟩
        rw [hx] at hcell
        clear hc hx
        by_cases hxs : x = s
        · subst hxs
          go_wp2
          go_ret2
          exact ⟨⟨_, by rw [HP.out]; rfl⟩, rfl⟩
        · have hb : ((x : Int) == (s : Int)) = false := by simp; omega
          go_wp2_with fail
          refine (usnan_no x _).mono ?_
          rintro e w1 ⟨rfl, rfl⟩
          go_wp2
          go_ret2
          exact ⟨⟨_, by rw [HP.out]; rfl⟩, rfl⟩
      · go_wp2
        go_ret2
        exact ⟨⟨_, by rw [HP.out]; rfl⟩, rfl⟩
/-- A number and an error are answered, and nothing is done but draws. -/
def OutB2 (w : World) (r : Nat × Nat) : Ending → World → Prop := fun e w' => e = .returned (.tuple #[.int .i64 (r.1 : Nat), .int .i64 (r.2 : Nat)]) ∧ ∃ q, w' = w.drewN q
set_option maxHeartbeats 800000 in
theorem bag_any (A : Option Addr) (n c : Nat) (xs : List Nat) (s : Nat) (w : World) (h : Rk .u64 w A n c xs) (hX : Bl 18446744073709551616 xs) :
    Calls Try.prog 49 #[.slice A n c, .int .u64 s] w (OutB2 w (bagM xs s)) := by
  have hcap := h.cap
  have hmax := h.max
  by_cases hr : Ris xs
  · rw [show bagM xs s = (bagN xs s, 0) from if_pos hr]
    have hF := formed_any A n c xs w h hX
    have hB := fun q => ubin_any A n c xs s (w.drewN q) h hr
    rw [decide_eq_true hr] at hF
    clear hr
    go_enter Try.func49, Try.ntmps49
    go_wp2_with fail
    refine hF.mono ?_
    rintro e w1 ⟨rfl, q, rfl⟩
    go_wp2_with fail
    refine (hB q).mono ?_
    rintro e w1 ⟨⟨b, rfl⟩, rfl⟩
    go_wp2
    go_ret2
    exact ⟨rfl, q, rfl⟩
  · rw [show bagM xs s = (0, 1) from if_neg hr]
    have hF := formed_any A n c xs w h hX
    rw [decide_eq_false hr] at hF
    clear hr
    go_enter Try.func49, Try.ntmps49
    go_wp2_with fail
    refine hF.mono ?_
    rintro e w1 ⟨rfl, q, rfl⟩
    go_wp2
    go_ret2
    exact ⟨rfl, q, rfl⟩
set_option maxHeartbeats 800000 in
theorem rbag_any (A : Option Addr) (n c : Nat) (xs : List Nat) (s : Nat) (w : World) (h : Rk .u64 w A n c xs) (hX : Bl 18446744073709551616 xs) :
    Calls Try.prog 26 #[.slice A n c, .int .u64 s] w (OutB2 w (bagM xs s)) := by
  have hcap := h.cap
  have hmax := h.max
  have HL := Lib.hid h.len
  by_cases hr : Ris xs
  · rw [show bagM xs s = (bagN xs s, 0) from if_pos hr]
    have hF := rising_any A n c xs w h hX
    rw [decide_eq_true hr] at hF
    clear hr
    go_enter Try.func26, Try.ntmps26
    go_wp2_with fail
    refine hF.mono ?_
    rintro e w1 ⟨rfl, q, rfl⟩
    go_wp2_with fail
    go_loop [12] (fun tv => ∃ k : Nat, k ≤ n ∧ tv = .int .i64 (k : Int) ∧ ∀ j, j < k → el xs j < s) (fun tv => n - (intOf tv).toNat)
    case atStart => exact ⟨0, by omega, rfl, fun j hj => by omega⟩
    case round =>
      obtain ⟨k, hk, rfl, hlo⟩ := hrel
      have HLO := Lib.hid hlo
      clear hlo
      by_cases hlt : k < n
      · obtain ⟨g, o, rfl, hg, hc⟩ := h.at_ (by omega)
        have hcell : (w.drewN q).cell? ⟨g, o + k, none⟩ = some (.int .u64 (el xs k)) := hc k hlt
        obtain ⟨x, hx⟩ : ∃ x, el xs k = x := ⟨_, rfl⟩
        rw [hx] at hcell
        have HX := Lib.hid hx
        clear hc hx
        by_cases hxs : s ≤ x
        · have HP := Lib.hid (bagN_eq (xs := xs) (s := s) (k := k) (by rw [HL.out]; omega) HLO.out (fun _ => by rw [HX.out]; exact hxs))
          go_wp2
          go_ret2
          exact ⟨by rw [HP.out]; rfl, q, rfl⟩
        · go_wp2
          go_round
          case rel => exact ⟨k + 1, by omega, by go_num, fun j hj => by
            rcases Nat.lt_or_ge j k with h1 | h1
            · exact HLO.out j h1
            · obtain rfl : j = k := by omega
              rw [HX.out]; omega⟩
          case measure => simp [intOf]; omega
      · obtain rfl : k = n := by omega
        have HP := Lib.hid (bagN_eq (xs := xs) (s := s) (k := k) (by rw [HL.out]; omega) HLO.out (fun hc => by rw [HL.out] at hc; omega))
        go_wp2
        go_ret2
        exact ⟨by rw [HP.out]; rfl, q, rfl⟩
  · rw [show bagM xs s = (0, 1) from if_neg hr]
    have hF := rising_any A n c xs w h hX
    rw [decide_eq_false hr] at hF
    clear hr
    go_enter Try.func26, Try.ntmps26
    go_wp2_with fail
    refine hF.mono ?_
    rintro e w1 ⟨rfl, q, rfl⟩
    go_wp2
    go_ret2
    exact ⟨rfl, q, rfl⟩
end Go.Proofs.Ytblclpagfbpamaa
