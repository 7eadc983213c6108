/-
  The mathematics of bags: thresholds that rise, the bag of a stake, the bounds of a bag; what bags.Formed and the reference's Rising answer. For every slice of numbers below 2^64 that can be read.
-/
import Derived.Test.YtblclpagfbpamaaChecked
import Derived.Test.YtblclpagfbpamaaBmem
namespace Go.Proofs.Ytblclpagfbpamaa
open Go.RowKit

/-- Thresholds rise, and are not too many. -/
def Ris (xs : List Nat) : Prop := xs.length ≤ 100 ∧ ∀ j, j < xs.length → 0 < j → el xs (j - 1) < el xs j
instance (xs : List Nat) : Decidable (Ris xs) := by unfold Ris; infer_instance
/-- The first place whose threshold is not less. -/
def bagN (xs : List Nat) (s : Nat) : Nat := (xs.takeWhile (fun x => decide (x < s))).length
theorem bagN_nil (s : Nat) : bagN [] s = 0 := rfl
theorem bagN_cons (x : Nat) (xs : List Nat) (s : Nat) : bagN (x :: xs) s = if x < s then bagN xs s + 1 else 0 := by
  unfold bagN; rw [List.takeWhile_cons]; by_cases h : x < s <;> simp [h]
theorem bagN_le (xs : List Nat) (s : Nat) : bagN xs s ≤ xs.length := by
  induction xs with
  | nil => exact Nat.le_refl _
  | cons x xs ih => rw [bagN_cons]; split <;> simp only [List.length_cons] <;> omega
theorem bagN_lt {xs : List Nat} {s j : Nat} (h : j < bagN xs s) : el xs j < s := by
  induction xs generalizing j with
  | nil => rw [bagN_nil] at h; omega
  | cons x xs ih =>
    rw [bagN_cons] at h
    split at h
    · cases j with
      | zero => rw [el_cons_zero]; assumption
      | succ j => rw [el_cons_succ]; exact ih (by omega)
    · omega
theorem bagN_ge {xs : List Nat} {s : Nat} (h : bagN xs s < xs.length) : s ≤ el xs (bagN xs s) := by
  induction xs with
  | nil => rw [bagN_nil] at h; simp at h
  | cons x xs ih =>
    rw [bagN_cons] at h ⊢
    split
    · rename_i hx
      rw [if_pos hx] at h
      rw [el_cons_succ]; exact ih (by simp only [List.length_cons] at h; omega)
    · rw [el_cons_zero]; omega
theorem bagN_eq {xs : List Nat} {s k : Nat} (hk : k ≤ xs.length) (h1 : ∀ j, j < k → el xs j < s) (h2 : k < xs.length → s ≤ el xs k) : bagN xs s = k := by
  have a := bagN_le xs s
  rcases Nat.lt_trichotomy (bagN xs s) k with h | h | h
  · have := h1 _ h; have := bagN_ge (xs := xs) (s := s) (by omega); omega
  · exact h
  · have := bagN_lt h; have := h2 (by omega); omega
/-- Of thresholds that rise a later one is greater. -/
theorem Ris.lt {xs : List Nat} (h : Ris xs) {i j : Nat} (hij : i < j) (hj : j < xs.length) : el xs i < el xs j := by
  induction j with
  | zero => omega
  | succ j ih =>
    have h1 := h.2 (j + 1) hj (by omega)
    rw [Nat.add_sub_cancel] at h1
    rcases Nat.lt_or_ge i j with h2 | h2
    · have := ih h2 (by omega); omega
    · obtain rfl : i = j := by omega
      exact h1
/-- A stake's bag, and error 1 where the thresholds are not formed. -/
def bagM (xs : List Nat) (s : Nat) : Nat × Nat := if Ris xs then (bagN xs s, 0) else (0, 1)
/-- A bag's bounds, and an error. -/
def bndM (xs : List Nat) (b : Int) : Nat × Nat × Nat :=
  if Ris xs then
    if b < 0 ∨ (xs.length : Int) < b then (0, 0, 5)
    else if 0 < b ∧ el xs (b.toNat - 1) = 18446744073709551615 then (0, 0, 5)
    else (if 0 < b then el xs (b.toNat - 1) + 1 else 0, if b < xs.length then el xs b.toNat else 18446744073709551615, 0)
  else (0, 0, 1)

/-- A bool is answered, and nothing is done but draws. -/
def OutD (w : World) (b : Bool) : Ending → World → Prop := fun e w' => e = .returned (.bool b) ∧ ∃ q, w' = w.drewN q

set_option maxHeartbeats 800000 in
theorem formed_any (A : Option Addr) (n c : Nat) (xs : List Nat) (w : World) (h : Rk .u64 w A n c xs) (hX : Bl 18446744073709551616 xs) :
    Calls Try.prog 30 #[.slice A n c] w (OutD w (decide (Ris xs))) := by
  have HL := Lib.hid h.len
  have hcap := h.cap
  have hmax := h.max
  obtain ⟨r, hr⟩ : ∃ r, decide (Ris xs) = r := ⟨_, rfl⟩
  rw [hr]
  have HR := Lib.hid hr
  clear hr
  by_cases hn : 100 < n
  · have h1 : (100 < (n : Int)) := by omega
    go_enter Try.func30, Try.ntmps30
    go_wp2
    go_ret
    refine ⟨?_, 0, rfl⟩
    have := HL.out
    rw [← HR.out, decide_eq_false (by unfold Ris; omega)]
    rfl
  · have h1 : ¬ (100 < (n : Int)) := by omega
    go_enter Try.func30, Try.ntmps30
    go_wp2_with fail
    go_loopw [3] (fun tv wr => ∃ k q : Nat, k ≤ n + 1 ∧ 0 < k ∧ tv = .int .i64 (k : Int) ∧ wr = w.drewN q ∧ ∀ j, j < k → j < n → 0 < j → el xs (j - 1) < el xs j) (fun tv _ => n + 1 - (intOf tv).toNat)
    case atStart => exact ⟨1, 0, by omega, by omega, rfl, rfl, fun j hj _ h0 => by omega⟩
    case round =>
      obtain ⟨k, q, hk, h0, rfl, rfl, hup⟩ := hrel
      have HU := Lib.hid hup
      clear hup
      by_cases hlt : k < n
      · obtain ⟨b, o, rfl, hb, hc⟩ := h.at_ (by omega)
        obtain ⟨m, rfl⟩ : ∃ m, k = m + 1 := ⟨k - 1, by omega⟩
        have hc1 := hc m (by omega)
        have hc2 := hc (m + 1) hlt
        have e1 := Bl_el hX (by omega) m
        have e2 := Bl_el hX (by omega) (m + 1)
        clear hc
        obtain ⟨x, hx⟩ : ∃ x, el xs m = x := ⟨_, rfl⟩
        obtain ⟨y, hy⟩ : ∃ y, el xs (m + 1) = y := ⟨_, rfl⟩
        rw [hx] at hc1 e1
        rw [hy] at hc2 e2
        have HX := Lib.hid hx
        have HY := Lib.hid hy
        clear hx hy
        by_cases hxy : x < y
        · have hd : decide ((y : Int) ≤ (x : Int)) = false := by simp; omega
          go_wp2_with fail
          go_quiet (fail)
          go_wp2
          go_roundw
          case rel => exact ⟨m + 2, _, by omega, by omega, by go_num, rfl, fun j hj hjn hj0 => by
            rcases Nat.lt_or_ge j (m + 1) with h1 | h1
            · exact HU.out j h1 hjn hj0
            · obtain rfl : j = m + 1 := by omega
              rw [Nat.add_sub_cancel, HX.out, HY.out]; exact hxy⟩
          case measure => simp [intOf]; omega
        · have hd : decide ((y : Int) ≤ (x : Int)) = true := by simp; omega
          go_wp2_with fail
          go_quiet (fail)
          go_wp2
          go_ret
          refine ⟨?_, _, World.drewN_drewN ..⟩
          have hR : ¬ Ris xs := fun hris => by
            have := hris.2 (m + 1) (by rw [HL.out]; exact hlt) (by omega)
            rw [Nat.add_sub_cancel, HX.out, HY.out] at this
            exact hxy this
          rw [← HR.out, decide_eq_false hR]
          rfl
      · have hR : Ris xs := ⟨by rw [HL.out]; omega, fun j hj h0 => HU.out j (by rw [HL.out] at hj; omega) (by rw [HL.out] at hj; exact hj) h0⟩
        go_wp2
        go_ret
        refine ⟨?_, q, rfl⟩
        rw [← HR.out, decide_eq_true hR]
        rfl
set_option maxHeartbeats 800000 in
theorem rising_any (A : Option Addr) (n c : Nat) (xs : List Nat) (w : World) (h : Rk .u64 w A n c xs) (hX : Bl 18446744073709551616 xs) :
    Calls Try.prog 9 #[.slice A n c] w (OutD w (decide (Ris xs))) := by
  have HL := Lib.hid h.len
  have hcap := h.cap
  have hmax := h.max
  obtain ⟨r, hr⟩ : ∃ r, decide (Ris xs) = r := ⟨_, rfl⟩
  rw [hr]
  have HR := Lib.hid hr
  clear hr
  go_enter Try.func9, Try.ntmps9
  go_wp2_with fail
  go_loopw [6] (fun tv wr => ∃ k q : Nat, k ≤ n ∧ k ≤ 100 ∧ tv = .int .i64 (k : Int) ∧ wr = w.drewN q ∧ ∀ j, j < k → 0 < j → el xs (j - 1) < el xs j) (fun tv _ => n - (intOf tv).toNat)
  case atStart => exact ⟨0, 0, by omega, by omega, rfl, rfl, fun j hj h0 => by omega⟩
  case round =>
    obtain ⟨k, q, hk, hk100, rfl, rfl, hup⟩ := hrel
    have HU := Lib.hid hup
    clear hup
    by_cases hlt : k < n
    · obtain ⟨b, o, rfl, hb, hc⟩ := h.at_ (by omega)
      by_cases h100 : k = 100
      · have hd : decide (100 ≤ (k : Int)) = true := by simp; omega
        have hR : ¬ Ris xs := fun hris => by have h1 := hris.1; rw [HL.out] at h1; omega
        clear hc
        go_wp2_with fail
        go_quiet (fail)
        go_wp2
        go_ret
        refine ⟨?_, _, World.drewN_drewN ..⟩
        rw [← HR.out, decide_eq_false hR]
        rfl
      · have hd : decide (100 ≤ (k : Int)) = false := by simp; omega
        rcases Nat.eq_zero_or_pos k with h0 | h0
        · subst h0
          clear hc
          go_wp2_with fail
          go_quiet (fail)
          go_wp2
          go_roundw
          case rel => exact ⟨1, _, by omega, by omega, by go_num, rfl, fun j hj hj0 => by omega⟩
          case measure => simp [intOf]; omega
        · obtain ⟨m, rfl⟩ : ∃ m, k = m + 1 := ⟨k - 1, by omega⟩
          have hd1 : decide (100 ≤ m + 1) = false := by simp; omega
          have hd3 : decide (100 ≤ (m : Int) + 1) = false := by simp; omega
          have hc1 := hc m (by omega)
          have hc2 := hc (m + 1) hlt
          have e1 := Bl_el hX (by omega) m
          have e2 := Bl_el hX (by omega) (m + 1)
          clear hc
          obtain ⟨x, hx⟩ : ∃ x, el xs m = x := ⟨_, rfl⟩
          obtain ⟨y, hy⟩ : ∃ y, el xs (m + 1) = y := ⟨_, rfl⟩
          rw [hx] at hc1 e1
          rw [hy] at hc2 e2
          have HX := Lib.hid hx
          have HY := Lib.hid hy
          clear hx hy
          by_cases hxy : x < y
          · have hd2 : decide ((y : Int) ≤ (x : Int)) = false := by simp; omega
            go_wp2_with fail
            go_quiet (fail)
            go_wp2
            go_roundw
            case rel => exact ⟨m + 2, _, by omega, by omega, by go_num, rfl, fun j hj hj0 => by
              rcases Nat.lt_or_ge j (m + 1) with h1 | h1
              · exact HU.out j h1 hj0
              · obtain rfl : j = m + 1 := by omega
                rw [Nat.add_sub_cancel, HX.out, HY.out]; exact hxy⟩
            case measure => simp [intOf]; omega
          · have hd2 : decide ((y : Int) ≤ (x : Int)) = true := by simp; omega
            have hR : ¬ Ris xs := fun hris => by
              have := hris.2 (m + 1) (by rw [HL.out]; exact hlt) (by omega)
              rw [Nat.add_sub_cancel, HX.out, HY.out] at this
              exact hxy this
            go_wp2_with fail
            go_quiet (fail)
            go_wp2
            go_ret
            refine ⟨?_, _, World.drewN_drewN ..⟩
            rw [← HR.out, decide_eq_false hR]
            rfl
    · obtain rfl : k = n := by omega
      have hR : Ris xs := ⟨by rw [HL.out]; omega, fun j hj h0 => HU.out j (by rw [HL.out] at hj; exact hj) h0⟩
      go_wp2
      go_ret
      refine ⟨?_, q, rfl⟩
      rw [← HR.out, decide_eq_true hR]
      rfl
end Go.Proofs.Ytblclpagfbpamaa
