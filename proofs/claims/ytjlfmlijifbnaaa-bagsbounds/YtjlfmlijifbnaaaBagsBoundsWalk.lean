/-
  The law BagsBounds returns true, for every slice of numbers below 2^64 that can be read and all stakes below 2^64.
-/
import Derived.Test.YtjlfmlijifbnaaaGwake
namespace Go.Proofs.Ytjlfmlijifbnaaa
open Go.RowKit
set_option linter.unusedVariables false

theorem bagN_mono {xs : List Nat} {s t : Nat} (h : s ≤ t) : bagN xs s ≤ bagN xs t := by
  rcases Nat.lt_or_ge (bagN xs t) (bagN xs s) with h1 | h1
  · have := bagN_lt h1
    have := bagN_ge (xs := xs) (s := t) (by have := bagN_le xs s; omega)
    omega
  · exact h1
/-- A stake lies within the bounds of its bag, and of no other one. -/
theorem inb {xs : List Nat} {s i : Nat} (h : Ris xs) (hs : s < 18446744073709551616) (hi : i ≤ xs.length) : ((bndM xs (i : Int)).2.2 = 0 ∧ (bndM xs (i : Int)).1 ≤ s ∧ s ≤ (bndM xs (i : Int)).2.1) ↔ i = bagN xs s := by
  have a1 := bagN_le xs s
  have a2 : ∀ j, j < bagN xs s → el xs j < s := fun j hj => bagN_lt hj
  have a3 : bagN xs s < xs.length → s ≤ el xs (bagN xs s) := fun hj => bagN_ge hj
  have a4 : ∀ j, bagN xs s ≤ j → j < xs.length → s ≤ el xs j := fun j h1 h2 => by
    rcases Nat.lt_or_ge (bagN xs s) j with h3 | h3
    · have := h.lt h3 h2; have := a3 (by omega); omega
    · obtain rfl : j = bagN xs s := by omega
      exact a3 h2
  generalize bagN xs s = k at *
  rcases Nat.eq_zero_or_pos i with h0 | h0
  · subst h0
    rw [show ((0 : Nat) : Int) = 0 from rfl, bndM_zero h]
    constructor
    · rintro ⟨_, _, h3⟩
      dsimp only at h3
      rcases Nat.eq_zero_or_pos k with hk | hk
      · exact hk.symm
      · rw [if_pos (by omega)] at h3; have := a2 0 hk; omega
    · intro e
      subst e
      refine ⟨rfl, Nat.zero_le _, ?_⟩
      dsimp only
      split
      · exact a4 0 (by omega) (by assumption)
      · omega
  · obtain ⟨m, rfl⟩ : ∃ m, i = m + 1 := ⟨i - 1, by omega⟩
    by_cases ht : el xs m = 18446744073709551615
    · rw [show ((m + 1 : Nat) : Int) = (m : Int) + 1 from rfl, bndM_top h (by omega) ht]
      constructor
      · rintro ⟨h1, _⟩; cases h1
      · intro e; have := a2 m (by omega); omega
    · rw [show ((m + 1 : Nat) : Int) = (m : Int) + 1 from rfl, bndM_some h (by omega) ht]
      constructor
      · rintro ⟨_, h2, h3⟩
        dsimp only at h2 h3
        rcases Nat.lt_trichotomy (m + 1) k with hk | hk | hk
        · rw [if_pos (by omega)] at h3; have := a2 (m + 1) hk; omega
        · exact hk
        · have := a4 m (by omega) (by omega); omega
      · intro e
        subst e
        refine ⟨rfl, a2 m (by omega), ?_⟩
        dsimp only
        split
        · exact a4 _ (Nat.le_refl _) (by assumption)
        · omega

set_option maxHeartbeats 400000 in
theorem bbounds_walk (A : Option Addr) (n c : Nat) (s t : Nat) (xs : List Nat) (w : World) (h : Rk .u64 w A n c xs) (hX : Bl 18446744073709551616 xs) (hs : s < 18446744073709551616) :
    Calls Try.prog 4 #[.slice A n c, .int .u64 s, .int .u64 t] w fun e w' => e = .returned (.bool true) ∧ Below w.heap.size w w' := by
  have hcap := h.cap
  have hmax := h.max
  by_cases hn : 100 < n
  · have h1 : (100 < (n : Int)) := by omega
    go_enter Try.func4, Try.ntmps4
    go_wp2_with fail
    refine (gwake_any w).mono ?_
    rintro e w1 ⟨rfl, b1⟩
    go_wp2_with fail
    refine (gwake_any w1).mono ?_
    rintro e w2 ⟨rfl, b2⟩
    go_wp2
    go_ret
    exact ⟨rfl, b1.trans (b2.mono b1.size)⟩
  · have h1 : ¬ (100 < (n : Int)) := by omega
    by_cases hr : Ris xs
    · have y1 := fun W hW => bag_any A n c xs s W hW hX
      have y2 := fun W hW => bag_any A n c xs (max s t) W hW hX
      have y3 := fun (i : Nat) W hW => bnd_any A n c xs (i : Int) W hW hX
      have y5 := fun W hW => formed_any A n c xs W hW hX
      simp only [show ∀ s, bagM xs s = (bagN xs s, 0) from fun s => if_pos hr] at y1 y2
      simp only [decide_eq_true hr] at y5
      have HI := Lib.hid (fun i => inb (i := i) hr hs)
      have hmo : bagN xs s ≤ bagN xs (max s t) := bagN_mono (by omega)
      have hle : bagN xs s ≤ n := by have := bagN_le xs s; rw [h.len] at this; exact this
      have HL := Lib.hid h.len
      generalize bagN xs s = k at *
      generalize bagN xs (max s t) = k2 at *
      have hmo1 : decide ((k2 : Int) < (k : Int)) = false := by simp; omega
      have hmo2 : decide (k2 < k) = false := by simp; omega
      have hmx : (if (s : Int) < (t : Int) then (t : Int) else (s : Int)) = ((max s t : Nat) : Int) := by split <;> omega
      have hmy : (if s < t then (t : Int) else (s : Int)) = ((max s t : Nat) : Int) := by split <;> omega
      generalize max s t = st at *
      clear hr
      go_enter Try.func4, Try.ntmps4
      go_wp2_with fail
      refine (gwake_any w).mono ?_
      rintro e w1 ⟨rfl, b1⟩
      replace h := h.below b1
      go_wp2_with fail
      refine (y5 _ h).mono ?_
      rintro e w2 ⟨rfl, q, rfl⟩
      replace b1 := belowDrG b1 q
      replace h := h.drewN q
      generalize w1.drewN q = w1 at *
      go_wp2_with fail
      refine (y1 _ h).mono ?_
      rintro e w2 ⟨rfl, q, rfl⟩
      replace b1 := belowDrG b1 q
      replace h := h.drewN q
      generalize w1.drewN q = w1 at *
      go_wp2_with fail
      refine (y2 _ h).mono ?_
      rintro e w2 ⟨rfl, q, rfl⟩
      replace b1 := belowDrG b1 q
      replace h := h.drewN q
      generalize w1.drewN q = w1 at *
      go_wp2_with fail
      go_loopw [52] (fun tv wr => ∃ i : Nat, i ≤ n + 1 ∧ tv = .int .i64 (i : Int) ∧ Below w.heap.size w wr ∧ Rk .u64 wr A n c xs) (fun tv _ => n + 1 - (intOf tv).toNat)
      case atStart => exact ⟨0, by omega, rfl, b1, h⟩
      case round =>
        obtain ⟨i, hi, rfl, b2, h2⟩ := hrel
        by_cases hlt : i < n + 1
        · have hin := HI.out i (by rw [HL.out]; omega)
          have y := y3 i _ h2
          generalize bndM xs (i : Int) = t at hin y
          obtain ⟨t1, t2, t3⟩ := t
          dsimp only at hin
          go_wp2_with fail
          refine y.mono ?_
          rintro e w2 ⟨rfl, q, rfl⟩
          replace b2 := belowDrG b2 q
          replace h2 := h2.drewN q
          by_cases hik : i = k
          · subst hik
            obtain ⟨g1, g2, g3⟩ := hin.2 rfl
            subst g1
            go_wp2
            go_roundw
            case rel => exact ⟨i + 1, by omega, by go_num, b2, h2⟩
            case measure => simp [intOf]; omega
          · have hik' : ((i : Int) == (k : Int)) = false := by simp; omega
            by_cases g1 : t3 = 0
            · subst g1
              by_cases g2 : t1 ≤ s
              · have g3 : ¬ s ≤ t2 := fun g3 => hik (hin.1 ⟨rfl, g2, g3⟩)
                go_wp2
                go_roundw
                case rel => exact ⟨i + 1, by omega, by go_num, b2, h2⟩
                case measure => simp [intOf]; omega
              · go_wp2
                go_roundw
                case rel => exact ⟨i + 1, by omega, by go_num, b2, h2⟩
                case measure => simp [intOf]; omega
            · have g1' : ((t3 : Int) == 0) = false := by simp; omega
              go_wp2
              go_roundw
              case rel => exact ⟨i + 1, by omega, by go_num, b2, h2⟩
              case measure => simp [intOf]; omega
        · go_wp2
          go_ret
          exact ⟨rfl, b2⟩
    · have y5 := fun W hW => formed_any A n c xs W hW hX
      simp only [decide_eq_false hr] at y5
      clear hr
      go_enter Try.func4, Try.ntmps4
      go_wp2_with fail
      refine (gwake_any w).mono ?_
      rintro e w1 ⟨rfl, b1⟩
      replace h := h.below b1
      go_wp2_with fail
      refine (y5 _ h).mono ?_
      rintro e w2 ⟨rfl, q, rfl⟩
      replace b1 := belowDrG b1 q
      generalize w1.drewN q = w1 at *
      go_wp2_with fail
      refine (gwake_any w1).mono ?_
      rintro e w2 ⟨rfl, b2⟩
      go_wp2
      go_ret
      exact ⟨rfl, b1.trans (b2.mono b1.size)⟩
end Go.Proofs.Ytjlfmlijifbnaaa
