/-
  What graph.ascending answers: whether a list has at most that many numbers, from 0 to 2^31 - 1, each greater than the one before. For every slice of ints that can be read.
-/
import Derived.Test.YtckeghmhkghelaaQmem
namespace Go.Proofs.Ytckeghmhkghelaa
open Go.RowKit
set_option linter.unusedVariables false

set_option maxHeartbeats 800000 in
theorem asc_any (A : Option Addr) (n c : Nat) (zs : List Int) (most : Int) (w : World) (h : Ri w A n c zs) :
    Calls Try.prog 13 #[.slice A n c, .int .i64 most] w fun e w' => e = .returned (.bool (decide (Asc most zs))) ∧ w = w' := by
  have HL := Lib.hid h.len
  have hcap := h.cap
  have hmax := h.max
  obtain ⟨r, hr⟩ : ∃ r, decide (Asc most zs) = r := ⟨_, rfl⟩
  rw [hr]
  have HR := Lib.hid hr
  clear hr
  by_cases hn : most < (n : Int)
  · go_enter Try.func13, Try.ntmps13
    go_wp2
    go_ret
    refine ⟨?_, rfl⟩
    have := HL.out
    rw [← HR.out, decide_eq_false (by unfold Asc; omega)]
    rfl
  · go_enter Try.func13, Try.ntmps13
    go_wp2_with fail
    go_loop [5, 14] (fun bv iv => ∃ k : Nat, k ≤ n ∧ bv = .int .i64 (prv zs k) ∧ iv = .int .i64 (k : Int) ∧ ∀ j, j < k → prv zs j < zl zs j ∧ zl zs j ≤ 2147483647) (fun _ iv => n - (intOf iv).toNat)
    case atStart => exact ⟨0, by omega, rfl, rfl, fun j hj => by omega⟩
    case round =>
      obtain ⟨k, hk, rfl, rfl, hup⟩ := hrel
      have HU := Lib.hid hup
      clear hup
      by_cases hlt : k < n
      · obtain ⟨b, o, rfl, hb, hc⟩ := h.at_ (by omega)
        have hcell := hc k hlt
        clear hc
        obtain ⟨x, hx⟩ : ∃ x, zl zs k = x := ⟨_, rfl⟩
        obtain ⟨p, hp⟩ : ∃ p, prv zs k = p := ⟨_, rfl⟩
        rw [hx] at hcell
        rw [hp]
        have HX := Lib.hid hx
        have HP := Lib.hid hp
        clear hx hp
        by_cases h1 : x ≤ p
        · have hR : ¬ Asc most zs := fun ha => by
            have := (ha.2 k (by rw [HL.out]; exact hlt)).1
            rw [HX.out, HP.out] at this
            omega
          go_wp2_with fail
          go_ret
          refine ⟨?_, rfl⟩
          rw [← HR.out, decide_eq_false hR]
          rfl
        · by_cases h2 : 2147483647 < x
          · have hR : ¬ Asc most zs := fun ha => by
              have := (ha.2 k (by rw [HL.out]; exact hlt)).2
              rw [HX.out] at this
              omega
            go_wp2_with fail
            go_ret
            refine ⟨?_, rfl⟩
            rw [← HR.out, decide_eq_false hR]
            rfl
          · go_wp2_with fail
            go_round
            case rel => exact ⟨k + 1, by omega, by rw [prv_succ, HX.out], by go_num, fun j hj => by
              rcases Nat.lt_or_ge j k with h3 | h3
              · exact HU.out j h3
              · obtain rfl : j = k := by omega
                rw [HX.out, HP.out]; omega⟩
            case measure => simp [intOf]; omega
      · have hR : Asc most zs := ⟨by rw [HL.out]; omega, fun j hj => HU.out j (by rw [HL.out] at hj; omega)⟩
        go_wp2
        go_ret
        refine ⟨?_, rfl⟩
        rw [← HR.out, decide_eq_true hR]
        rfl
end Go.Proofs.Ytckeghmhkghelaa
