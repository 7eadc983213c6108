/-
  What limb.trimmed does: of a slice that reads as xs it gives the first limbs, the list of the number that xs stands for; the world stays. For every slice that can be read.
-/
import Derived.Test.YteicihaigkgbnaaProg
import Derived.Test.YteicihaigkgbnaaMem
namespace Go.Proofs.Yteicihaigkgbnaa
open Go.RowKit

def TrimP (w : World) (A : Option Addr) (n c : Nat) (xs : List Nat) (e : Ending) (w' : World) : Prop :=
  ∃ k, e = .returned (.slice A k c) ∧ k ≤ n ∧ xs.take k = digs (val xs) ∧ w = w'

set_option maxHeartbeats 400000 in
theorem trimmed_any (A : Option Addr) (n c : Nat) (xs : List Nat) (w : World) (h : Rd w A n c xs) :
    Calls Try.prog 61 #[.slice A n c] w (TrimP w A n c xs) := by
  have hlen := Lib.hid h.len
  have hcap := h.cap
  have hmax := h.max
  have HL := Lib.hid h.lim
  go_enter Try.func61, Try.ntmps61
  go_wp2
  go_loop [3] (fun t => ∃ k : Nat, k ≤ n ∧ t = .int .i64 k ∧ Hid (∀ j, k ≤ j → el xs j = 0)) (fun t => (intOf t).toNat)
  case atStart => exact ⟨n, Nat.le_refl _, rfl, fun j hj => el_ge xs j (by rw [hlen.out]; exact hj)⟩
  case round =>
    obtain ⟨k, hk, rfl, hz⟩ := hrel
    by_cases hk0 : k = 0
    · subst hk0
      go_wp2
      go_ret
      exact ⟨0, rfl, Nat.zero_le _, take_trim HL.out (Nat.zero_le _) (hz.out) (Or.inl rfl), rfl⟩
    · obtain ⟨b, o, rfl, hb, hc⟩ := h.at_ (by omega)
      have hcell := hc (k - 1) (by omega)
      have hpos : (0 : Int) < (k : Int) := by omega
      clear hc
      by_cases he : el xs (k - 1) = 0
      · have hq : (((el xs (k - 1) : Nat) : Int) == 0) = true := by rw [he]; rfl
        have HE := Lib.hid he
        clear he
        go_wp2
        go_round
        case rel => exact ⟨k - 1, by omega, by go_num, fun j hj => by
          rcases Nat.eq_or_lt_of_le hj with hj | hj
          · rw [← hj]; exact HE.out
          · exact hz.out j (by omega)⟩
        case measure => simp [intOf]; omega
      · have hq : (((el xs (k - 1) : Nat) : Int) == 0) = false := by simp; exact he
        have HE := Lib.hid he
        clear he
        go_wp2
        go_ret
        exact ⟨k, rfl, hk, take_trim HL.out (by rw [hlen.out]; exact hk) hz.out (Or.inr HE.out), rfl⟩
end Go.Proofs.Yteicihaigkgbnaa
