/-
  What the reference's Take does: the same as compact's. For slices of bytes that can be read.
-/
import Derived.Test.YtdhgdphjamcfcaaBtake
import Derived.Test.YtdhgdphjamcfcaaBnum
namespace Go.Proofs.Ytdhgdphjamcfcaa
open Go.RowKit

/-- It returns what Take gives, and what was there is there. -/
def TkP (w : World) (bs : List Nat) (e : Ending) (w' : World) : Prop := e = tkE bs ∧ Below w.heap.size w w'
theorem or_up (m x : Nat) (hm : m < 72057594037927936) (hx : x < 256) : bits .or .u64 ((m : Int) * 256) (x : Int) = ((x + 256 * m : Nat) : Int) := by
  rw [show ((m : Int) * 256) = ((m * 256 : Nat) : Int) by omega, u64_or_nat _ _ (by omega) (by omega), nat_join 8 _ _ (by omega) (by omega)]
  congr 1; omega
theorem lev_drop_lt {ys : List Nat} {j k : Nat} (h : Bl 256 ys) (hl : ys.length = k) (hj : k - j ≤ 7) : lev (ys.drop j) < 72057594037927936 := by
  have h1 := lev_lt (Bl_drop h j)
  rw [List.length_drop, hl, pb_two] at h1
  have h2 := Nat.pow_le_pow_right (show 0 < 2 by omega) (show 8 * (k - j) ≤ 56 by omega)
  omega

set_option maxHeartbeats 1600000 in
/-- The reference's Take, the form of many bytes. -/
theorem rtake_many (b o n c : Nat) (xs : List Nat) (w : World) (h : Rk .u8 w (some ⟨b, o, none⟩) n c xs) (hB : Bl 256 xs) (h0 : 0 < n) (h9 : st (el xs 0) ≤ 9) (hs : st (el xs 0) ≤ n) (h3 : el xs 0 % 4 = 3) :
    Calls Try.prog 14 #[.slice (some ⟨b, o, none⟩) n c] w (TkP w xs) := by
  have HL := Lib.hid h.len
  have hcap := h.cap
  have hmax := h.max
  have h00 : ((n : Int) == 0) = false := by simp; omega
  obtain ⟨b', o', hbo, hb, hc⟩ := h.at_ h0
  injection hbo with hbo
  injection hbo with e1 e2 _
  subst e1 e2
  have HC := Lib.hid hc
  have hcell := hc 0 h0
  rw [Nat.add_zero] at hcell
  clear hc
  have he := Bl_el hB (by omega) 0
  have ha := and3 (el xs 0) he
  rw [h3] at ha
  have hst : st (el xs 0) = 5 + el xs 0 / 4 := by unfold st; rw [if_neg (by omega), if_neg (by omega), if_neg (by omega)]
  have h9' : ¬ (9 : Int) < ((st (el xs 0) : Nat) : Int) := by omega
  have hs' : ¬ (n : Int) < ((st (el xs 0) : Nat) : Int) := by omega
  have hT := h.take (i := st (el xs 0)) hs
  have HLT := Lib.hid hT.len
  have HBT := Lib.hid (Bl_take hB (st (el xs 0)))
  have HEL := Lib.hid (fun j (hj : j < st (el xs 0)) => el_take xs (st (el xs 0)) j hj)
  have HNB := Lib.hid (nb_num HBT.out (by rw [HLT.out, HEL.out 0 (by omega)]) (by rw [HEL.out 0 (by omega)]; exact h9))
  have HNUM := Lib.hid (show num (xs.take (st (el xs 0))) = lev ((xs.take (st (el xs 0))).drop 1) by unfold num; rw [HEL.out 0 (by omega), if_pos h3])
  have HN := Lib.hid (num_st hB h9)
  have HY := Lib.hid (tk_yes xs (by rw [HL.out]; omega) h9 (by rw [HL.out]; exact hs))
  have HF := Lib.hid (tk_form xs (by rw [HL.out]; omega) h9 (by rw [HL.out]; exact hs))
  have hk5 : 5 ≤ st (el xs 0) := by omega
  clear h3 hst
  generalize hk : st (el xs 0) = k at *
  generalize hys : xs.take k = ys at *
  have HK := Lib.hid hk
  have HYS := Lib.hid hys
  clear hk hys
  go_enter Try.func14, Try.ntmps14
  go_wp2_with fail
  refine (rsize_any _ _ he).mono ?_
  rw [HK.out]
  rintro e w' ⟨rfl, rfl⟩
  go_wp2
  go_loop [6, 8] (fun a t => ∃ j m : Nat, 1 ≤ j ∧ j ≤ k ∧ t = .int .i64 ((j : Int) - 1) ∧ a = .int .u64 (m : Int) ∧ Hid (lev (ys.drop j) = m)) (fun _ t => (intOf t + 1).toNat)
  case atStart => exact ⟨k, 0, by omega, by omega, rfl, rfl, Lib.hid (by rw [List.drop_of_length_le (by rw [HLT.out]; exact Nat.le_refl _)]; rfl)⟩
  case round =>
    obtain ⟨j, m, hj1, hjk, rfl, rfl, HM⟩ := hrel
    by_cases hj : j = 1
    · subst hj
      have hm : num ys = m := by rw [HNUM.out, HM.out]
      subst hm
      have hcv := fun W (hW : Rk .u8 W (some ⟨b, o, none⟩) k c ys) => run_str (P := Try.prog) W 22 9 5 Try.underlying22 Try.underlying5 Try.underlying9 hW
      have hTd : Rk .u8 w.drew (some ⟨b, o, none⟩) k c ys := hT
      by_cases hf : sz (num ys) = k
      · have HE := Lib.hid (tkE_of (HY.out hf))
        have HQ := Lib.hid (HNB.out.2 (by rw [HLT.out]; exact hf))
        clear hf
        go_wp2
        go_region_with (go_at_call 11; refine (number_any _ _ HN.out).mono ?_; rw [HQ.out]; rintro e w1 ⟨A1, n1, c1, rfl, hO1, hb1⟩; have hcv1 := run_str (P := Try.prog) w1 22 9 5 Try.underlying22 Try.underlying5 Try.underlying9 hO1.rk; have hT1 := hTd.below hb1)
        all_goals (go_wp2; go_ret3; exact ⟨HE.out, (Below.refl _ _).drew.trans hb1⟩)
      · have HE := Lib.hid (tkE_of (HF.out hf))
        have hne : ((sb (nb (num ys))).toList == (sb ys).toList) = false := by
          rw [sb_beq (nb_bl _) HBT.out]
          exact decide_eq_false fun e => hf (by rw [HNB.out.1 e, HLT.out])
        clear hf
        go_wp2
        go_region_with (go_at_call 11; refine (number_any _ _ HN.out).mono ?_; rintro e w1 ⟨A1, n1, c1, rfl, hO1, hb1⟩; have hcv1 := run_str (P := Try.prog) w1 22 9 5 Try.underlying22 Try.underlying5 Try.underlying9 hO1.rk; have hT1 := hTd.below hb1)
        all_goals (go_wp2; go_ret3; exact ⟨HE.out, (Below.refl _ _).drew.trans hb1⟩)
    · have hcx := HC.out (j - 1) (by omega)
      have hx := Bl_el hB (by omega) (j - 1)
      have hmm : m < 72057594037927936 := by rw [← HM.out]; exact lev_drop_lt HBT.out HLT.out (by omega)
      have hji : (1 : Int) ≤ (j : Int) - 1 := by omega
      have hjn : (j : Int) - 1 < (n : Int) := by omega
      have hnat : ((j : Int) - 1).toNat = j - 1 := by omega
      go_wp2
      go_round
      case rel => exact ⟨j - 1, el xs (j - 1) + 256 * m, by omega, by omega, by go_num, by rw [or_up _ _ hmm hx], Lib.hid (by
        have := lev_drop ys (j - 1) (by rw [HLT.out]; omega)
        rw [this, show j - 1 + 1 = j by omega, HM.out, HEL.out _ (by omega)])⟩
      case measure => simp [intOf]; omega
set_option maxHeartbeats 1600000 in
/-- The reference's Take, the forms of one, two and four bytes. -/
theorem rtake_few (b o n c : Nat) (xs : List Nat) (w : World) (h : Rk .u8 w (some ⟨b, o, none⟩) n c xs) (hB : Bl 256 xs) (h0 : 0 < n) (h9 : st (el xs 0) ≤ 9) (hs : st (el xs 0) ≤ n) (h3 : el xs 0 % 4 ≠ 3) :
    Calls Try.prog 14 #[.slice (some ⟨b, o, none⟩) n c] w (TkP w xs) := by
  have HL := Lib.hid h.len
  have hcap := h.cap
  have hmax := h.max
  have h00 : ((n : Int) == 0) = false := by simp; omega
  obtain ⟨b', o', hbo, hb, hc⟩ := h.at_ h0
  injection hbo with hbo
  injection hbo with e1 e2 _
  subst e1 e2
  have HC := Lib.hid hc
  have hcell := hc 0 h0
  rw [Nat.add_zero] at hcell
  clear hc
  have he := Bl_el hB (by omega) 0
  have ha := and3 (el xs 0) he
  have hand : (((el xs 0 % 4 : Nat) : Int) == 3) = false := by simp; omega
  have h8 := st_eight h3
  have hst := st_ge (el xs 0)
  have h9' : ¬ (9 : Int) < ((st (el xs 0) : Nat) : Int) := by omega
  have hs' : ¬ (n : Int) < ((st (el xs 0) : Nat) : Int) := by omega
  have hT := h.take (i := st (el xs 0)) hs
  have HLT := Lib.hid hT.len
  have HBT := Lib.hid (Bl_take hB (st (el xs 0)))
  have HEL := Lib.hid (fun j (hj : j < st (el xs 0)) => el_take xs (st (el xs 0)) j hj)
  have HNB := Lib.hid (nb_num HBT.out (by rw [HLT.out, HEL.out 0 (by omega)]) (by rw [HEL.out 0 (by omega)]; exact h9))
  have HNUM := Lib.hid (show num (xs.take (st (el xs 0))) = lev (xs.take (st (el xs 0))) / 4 by unfold num; rw [HEL.out 0 (by omega), if_neg h3])
  have HN := Lib.hid (num_st hB h9)
  have HY := Lib.hid (tk_yes xs (by rw [HL.out]; omega) h9 (by rw [HL.out]; exact hs))
  have HF := Lib.hid (tk_form xs (by rw [HL.out]; omega) h9 (by rw [HL.out]; exact hs))
  clear h3
  generalize el xs 0 % 4 = r4 at *
  generalize hk : st (el xs 0) = k at *
  generalize hys : xs.take k = ys at *
  have HK := Lib.hid hk
  have HYS := Lib.hid hys
  clear hk hys
  go_enter Try.func14, Try.ntmps14
  go_wp2_with fail
  refine (rsize_any _ _ he).mono ?_
  rw [HK.out]
  rintro e w' ⟨rfl, rfl⟩
  go_wp2
  go_loop [6, 8] (fun a t => ∃ j m : Nat, 0 ≤ j ∧ j ≤ k ∧ t = .int .i64 ((j : Int) - 1) ∧ a = .int .u64 (m : Int) ∧ Hid (lev (ys.drop j) = m)) (fun _ t => (intOf t + 1).toNat)
  case atStart => exact ⟨k, 0, by omega, by omega, rfl, rfl, Lib.hid (by rw [List.drop_of_length_le (by rw [HLT.out]; exact Nat.le_refl _)]; rfl)⟩
  case round =>
    obtain ⟨j, m, hj1, hjk, rfl, rfl, HM⟩ := hrel
    by_cases hj : j = 0
    · subst hj
      have hm : num ys = m / 4 := by rw [HNUM.out, ← HM.out, List.drop_zero]
      have hmi : (m : Int) / 4 = ((num ys : Nat) : Int) := by omega
      have hml : m < 18446744073709551616 := by
        rw [← HM.out, List.drop_zero]
        have h1 := lev_lt HBT.out
        rw [HLT.out, pb_two] at h1
        have h2 := Nat.pow_le_pow_right (show 0 < 2 by omega) (show 8 * k ≤ 64 by omega)
        omega
      clear hm
      have hcv := fun W (hW : Rk .u8 W (some ⟨b, o, none⟩) k c ys) => run_str (P := Try.prog) W 22 9 5 Try.underlying22 Try.underlying5 Try.underlying9 hW
      have hTd : Rk .u8 w.drew (some ⟨b, o, none⟩) k c ys := hT
      by_cases hf : sz (num ys) = k
      · have HE := Lib.hid (tkE_of (HY.out hf))
        have HQ := Lib.hid (HNB.out.2 (by rw [HLT.out]; exact hf))
        clear hf
        go_wp2
        go_region_with (go_at_call 11; refine (number_any _ _ HN.out).mono ?_; rw [HQ.out]; rintro e w1 ⟨A1, n1, c1, rfl, hO1, hb1⟩; have hcv1 := run_str (P := Try.prog) w1 22 9 5 Try.underlying22 Try.underlying5 Try.underlying9 hO1.rk; have hT1 := hTd.below hb1)
        all_goals (go_wp2; go_ret3; exact ⟨HE.out, (Below.refl _ _).drew.trans hb1⟩)
      · have HE := Lib.hid (tkE_of (HF.out hf))
        have hne : ((sb (nb (num ys))).toList == (sb ys).toList) = false := by
          rw [sb_beq (nb_bl _) HBT.out]
          exact decide_eq_false fun e => hf (by rw [HNB.out.1 e, HLT.out])
        clear hf
        go_wp2
        go_region_with (go_at_call 11; refine (number_any _ _ HN.out).mono ?_; rintro e w1 ⟨A1, n1, c1, rfl, hO1, hb1⟩; have hcv1 := run_str (P := Try.prog) w1 22 9 5 Try.underlying22 Try.underlying5 Try.underlying9 hO1.rk; have hT1 := hTd.below hb1)
        all_goals (go_wp2; go_ret3; exact ⟨HE.out, (Below.refl _ _).drew.trans hb1⟩)
    · have hcx := HC.out (j - 1) (by omega)
      have hx := Bl_el hB (by omega) (j - 1)
      have hmm : m < 72057594037927936 := by rw [← HM.out]; exact lev_drop_lt HBT.out HLT.out (by omega)
      have hji : (0 : Int) ≤ (j : Int) - 1 := by omega
      have hjn : (j : Int) - 1 < (n : Int) := by omega
      have hnat : ((j : Int) - 1).toNat = j - 1 := by omega
      go_wp2
      go_round
      case rel => exact ⟨j - 1, el xs (j - 1) + 256 * m, by omega, by omega, by go_num, by rw [or_up _ _ hmm hx], Lib.hid (by
        have := lev_drop ys (j - 1) (by rw [HLT.out]; omega)
        rw [this, show j - 1 + 1 = j by omega, HM.out, HEL.out _ (by omega)])⟩
      case measure => simp [intOf]; omega
/-- The reference's Take. -/
theorem rtake_any (A : Option Addr) (n c : Nat) (xs : List Nat) (w : World) (h : Rk .u8 w A n c xs) (hB : Bl 256 xs) :
    Calls Try.prog 14 #[.slice A n c] w (TkP w xs) := by
  by_cases h0 : n = 0
  · subst h0
    have HL := h.len
    have HE := Lib.hid (tkE_of (tk_nil xs HL))
    clear HL
    go_enter Try.func14, Try.ntmps14
    go_wp2
    go_ret3
    exact ⟨HE.out, Below.refl _ _⟩
  · have HL := Lib.hid h.len
    have hcap := h.cap
    have hmax := h.max
    have hp : 0 < n := by omega
    have h00 : ((n : Int) == 0) = false := by simp; omega
    obtain ⟨b, o, rfl, hb, hc⟩ := h.at_ hp
    have hcell := hc 0 hp
    rw [Nat.add_zero] at hcell
    clear hc
    have he := Bl_el hB (by omega) 0
    by_cases h9 : 9 < st (el xs 0)
    · have HE := Lib.hid (tkE_of (tk_big xs (by rw [HL.out]; exact h0) h9))
      have h9' : (9 : Int) < ((st (el xs 0) : Nat) : Int) := by omega
      go_enter Try.func14, Try.ntmps14
      go_wp2_with fail
      refine (rsize_any _ _ he).mono ?_
      rintro e w' ⟨rfl, rfl⟩
      go_wp2
      go_ret3
      exact ⟨HE.out, Below.refl _ _⟩
    · by_cases hs : n < st (el xs 0)
      · have HE := Lib.hid (tkE_of (tk_short xs (by rw [HL.out]; exact h0) (by omega) (by rw [HL.out]; exact hs)))
        have h9' : ¬ (9 : Int) < ((st (el xs 0) : Nat) : Int) := by omega
        have hs' : (n : Int) < ((st (el xs 0) : Nat) : Int) := by omega
        go_enter Try.func14, Try.ntmps14
        go_wp2_with fail
        refine (rsize_any _ _ he).mono ?_
        rintro e w' ⟨rfl, rfl⟩
        go_wp2
        go_ret3
        exact ⟨HE.out, Below.refl _ _⟩
      · by_cases h3 : el xs 0 % 4 = 3
        · exact rtake_many b o n c xs w h hB hp (by omega) (by omega) h3
        · exact rtake_few b o n c xs w h hB hp (by omega) (by omega) h3
end Go.Proofs.Ytdhgdphjamcfcaa
