/-
  What the reference's Bytes and OfMarks do. The conditions stand in each theorem.
-/
import Derived.Test.YtgdmmcjhbpklhaaMref
namespace Go.Proofs.Ytgdmmcjhbpklhaa
open Go.RowKit
set_option linter.unusedVariables false

theorem low_yes {f : Nat → Bool} {k : Nat} (h : f k = true) : low (k + 1) f = put (low k f) k := by
  funext i
  unfold put
  by_cases e : i = k
  · subst e; rw [if_pos rfl]; unfold low; simp [h]
  · rw [if_neg e]
    unfold low
    rcases Nat.lt_or_ge i k with h' | h'
    · rw [decide_eq_true (show i < k + 1 by omega), decide_eq_true h']
    · rw [decide_eq_false (show ¬ i < k + 1 by omega), decide_eq_false (show ¬ i < k by omega)]
theorem low_no {f : Nat → Bool} {k : Nat} (h : f k = false) : low (k + 1) f = low k f := by
  funext i
  unfold low
  by_cases e : i = k
  · subst e; simp [h]
  · rcases Nat.lt_or_ge i k with h' | h'
    · rw [decide_eq_true (show i < k + 1 by omega), decide_eq_true h']
    · rw [decide_eq_false (show ¬ i < k + 1 by omega), decide_eq_false (show ¬ i < k by omega)]
theorem low_all {f : Nat → Bool} {k : Nat} (h : ∀ i, k ≤ i → f i = false) : low k f = f := by
  funext i
  rcases Nat.lt_or_ge i k with h' | h'
  · exact low_lt f h'
  · rw [low_ge f h', h i h']
theorem low_zero (f : Nat → Bool) : low 0 f = fun _ => false := by funext i; exact low_ge f (by omega)
/-- Between two rounds of Bytes. -/
def RbRel (w : World) (size : Nat) (f : Nat → Bool) (tv : Value) (wr : World) : Prop :=
  ∃ k : Nat, k ≤ size ∧ tv = .int .i64 k ∧ Bkk .u8 5 wr w.heap.size (mbs (low k f) (wid size)) ∧ Below w.heap.size w wr
set_option maxHeartbeats 1600000 in
theorem rbytes_any (base q size : Nat) (f : Nat → Bool) (w : World) (h : Rm w base q size f) :
    Calls Try.prog 13 #[.pointer (some ⟨q, 0, none⟩)] w (OutM w (mbs f (wid size))) := by
  obtain ⟨hs, h2, h3, m, h4, hk, hm⟩ := h
  have HF := Lib.hid (low_all h2)
  have hwd : wid size ≤ 512 := by unfold wid; omega
  have hmk : ∀ W : World, _ := mmkB (wid size) (by omega)
  have HE := Lib.hid (show ((size : Int) + 7) / 8 = (wid size : Nat) by unfold wid; omega)
  have c0 := hk.cell 0
  have d0 := (hk.alloc (.cells (litsK .u8 (zeros (wid size))).toArray 5)).cell 0
  simp at c0 d0
  rw [← HE.out] at hmk
  clear h2
  go_enter Try.func13, Try.ntmps13
  go_wp2
  go_loopw [16] (fun tv wr => RbRel w size f tv wr) (fun tv _ => size - (intOf tv).toNat)
  case atStart => exact ⟨0, Nat.zero_le _, rfl, by rw [low_zero, mbs_none]; exact Bkk.new _ _ _ _, (Below.refl _ _).alloc (Nat.le_refl _) _⟩
  case round =>
    clear hmk
    obtain ⟨k, hle, rfl, hB, hb⟩ := hrel
    by_cases hlt : k < size
    · have hk2 := hk.below hb hk.lt
      have c1 := hk2.cell 1
      have hl := (hm.keep (hb.block m hm.lt)).look (t := 31) (x := (k : Int)) Try.underlying3 Try.underlying31 (Try.zeroValue4 wr) (WalkArith.wf_i64 (by omega))
      rw [fi_nat] at hl
      simp at c1
      have hlt' : (k : Int) < (size : Int) := by omega
      have hl8 : k / 8 < wid size := by unfold wid; omega
      have hB' := hB.cell (i := k / 8) (by rw [mbs_len]; exact hl8)
      have hz := hB.frozen (k / 8)
      rw [mbs_el _ _ _ hl8] at hB'
      have hw8 : (k : Int) / 8 < (wid size : Nat) := by omega
      have h08 : (0 : Int) ≤ (k : Int) / 8 := by omega
      have ht8 : ((k : Int) / 8).toNat = k / 8 := by omega
      have HK := Lib.hid hk
      have HM := Lib.hid hm
      clear hk hm c0 d0 hk2
      cases hfk : f k with
      | true =>
        rw [hfk] at hl
        have HS := Lib.hid (hB.set_ (k / 8) (mb (low k f) (k / 8) ||| 2 ^ (k % 8)))
        have HL := Lib.hid (low_yes hfk)
        have HP := Lib.hid (mbs_put (low k f) k (wid size) hl8)
        have HO := Lib.hid (or_u8 (mb (low k f) (k / 8)) (k % 8) (mb_lt _ _) (Nat.mod_lt _ (by omega)))
        clear hfk hB
        go_wp2
        go_roundw
        case rel => exact ⟨k + 1, by omega, by go_num, by rw [HL.out, HP.out]; rw [show (2 : Int) ^ (k % 8) % 256 = 2 ^ (k % 8) by have := two_lt (show k % 8 < 8 from Nat.mod_lt _ (by omega)); rw [two_cast]; generalize 2 ^ (k % 8) = z at this; omega, HO.out]; exact HS.out, hb.setCell (Nat.le_refl _) _⟩
        case measure => simp [intOf]; omega
      | false =>
        rw [hfk] at hl
        have HL := Lib.hid (low_no hfk)
        clear hfk
        go_wp2
        go_roundw
        case rel => exact ⟨k + 1, by omega, by go_num, by rw [HL.out]; exact hB, hb⟩
        case measure => simp [intOf]; omega
    · obtain rfl : k = size := by omega
      have HO := Lib.hid (show Owk .u8 5 wr w.heap.size (some ⟨w.heap.size, 0, none⟩) (wid k) (wid k) (mbs f (wid k)) by
        have := hB.own (n := wid k) (c := wid k) (mbs_len _ _) (by omega) (Nat.le_refl _) (base := w.heap.size) (Nat.le_refl _)
        rwa [List.take_of_length_le (by rw [mbs_len]; exact Nat.le_refl _), HF.out] at this)
      clear hk hm c0 d0 hB
      go_wp2
      go_ret
      exact ⟨_, _, _, rfl, HO.out, hb⟩
end Go.Proofs.Ytgdmmcjhbpklhaa
