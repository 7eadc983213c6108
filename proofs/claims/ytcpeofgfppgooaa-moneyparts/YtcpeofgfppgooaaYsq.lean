/-
  What the reference's Square answers: the two halves of the square. For all numbers below 2^64.
-/
import Derived.Test.YtcpeofgfppgooaaYpart
namespace Go.Proofs.Ytcpeofgfppgooaa
open Go.RowKit

theorem val_four {xs : List Nat} (h : xs.length ≤ 4) : val xs = el xs 0 + 4294967296 * el xs 1 + 18446744073709551616 * el xs 2 + 79228162514264337593543950336 * el xs 3 := by
  have h0 := val_take_step xs 0
  have h1 := val_take_step xs 1
  have h2 := val_take_step xs 2
  have h3 := val_take_step xs 3
  rw [val_take_ge xs 4 h] at h3
  simp [pw, val] at h0 h1 h2 h3
  omega
/-- The array's block: the first k limbs are in it. -/
def SqRel (w3 : World) (n : Nat) (xs : List Nat) (tv : Value) (wr : World) : Prop :=
  ∃ (k : Nat) (rs : List Nat), k ≤ n ∧ tv = .int .i64 (k : Int) ∧ Bkk .u64 49 wr w3.heap.size rs ∧ rs.length = 4 ∧ (∀ j, j < 4 → el rs j = if j < k then el xs j else 0) ∧ Below w3.heap.size w3 wr
set_option maxHeartbeats 1000000 in
theorem xsq_any (a : Nat) (w : World) (ha : a < 18446744073709551616) :
    Calls Try.prog 16 #[.int .u64 a] w fun e w' => e = .returned (.tuple #[.int .u64 ((a * a / 18446744073709551616 : Nat) : Int), .int .u64 ((a * a % 18446744073709551616 : Nat) : Int)]) ∧ Below w.heap.size w w' := by
  have HM := Lib.hid (len_four ha ha)
  have FA := Lib.hid (fm_small (len_two ha) (by omega))
  go_enter Try.func16, Try.ntmps16
  go_wp2_with fail
  refine (rof_any a w ha).mono ?_
  rintro e w1 ⟨A1, n1, c1, rfl, hN1, b1⟩
  go_wp2_with fail
  refine (rof_any a w1 ha).mono ?_
  rintro e w2 ⟨A2, n2, c2, rfl, hN2, b2⟩
  replace hN1 := hN1.below b2
  replace b1 := b1.trans (b2.mono b1.size)
  clear b2
  go_wp2_with fail
  refine (rMul_yes _ _ _ _ _ _ _ _ w2 hN1.1 hN2.1 FA.out FA.out (by rw [val_digs]; exact Nat.le_trans HM.out (by omega))).mono ?_
  rw [val_digs]
  rintro e w3 ⟨A3, n3, c3, rfl, hN3, b3⟩
  replace b1 := b1.trans (b3.mono b1.size)
  clear b3 hN1 hN2
  obtain ⟨xs, hxs⟩ : ∃ xs, digs (a * a) = xs := ⟨_, rfl⟩
  rw [hxs] at hN3
  have HL := Lib.hid (show xs.length ≤ 4 by rw [← hxs]; exact HM.out)
  have HV := Lib.hid (show val xs = a * a by rw [← hxs, val_digs])
  have hLm := hN3.1.lim
  have hR3 := hN3.1
  have hn3 : n3 ≤ 4 := by rw [← hR3.len]; exact HL.out
  clear hxs HM FA hN3
  go_wp2
  go_loopw [18] (fun tv wr => SqRel w3 n3 xs tv wr) (fun tv _ => n3 - (intOf tv).toNat)
  case atStart => exact ⟨0, [0, 0, 0, 0], by omega, rfl, Bkk.new .u64 49 w3 [0, 0, 0, 0], rfl, fun j hj => by rw [if_neg (by omega)]; match j, hj with | 0, _ => rfl | 1, _ => rfl | 2, _ => rfl | 3, _ => rfl, (Below.refl _ _).alloc (Nat.le_refl _) _⟩
  case round =>
    obtain ⟨k, rs, hk, rfl, hB, hl4, hel, hb⟩ := hrel
    have HE := Lib.hid hel
    have H4 := Lib.hid hl4
    by_cases hlt : k < n3
    · obtain ⟨b, o, rfl, hbb, hcA⟩ := hR3.at_ (by omega)
      have hcx := (hb.cell (p := ⟨b, o + k, none⟩) hbb).trans (hcA k hlt)
      have hx := el_lt hLm k
      have hf := hB.frozen k
      have hc0 := hB.cell (i := k) (by omega)
      clear hcA hel hl4
      go_wp2
      go_roundw
      case rel =>
        refine ⟨k + 1, rs.set k (el xs k), by omega, by go_num, hB.set_ k (el xs k), by rw [List.length_set]; exact H4.out, fun j hj => ?_, hb.setCell (Nat.le_refl _) _⟩
        by_cases hjk : j = k
        · subst hjk; rw [el_set_same _ _ _ (by rw [H4.out]; exact hj), if_pos (by omega)]
        · rw [el_set_other _ _ _ _ (by omega), HE.out j hj]
          by_cases hj2 : j < k
          · rw [if_pos hj2, if_pos (by omega)]
          · rw [if_neg hj2, if_neg (by omega)]
      case measure => simp [intOf]; omega
    · obtain rfl : k = n3 := by omega
      have e : ∀ j, j < 4 → el rs j = el xs j := fun j hj => by
        rw [hel j hj]
        by_cases hjk : j < k
        · rw [if_pos hjk]
        · rw [if_neg hjk, el_ge xs j (by have := hR3.len; omega)]
      have c0 := hB.cell (i := 0) (by omega)
      have c1 := hB.cell (i := 1) (by omega)
      have c2 := hB.cell (i := 2) (by omega)
      have c3 := hB.cell (i := 3) (by omega)
      rw [e _ (by omega)] at c0 c1 c2 c3
      have l0 := el_lt hLm 0
      have l1 := el_lt hLm 1
      have l2 := el_lt hLm 2
      have l3 := el_lt hLm 3
      have HV4 := Lib.hid (val_four HL.out)
      have HB := Lib.hid hb
      clear hel hl4 HE H4 hb hB e
      generalize el xs 0 = x0 at *
      generalize el xs 1 = x1 at *
      generalize el xs 2 = x2 at *
      generalize el xs 3 = x3 at *
      have o1 := or_lo x2 x3 l2 l3
      have o2 := or_lo x0 x1 l0 l1
      have HD := Lib.hid (show a * a / 18446744073709551616 = x2 + 4294967296 * x3 ∧ a * a % 18446744073709551616 = x0 + 4294967296 * x1 by rw [← HV.out, HV4.out]; omega)
      go_wp2
      go_quiet (fail)
      go_wp2
      go_ret2
      exact ⟨by rw [HD.out.1, HD.out.2]; rfl, below_drewN' (b1.trans (HB.out.mono b1.size)) _⟩
end Go.Proofs.Ytcpeofgfppgooaa
