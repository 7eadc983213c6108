/-
  What the reference's OfMarks does. The conditions stand in each theorem.
-/
import Derived.Test.YtgdmmcjhbpklhaaMref2
namespace Go.Proofs.Ytgdmmcjhbpklhaa
open Go.RowKit
set_option linter.unusedVariables false

theorem rof_arg (x : Int) (bv : Value) (w : World) (hx : x < 0 ∨ 4096 < x) :
    Calls Try.prog 17 #[.int .i64 x, bv] w fun e w' => e = .returned (.tuple #[.pointer none, .int .i64 1]) ∧ w = w' := by
  rcases hx with h | h
  · go_enter Try.func17, Try.ntmps17
    go_wp2
    go_ret2
    exact ⟨rfl, rfl⟩
  · have h0 : decide (x < 0) = false := by simp; omega
    go_enter Try.func17, Try.ntmps17
    go_wp2
    go_ret2
    exact ⟨rfl, rfl⟩
theorem shr_and (x k : Nat) (hx : x < 256) : (bits .and .u8 ((x : Int) / 2 ^ k) 1 == 1) = x.testBit k := by
  have e : (x : Int) / 2 ^ k = ((x / 2 ^ k : Nat) : Int) := by rw [two_cast]; exact (Int.natCast_ediv x (2 ^ k)).symm
  have hd : x / 2 ^ k < 256 := Nat.lt_of_le_of_lt (Nat.div_le_self _ _) hx
  have h1 := u8_and_nat (x / 2 ^ k) 1 hd (by omega)
  rw [e]
  rw [show ((1 : Nat) : Int) = 1 from rfl] at h1
  rw [h1, Nat.and_one_is_mod, shr_bit]
  cases x.testBit k <;> rfl
def RofRel (w : World) (size n : Nat) (bs : List Nat) (tv : Value) (wr : World) : Prop :=
  ∃ k : Nat, k ≤ 8 * n ∧ tv = .int .i64 k ∧ Rm wr w.heap.size (w.heap.size + 1) size (low k (low size (fb bs))) ∧ Below w.heap.size w wr
/-- The ending of OfMarks. -/
def RofTo (w : World) (size : Nat) (bs : List Nat) (e : Ending) (w' : World) : Prop :=
  Below w.heap.size w w' ∧ ((fits size bs ∧ ∃ q, e = .returned (.tuple #[.pointer (some ⟨q, 0, none⟩), .int .i64 0]) ∧ Rm w' w.heap.size q size (fb bs)) ∨
    (¬ fits size bs ∧ e = .returned (.tuple #[.pointer none, .int .i64 2])))
set_option maxHeartbeats 1600000 in
theorem rof_any (size n c : Nat) (A : Option Addr) (bs : List Nat) (w : World) (h : Rk .u8 w A n c bs) (hB : Bl 256 bs) (hs : size ≤ 4096) (hn : n ≤ 1000) :
    Calls Try.prog 17 #[.int .i64 size, .slice A n c] w (RofTo w size bs) := by
  have h0 : decide ((size : Int) < 0) = false := by simp
  have h1 : decide ((4096 : Int) < (size : Int)) = false := by simp; omega
  have HN := Lib.hid (rnewm_of (size : Int) size w hs (by omega))
  have HLN := Lib.hid h.len
  go_enter Try.func17, Try.ntmps17
  go_wp2_with fail
  refine HN.out.mono ?_
  rintro e w1 ⟨rfl, hM, hb1⟩
  clear HN
  go_wp2
  go_loopw [19] (fun tv wr => RofRel w size n bs tv wr) (fun tv _ => 8 * n - (intOf tv).toNat)
  case atStart => exact ⟨0, Nat.zero_le _, rfl, by rw [low_zero]; exact hM, hb1⟩
  case round =>
    clear hM hb1
    obtain ⟨k, hle, rfl, hM, hb⟩ := hrel
    by_cases hlt : k < 8 * n
    · have hr := h.below hb
      obtain ⟨b, o, rfl, hbb, hc⟩ := hr.at_ (by omega)
      have hcell := hc (k / 8) (by omega)
      have hx := Bl_el hB (by omega) (k / 8)
      have hlt' : (k : Int) < 8 * (n : Int) := by omega
      have hw8 : (k : Int) / 8 < (n : Int) := by omega
      have h08 : (0 : Int) ≤ (k : Int) / 8 := by omega
      have ht8 : ((k : Int) / 8).toNat = k / 8 := by omega
      clear hc hr
      by_cases hks : k < size
      · have hks' : (k : Int) < (size : Int) := by omega
        have ht := shr_and (el bs (k / 8)) (k % 8) hx
        have hf : low size (fb bs) k = (el bs (k / 8)).testBit (k % 8) := low_lt _ hks
        obtain ⟨h21, h22, h23, m, h24, hkk, hm⟩ := hM
        have c1 := hkk.cell 1
        simp at c1
        cases hbit : (el bs (k / 8)).testBit (k % 8) with
        | true =>
          rw [hbit] at ht hf
          have HL := Lib.hid (low_yes hf)
          have HC := Lib.hid (cnt_put (f := low k (low size (fb bs))) (i := k) (n := 8 * wid size) (by unfold wid; omega) (low_ge _ (Nat.le_refl _)))
          have hcn := cnt_le (low k (low size (fb bs))) (8 * wid size)
          have hwd : wid size ≤ 512 := by unfold wid; omega
          have HF := Lib.hid (show fi (low k (low size (fb bs))) (k : Int) = false by rw [fi_nat]; exact low_ge _ (Nat.le_refl _))
          have HK := Lib.hid hkk
          have H2 := Lib.hid h22
          have hwf : (Lit.int .i64 (k : Int)).wf = true := WalkArith.wf_i64 (by omega)
          have hsz := hb.size
          clear hbit hf hkk h22
          go_wp2_with (at_mapUpdate; refine wpList_boStore rfl _ _ _ 31 rfl hm Try.underlying3 Try.underlying31 (by unfold maxLen; omega) hwf HF.out rfl rfl rfl ?_; intro w2 hm2 hg2)
          have ht2 : Turns (TMp w.heap.size wr) wr w2 := Turns.grown hg2 fun r e => by
            injection e with e
            subst e
            exact ⟨h24, hm.isMap⟩
          go_wp2
          go_roundw
          case rel =>
            refine ⟨k + 1, by omega, by go_num, ?_, hb.trans (ht2.below hsz fun b hb => hb.1)⟩
            rw [HL.out]
            refine ⟨hs, fun j hj => ?_, h23, m, h24, HK.out.turns ht2 ?_, ?_⟩
            · unfold put; rw [if_neg (by omega)]; exact H2.out j hj
            · rintro ⟨_, es, c, e⟩
              have hk := HK.out
              unfold KB at hk
              rw [e] at hk
              cases hk
            · rw [HC.out]; exact hm2.congr (fi_put _ k)
          case measure => simp [intOf]; omega
        | false =>
          rw [hbit] at ht hf
          have HL := Lib.hid (low_no hf)
          have HM := Lib.hid (show Rm wr w.heap.size (w.heap.size + 1) size (low k (low size (fb bs))) from ⟨h21, h22, h23, m, h24, hkk, hm⟩)
          clear hbit hf hkk hm h22
          go_wp2
          go_roundw
          case rel => exact ⟨k + 1, by omega, by go_num, by rw [HL.out]; exact HM.out, hb⟩
          case measure => simp [intOf]; omega
      · have hks' : decide ((k : Int) < (size : Int)) = false := by simp; omega
        have HL := Lib.hid (low_no (k := k) (low_ge (fb bs) (show size ≤ k by omega)))
        go_wp2
        go_roundw
        case rel => exact ⟨k + 1, by omega, by go_num, by rw [HL.out]; exact hM, hb⟩
        case measure => simp [intOf]; omega
    · obtain rfl : k = 8 * n := by omega
      have e1 : low (8 * n) (low size (fb bs)) = low size (fb bs) := low_all fun i hi => by
        unfold low
        rw [fb_ge (by rw [HLN.out]; exact hi), Bool.and_false]
      rw [e1] at hM
      have HBY := Lib.hid (rbytes_any _ _ _ _ wr.drew (hM.drewN 1))
      have hcv := fun W (hW : Rk .u8 W A n c bs) => run_str (P := Try.prog) W 36 9 5 Try.underlying36 Try.underlying5 Try.underlying9 hW
      have hTd : Rk .u8 wr.drew A n c bs := Rk.drewN (h.below hb) 1
      have HB := Lib.hid (show Below w.heap.size w wr.drew from ⟨hb.os, hb.tape, hb.output, hb.size, hb.block⟩)
      have HM := Lib.hid hM
      have hsz := hb.size
      clear hM hb
      by_cases hf : fits size bs
      · have e2 : mbs (low size (fb bs)) (wid size) = bs := (low_fits hB).2 hf
        have e3 : low size (fb bs) = fb bs := funext fun i => (fits_low hB hf i).symm
        have HF := Lib.hid hf
        have HE := Lib.hid e3
        rw [e2] at HBY
        clear e1 e2 e3 hf
        go_wp2
        go_region_with (go_at_call 13; refine HBY.out.mono ?_; rintro e w1 ⟨A1, n1, c1, rfl, hO1, hb1⟩; have hcv1 := run_str (P := Try.prog) w1 36 9 5 Try.underlying36 Try.underlying5 Try.underlying9 hO1.rk; have hT1 := hTd.below hb1)
        all_goals
          go_wp2
          go_ret2
          exact ⟨HB.out.trans (hb1.mono hsz), .inl ⟨HF.out, _, rfl, HE.out ▸ (HM.out.drewN 1).keep hb1⟩⟩
      · have hne : ((sb (mbs (low size (fb bs)) (wid size))).toList == (sb bs).toList) = false := by
          rw [sb_beq (mbs_bl _ _) hB]
          exact decide_eq_false fun e => hf ((low_fits hB).1 e)
        have HF := Lib.hid hf
        clear e1 hf
        go_wp2
        go_region_with (go_at_call 13; refine HBY.out.mono ?_; rintro e w1 ⟨A1, n1, c1, rfl, hO1, hb1⟩; have hcv1 := run_str (P := Try.prog) w1 36 9 5 Try.underlying36 Try.underlying5 Try.underlying9 hO1.rk; have hT1 := hTd.below hb1)
        all_goals
          go_wp2
          go_ret2
          exact ⟨HB.out.trans (hb1.mono hsz), .inr ⟨HF.out, rfl⟩⟩
end Go.Proofs.Ytgdmmcjhbpklhaa
