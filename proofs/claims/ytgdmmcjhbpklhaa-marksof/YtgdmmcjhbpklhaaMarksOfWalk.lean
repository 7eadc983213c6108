/-
  The walk of the law MarksOf: it returns true, whatever the size and the bytes, and writes nothing that was there.
-/
import Derived.Test.YtgdmmcjhbpklhaaMref3
import Derived.Test.YtgdmmcjhbpklhaaBrow
namespace Go.Proofs.Ytgdmmcjhbpklhaa
open Go.RowKit
set_option linter.unusedVariables false
set_option maxHeartbeats 1600000 in
theorem mof_long (A : Option Addr) (n c : Nat) (x : Int) (w : World) (hn : 1000 < n) (hm : n ≤ 9223372036854775807) :
    Calls Try.prog 4 #[.int .i64 x, .slice A n c] w fun e w' => e = .returned (.bool true) ∧ Below w.heap.size w w' := by
  have hn' : (1000 : Int) < (n : Int) := by omega
  go_enter Try.func4, Try.ntmps4
  go_wp2_with fail
  refine (awakem_any _).mono ?_
  rintro e w1 ⟨rfl, hb1⟩
  go_wp2_with fail
  refine (awakem_any _).mono ?_
  rintro e w2 ⟨rfl, hb2⟩
  go_wp2
  go_ret
  exact ⟨rfl, hb1.trans (hb2.mono hb1.size)⟩
set_option maxHeartbeats 1600000 in
theorem mof_bad (A : Option Addr) (n c : Nat) (x : Int) (w : World) (hn : n ≤ 1000) (hx : x < 0 ∨ 4096 < x) :
    Calls Try.prog 4 #[.int .i64 x, .slice A n c] w fun e w' => e = .returned (.bool true) ∧ Below w.heap.size w w' := by
  have hn' : decide ((1000 : Int) < (n : Int)) = false := by simp; omega
  go_enter Try.func4, Try.ntmps4
  go_wp2_with fail
  refine (awakem_any _).mono ?_
  rintro e w1 ⟨rfl, hb1⟩
  go_wp2_with fail
  refine (mof_arg x _ w1 hx).mono ?_
  rintro e w' ⟨rfl, rfl⟩
  go_wp2_with fail
  refine (rof_arg x _ w1 hx).mono ?_
  rintro e w' ⟨rfl, rfl⟩
  go_wp2
  go_ret
  exact ⟨rfl, hb1⟩
set_option maxHeartbeats 1600000 in
theorem mof_unfit (A : Option Addr) (n c size : Nat) (bs : List Nat) (w : World) (h : Rk .u8 w A n c bs) (hB : Bl 256 bs) (hn : n ≤ 1000) (hs : size ≤ 4096) (hf : ¬ fits size bs) :
    Calls Try.prog 4 #[.int .i64 size, .slice A n c] w fun e w' => e = .returned (.bool true) ∧ Below w.heap.size w w' := by
  have hn' : decide ((1000 : Int) < (n : Int)) = false := by simp; omega
  have HF := Lib.hid hf
  clear hf
  go_enter Try.func4, Try.ntmps4
  go_wp2_with fail
  refine (awakem_any _).mono ?_
  rintro e w1 ⟨rfl, hb1⟩
  have h1 := h.below hb1
  go_wp2_with fail
  refine (mof_form size n c A bs w1 h1 hB hs (by omega) HF.out).mono ?_
  rintro e w' ⟨rfl, q, rfl⟩
  go_wp2_with fail
  refine (rof_any size n c A bs (w1.drewN q) (h1.drewN q) hB hs hn).mono ?_
  rintro e w2 ⟨hb2, ⟨hy, _⟩ | ⟨_, rfl⟩⟩
  · exact absurd hy HF.out
  · go_wp2
    go_ret
    exact ⟨rfl, hb1.trans (Below.mono (show Below w1.heap.size w1 w2 from ⟨hb2.os, hb2.tape, hb2.output, hb2.size, hb2.block⟩) hb1.size)⟩
set_option maxHeartbeats 3200000 in
theorem mof_fit (A : Option Addr) (n c size : Nat) (bs : List Nat) (w : World) (h : Rk .u8 w A n c bs) (hB : Bl 256 bs) (hn : n ≤ 1000) (hs : size ≤ 4096) (hf : fits size bs) :
    Calls Try.prog 4 #[.int .i64 size, .slice A n c] w fun e w' => e = .returned (.bool true) ∧ Below w.heap.size w w' := by
  have hn' : decide ((1000 : Int) < (n : Int)) = false := by simp; omega
  have HF := Lib.hid hf
  have HE := Lib.hid (show mbs (fb bs) (wid size) = bs by rw [← hf.1]; exact mbs_fb hB)
  clear hf
  go_enter Try.func4, Try.ntmps4
  go_wp2_with fail
  refine (awakem_any _).mono ?_
  rintro e w1 ⟨rfl, hb1⟩
  have h1 := h.below hb1
  go_wp2_with fail
  refine (mof_yes size n c A bs w1 h1 hB hs HF.out).mono ?_
  rintro e w2 ⟨p, rfl, hM, hb2⟩
  have h2 := h1.below hb2
  go_wp2_with fail
  refine (rof_any size n c A bs w2 h2 hB hs hn).mono ?_
  rintro e w3 ⟨hb3, ⟨_, q, rfl, hR⟩ | ⟨hy, _⟩⟩
  · have h3 := h2.below hb3
    have hM3 := hM.keep hb3
    have HBY := Lib.hid (bytes_any _ _ _ _ w3.drew (hM3.drewN 1))
    rw [HE.out] at HBY
    have hT : Rk .u8 w3.drew A n c bs := h3.drewN 1
    have hcv := fun W (hW : Rk .u8 W A n c bs) => run_str (P := Try.prog) W 36 9 5 Try.underlying36 Try.underlying5 Try.underlying9 hW
    have HB := Lib.hid (show Below w.heap.size w w3.drew by
      have := (hb1.trans (hb2.mono hb1.size)).trans (hb3.mono (Nat.le_trans hb1.size hb2.size))
      exact ⟨this.os, this.tape, this.output, this.size, this.block⟩)
    have HM := Lib.hid (show Mk w3.drew w1.heap.size p size (fb bs) from hM3)
    have HR := Lib.hid (show Rm w3.drew w2.heap.size q size (fb bs) from hR)
    have hsz : w.heap.size ≤ w3.drew.heap.size := HB.out.size
    clear hM hM3 hR h1 h2 h3 hb1 hb2 hb3 h
    go_wp2
    go_region_with (first
      | (go_at_call 16; refine HBY.out.mono ?_; rintro e w4 ⟨A1, n1, c1, rfl, hO1, hb4⟩; have hcv1 := run_str (P := Try.prog) w4 36 9 5 Try.underlying36 Try.underlying5 Try.underlying9 hO1.rk; have hT1 := hT.below hb4; obtain ⟨_, _, _, m, _, hkk, hmm⟩ := HR.out.keep hb4; have c1 := hkk.cell 1; simp at c1; have hln := hmm.len (t := 31) Try.underlying31 3; clear hkk hmm; have HC := Lib.hid (count_any _ _ _ _ w4 (HM.out.keep hb4)))
      | (go_at_call 15; refine HC.out.mono ?_; rintro e w' ⟨rfl, rfl⟩))
    all_goals
      go_wp2
      go_ret
      exact ⟨rfl, HB.out.trans (hb4.mono hsz)⟩
  · exact absurd HF.out hy
theorem mof_walk (A : Option Addr) (n c : Nat) (x : Int) (bs : List Nat) (w : World) (h : Rk .u8 w A n c bs) (hB : Bl 256 bs) :
    Calls Try.prog 4 #[.int .i64 x, .slice A n c] w fun e w' => e = .returned (.bool true) ∧ Below w.heap.size w w' := by
  rcases Nat.lt_or_ge 1000 n with hn | hn
  · exact mof_long A n c x w hn (Nat.le_trans h.cap h.max)
  · by_cases hx : x < 0 ∨ 4096 < x
    · exact mof_bad A n c x w hn hx
    · obtain ⟨size, rfl⟩ : ∃ s : Nat, x = s := ⟨x.toNat, by omega⟩
      by_cases hf : fits size bs
      · exact mof_fit A n c size bs w h hB hn (by omega) hf
      · exact mof_unfit A n c size bs w h hB hn (by omega) hf
end Go.Proofs.Ytgdmmcjhbpklhaa
