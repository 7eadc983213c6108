/-
  The walk of the law CompactAppends: it returns true. For slices of bytes that can be read, of at most 2^47 - 4096 bytes each, and all numbers.
-/
import Derived.Test.YtdhgdphjamcfcaaBawake
import Derived.Test.YtdhgdphjamcfcaaBapp
import Derived.Test.YtdhgdphjamcfcaaBconv
import Derived.Laws.Concat
namespace Go.Proofs.Ytdhgdphjamcfcaa
open Go.RowKit

/-- The bytes of a number out of its string. -/
theorem conv_nb (N : Nat) (w : World) : (convert 9 22 (.string (sb (nb N)))).run Try.prog w =
    .ok (.slice (some ⟨w.heap.size, 0, none⟩) (sz N) (grownCap w (sz N) 0 5)) (Lib.bytesWorld w 5 (sb (nb N))) := by
  have h := Lib.run_convert_string_bytes (P := Try.prog) w 9 22 5 (sb (nb N)) Try.underlying9 Try.underlying22 Try.underlying5
  rw [sb_size, nb_len] at h
  exact h
theorem conv_row (N : Nat) (w : World) : Rk .u8 (Lib.bytesWorld w 5 (sb (nb N))) (some ⟨w.heap.size, 0, none⟩) (sz N) (grownCap w (sz N) 0 5) (nb N) ∧
    ∀ j, sz N ≤ j → j < grownCap w (sz N) 0 5 → ((Lib.bytesWorld w 5 (sb (nb N))).cell? ⟨w.heap.size, j, none⟩).isSome = true ∧ (Lib.bytesWorld w 5 (sb (nb N))).frozen? ⟨w.heap.size, j, none⟩ = false := by
  have hs9 := sz_le N
  have hm : grownCap w (sz N) 0 5 ≤ maxLen := grownCap_le_maxLen w (sz N) 0 5 (by unfold maxLen; omega)
  unfold maxLen at hm
  refine ⟨?_, fun j h0 h1 => conv_spare w 5 (sb (nb N)) j (by rw [sb_size, nb_len]; exact h0) (by rw [sb_size, nb_len]; exact h1)⟩
  have := conv_rk w 5 (nb_bl N) (c := grownCap w (sz N) 0 5) (by rw [nb_len]; exact grownCap_ge ..) hm
  rwa [nb_len] at this
set_option maxHeartbeats 1600000 in
theorem cappends_walk (A C : Option Addr) (n c l d N : Nat) (xs ys : List Nat) (w : World) (hx : Rk .u8 w A n c xs) (hy : Rk .u8 w C l d ys) (hY : Bl 256 ys) (hN : N < 18446744073709551616) (hn : n ≤ 140737488351232) (hl : l ≤ 140737488351232) :
    Calls Try.prog 3 #[.slice A n c, .int .u64 N, .slice C l d] w fun e w' => e = .returned (.bool true) ∧ Below w.heap.size w w' := by
  have hs1 := sz_ge N
  have hs9 := sz_le N
  have HL := Lib.hid hx.len
  go_enter Try.func3, Try.ntmps3
  go_wp2_with fail
  refine (wake_any _).mono ?_
  rintro e w1 ⟨rfl, hb1⟩
  go_wp2_with fail
  refine (append_any A n c N xs _ (hx.below hb1) hN (by omega)).mono ?_
  rintro e w2 ⟨A2, n2, c2, rfl, hO2, hb2⟩
  go_wp2_with fail
  refine (number_any N _ hN).mono ?_
  rintro e w3 ⟨A3, n3, c3, rfl, hO3, hb3⟩
  have hB2 := hb1.trans (hb2.mono hb1.size)
  have hB3 := hB2.trans (hb3.mono hB2.size)
  have hcv3 := run_str (P := Try.prog) w3 22 9 5 Try.underlying22 Try.underlying5 Try.underlying9 hO3.rk
  have hsz3 : (sb (nb N)).size = sz N := by rw [sb_size, nb_len]
  have hcs := conv_nb N w3
  obtain ⟨hR4, hsp4⟩ := conv_row N w3
  have hb4 := conv_below w3 5 (sb (nb N))
  have hg4 : w3.heap.size < (Lib.bytesWorld w3 5 (sb (nb N))).heap.size := by rw [Lib.bytesWorld_size]; omega
  have hR2 := hO2.rk.below hb3
  have hx3 := hx.below hB3
  have hy3 := hy.below hB3
  have hs3 := hB3.size
  clear hb1 hb2 hb3 hO2 hO3 hB2
  have hy4 := hy3.below hb4
  generalize grownCap w3 (sz N) 0 5 = c4 at *
  generalize Lib.bytesWorld w3 5 (sb (nb N)) = w4 at *
  clear hy3
  go_wp2_with (at_builtin; refine wpList_appc _ .u8 5 1 rfl (.tmp 22) (.tmp 23) 22 rfl Try.underlying22 infoB C w3.heap.size (sz N) c4 l d (nb N) ys rfl rfl hR4 hg4 hsp4 hy4 (by unfold maxLen; omega) (by omega) w3.heap.size w3 hb4 (Nat.le_refl _) ?_; intro A5 c5 w5 hR5 hb5)
  refine (take_any _ _ _ _ _ hR5 (Bl_append (nb_bl N) hY)).mono ?_
  simp only [tkE, tk_nb hN]
  rintro e w' ⟨rfl, rfl⟩
  have HB := Lib.hid (hB3.trans (hb5.mono hs3))
  have hcvx := run_str (P := Try.prog) w5 22 9 5 Try.underlying22 Try.underlying5 Try.underlying9 (hR2.below hb5)
  have hcvb := run_str (P := Try.prog) w5 22 9 5 Try.underlying22 Try.underlying5 Try.underlying9 (hx3.below hb5)
  have hsum : (sb xs).size + (sb (nb N)).size ≤ 9223372036854775807 := by rw [sb_size, sb_size, nb_len, HL.out]; omega
  have hap := sb_append xs (nb N)
  clear hR4 hsp4 hy4 hg4 hb4 hcs hcv3 hR5 hb5 hR2 hx3 hB3 hs3
  go_wp2_with fail
  refine (size_any N _ hN).mono ?_
  rintro e w' ⟨rfl, rfl⟩
  go_wp2
  go_ret
  exact ⟨rfl, HB.out⟩
end Go.Proofs.Ytdhgdphjamcfcaa
