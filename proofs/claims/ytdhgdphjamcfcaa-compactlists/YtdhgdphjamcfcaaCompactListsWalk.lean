/-
  The walk of the law CompactLists: it returns true. For slices that can be read, the bytes at most 2^47 - 4096, and any bound.
-/
import Derived.Test.YtdhgdphjamcfcaaBawake
import Derived.Test.YtdhgdphjamcfcaaBlist
import Derived.Test.YtdhgdphjamcfcaaBtl
import Derived.Test.YtdhgdphjamcfcaaBsame
import Derived.Laws.Concat
namespace Go.Proofs.Ytdhgdphjamcfcaa
open Go.RowKit

/-- The bytes of a list out of their string. -/
theorem conv_nl (ys : List Nat) (w : World) : (convert 9 22 (.string (sb (nl ys)))).run Try.prog w =
    .ok (.slice (some ⟨w.heap.size, 0, none⟩) (nl ys).length (grownCap w (nl ys).length 0 5)) (Lib.bytesWorld w 5 (sb (nl ys))) := by
  have h := Lib.run_convert_string_bytes (P := Try.prog) w 9 22 5 (sb (nl ys)) Try.underlying9 Try.underlying22 Try.underlying5
  rw [sb_size] at h
  exact h
theorem conv_nlrow (ys : List Nat) (w : World) (hl : (nl ys).length ≤ 2000000) : Rk .u8 (Lib.bytesWorld w 5 (sb (nl ys))) (some ⟨w.heap.size, 0, none⟩) (nl ys).length (grownCap w (nl ys).length 0 5) (nl ys) := by
  have hm : grownCap w (nl ys).length 0 5 ≤ maxLen := grownCap_le_maxLen w (nl ys).length 0 5 (by unfold maxLen; omega)
  unfold maxLen at hm
  exact conv_rk w 5 (nl_bl ys) (c := grownCap w (nl ys).length 0 5) (grownCap_ge ..) hm

set_option maxHeartbeats 800000 in
/-- Of a list of more than 1000 numbers nothing is asked. -/
theorem clists_long (A B : Option Addr) (n c m d : Nat) (most : Int) (w : World) (hm : 1000 < m) (hd : m ≤ 9223372036854775807) :
    Calls Try.prog 5 #[.slice A n c, .slice B m d, .int .i64 most] w fun e w' => e = .returned (.bool true) ∧ Below w.heap.size w w' := by
  have hm' : (1000 : Int) < (m : Int) := by omega
  go_enter Try.func5, Try.ntmps5
  go_wp2_with fail
  refine (wake_any _).mono ?_
  rintro e w1 ⟨rfl, hb1⟩
  go_wp2_with fail
  refine (wake_any _).mono ?_
  rintro e w2 ⟨rfl, hb2⟩
  have HB := Lib.hid (hb1.trans (hb2.mono hb1.size))
  clear hb1 hb2
  go_wp2
  go_ret
  exact ⟨rfl, HB.out⟩

set_option maxHeartbeats 1600000 in
theorem clists_walk (A B : Option Addr) (n c m d : Nat) (xs ys : List Nat) (most : Int) (w : World) (hx : Rk .u8 w A n c xs) (hy : Rk .u64 w B m d ys) (hY : Bl 18446744073709551616 ys) (hn : n ≤ 140737488351232) (hm : m ≤ 1000)
    (hm0 : -9223372036854775808 ≤ most) (hm1 : most ≤ 9223372036854775807) :
    Calls Try.prog 5 #[.slice A n c, .slice B m d, .int .i64 most] w fun e w' => e = .returned (.bool true) ∧ Below w.heap.size w w' := by
  have HX := Lib.hid hx.len
  have HY := Lib.hid hy.len
  have hml : (m : Int) ≤ 1000 := by omega
  have hll := nl_len ys
  rw [HY.out] at hll
  have HT := Lib.hid (tl_nl ys most (by rw [HY.out]; omega) hY)
  go_enter Try.func5, Try.ntmps5
  go_wp2_with fail
  refine (wake_any _).mono ?_
  rintro e w1 ⟨rfl, hb1⟩
  go_wp2_with fail
  refine (list_any A B n c m d xs ys _ (hx.below hb1) (hy.below hb1) hY hm (by omega)).mono ?_
  rintro e w2 ⟨A2, n2, c2, rfl, hO2, hb2⟩
  have hB2 := hb1.trans (hb2.mono hb1.size)
  go_wp2_with fail
  refine (rlist_any B m d ys _ (hy.below hB2) hY hm).mono ?_
  rintro e w3 ⟨A3, n3, c3, rfl, hO3, hb3⟩
  have hB3 := hB2.trans (hb3.mono hB2.size)
  have hcv3 := run_str (P := Try.prog) w3 22 9 5 Try.underlying22 Try.underlying5 Try.underlying9 hO3.rk
  have hcs := conv_nl ys w3
  have hR4 := conv_nlrow ys w3 (by omega)
  have hb4 := conv_below w3 5 (sb (nl ys))
  have hR2 := (hO2.rk.below hb3).below hb4
  have hs3 := hB3.size
  have hB4 := hB3.trans (hb4.mono hs3)
  generalize grownCap w3 (nl ys).length 0 5 = c4 at *
  generalize Lib.bytesWorld w3 5 (sb (nl ys)) = w4 at *
  have hx4 := hx.below hB4
  have hy4 := hy.below hB4
  clear hb1 hb2 hb3 hO2 hO3 hB2 hB3 hs3 hb4
  go_wp2_with fail
  refine (tlist_any _ _ _ (nl ys) most _ hR4 (nl_bl ys) (by omega) hm0 hm1).mono ?_
  rw [HT.out]
  by_cases hmost : most < (m : Int)
  · rw [if_pos (by rw [HY.out]; exact hmost)]
    rintro e w5 ⟨B5, m5, d5, rfl, hR5, hb5⟩
    have hz : m5 = 0 := by rw [← hR5.len]; rfl
    subst hz
    have hcvx := run_str (P := Try.prog) w5 22 9 5 Try.underlying22 Try.underlying5 Try.underlying9 (hR2.below hb5)
    have hcvb := run_str (P := Try.prog) w5 22 9 5 Try.underlying22 Try.underlying5 Try.underlying9 (hx4.below hb5)
    have hsum : (sb xs).size + (sb (nl ys)).size ≤ 9223372036854775807 := by rw [sb_size, sb_size, HX.out]; omega
    have hap := sb_append xs (nl ys)
    have HB := Lib.hid (hB4.trans (hb5.mono hB4.size))
    clear hR4 hcs hcv3 hR5 hb5 hR2 hx4 hy4 hB4
    go_wp2
    go_ret
    exact ⟨rfl, HB.out⟩
  · rw [if_neg (by rw [HY.out]; exact hmost)]
    rintro e w5 ⟨B5, m5, d5, rfl, hR5, hb5⟩
    have hcvx := run_str (P := Try.prog) w5 22 9 5 Try.underlying22 Try.underlying5 Try.underlying9 (hR2.below hb5)
    have hcvb := run_str (P := Try.prog) w5 22 9 5 Try.underlying22 Try.underlying5 Try.underlying9 (hx4.below hb5)
    have hsum : (sb xs).size + (sb (nl ys)).size ≤ 9223372036854775807 := by rw [sb_size, sb_size, HX.out]; omega
    have hap := sb_append xs (nl ys)
    have hlen : (sb (nl ys)).size = (nl ys).length := sb_size _
    have hy5 := hy4.below hb5
    have hB5 := hB4.trans (hb5.mono hB4.size)
    clear hR4 hcs hcv3 hb5 hR2 hx4 hy4 hB4
    go_wp2_with fail
    refine (sameQ_yes _ _ _ _ _ _ ys _ hR5 hy5).mono ?_
    rintro e w6 ⟨rfl, q, rfl⟩
    have HB := Lib.hid (belowDrew hB5 q)
    clear hB5 hR5 hy5 hcvx hcvb
    go_wp2
    go_ret
    exact ⟨rfl, HB.out⟩
end Go.Proofs.Ytdhgdphjamcfcaa
