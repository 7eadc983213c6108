/-
  The law MoneySplits returns true, for all numbers below 2^64 and every slice of them that can be read.
-/
import Derived.Test.YtcpeofgfppgooaaYsplit
namespace Go.Proofs.Ytcpeofgfppgooaa
open Go.RowKit

def YsRel (w : World) (n : Nat) (t : Value) (wr : World) : Prop := ∃ k q : Nat, k ≤ n ∧ t = .int .i64 (k : Int) ∧ wr = w.drewN q
set_option maxHeartbeats 800000 in
theorem ysame_yes (A B : Option Addr) (n c m d : Nat) (xs : List Nat) (w : World) (ha : Rk .u64 w A n c xs) (hb : Rk .u64 w B m d xs) :
    Calls Try.prog 19 #[.slice A n c, .slice B m d] w fun e w' => e = .returned (.bool true) ∧ ∃ q, w' = w.drewN q := by
  obtain rfl : n = m := by rw [← ha.len, hb.len]
  have hcap := ha.cap
  have hmax := ha.max
  go_enter Try.func19, Try.ntmps19
  go_wp2
  go_loopw [13] (fun t wr => YsRel w n t wr) (fun t _ => n - (intOf t).toNat)
  case atStart => exact ⟨0, 0, by omega, rfl, rfl⟩
  case round =>
    obtain ⟨k, q, hk, rfl, rfl⟩ := hrel
    by_cases hlt : k < n
    · obtain ⟨b, o, rfl, hbb, hcA⟩ := ha.at_ (by omega)
      obtain ⟨b2, o2, rfl, hbb2, hcB⟩ := hb.at_ (by omega)
      have hcx := hcA k hlt
      have hcy := hcB k hlt
      clear hcA hcB
      go_wp2
      go_quiet (fail)
      go_wp2
      go_roundw
      case rel => exact ⟨k + 1, _, by omega, by go_num, rfl⟩
      case measure => simp [intOf]; omega
    · obtain rfl : k = n := by omega
      go_wp2
      go_ret
      exact ⟨rfl, q, rfl⟩

def LsRel (l n : Nat) (ps : List Nat) (sv tv : Value) : Prop := ∃ k S : Nat, k ≤ n ∧ S = l + tot (ps.take k) ∧ sv = .int .u64 (S : Int) ∧ tv = .int .i64 (k : Int)
set_option maxHeartbeats 1600000 in
theorem splits_main (a : Nat) (A : Option Addr) (n c l k : Nat) (xs ps : List Nat) (w : World) (hn : n ≤ 200) (h : Rk .u64 w A n c xs) (hP : Bl 18446744073709551616 ps)
    (y1 : Calls Try.prog 17 #[.int .u64 a, .slice A n c] w (OutS w ps l k)) (y2 : ∀ W, Rk .u64 W A n c xs → Calls Try.prog 18 #[.int .u64 a, .slice A n c] W (OutS W ps l k))
    (hs : l + tot ps < 18446744073709551616) (hk : k ≠ 0 ∨ k = 0 ∧ l + tot ps = a ∧ l < n) :
    Calls Try.prog 5 #[.int .u64 a, .slice A n c] w fun e w' => e = .returned (.bool true) ∧ Below w.heap.size w w' := by
  have hll : l < 18446744073709551616 := by omega
  have h1 : ¬ (200 < (n : Int)) := by omega
  have HS := Lib.hid hs
  have HK := Lib.hid hk
  clear hs hk
  go_enter Try.func5, Try.ntmps5
  go_wp2_with fail
  refine (ywake_any w).mono ?_
  rintro e w' ⟨rfl, rfl⟩
  go_wp2_with fail
  refine y1.mono ?_
  rintro e w1 ⟨A1, n1, c1, rfl, hR1, b1⟩
  go_wp2_with fail
  refine (y2 w1 (h.below b1)).mono ?_
  rintro e w2 ⟨A2, n2, c2, rfl, hR2, b2⟩
  replace hR1 := hR1.below b2
  replace b1 := b1.trans (b2.mono b1.size)
  clear b2 y1 y2
  go_wp2_with fail
  refine (ysame_yes _ _ _ _ _ _ ps w2 hR1 hR2).mono ?_
  rintro e w3 ⟨rfl, q, rfl⟩
  have hcap := hR1.cap
  have hmax := hR1.max
  have HL := Lib.hid hR1.len
  go_wp2
  go_loop [11, 52] (fun sv tv => LsRel l n1 ps sv tv) (fun _ tv => n1 - (intOf tv).toNat)
  case atStart => exact ⟨0, l, by omega, rfl, rfl, rfl⟩
  case round =>
    obtain ⟨i, S, hi, hS, rfl, rfl⟩ := hrel
    have HI := Lib.hid hS
    clear hS
    by_cases hlt : i < n1
    · obtain ⟨b, o, rfl, hb, hc⟩ := hR1.at_ (by omega)
      have hcell := hc i hlt
      have he := Bl_el hP (by omega) i
      have HT := Lib.hid (tot_take_succ ps i)
      have hfit : S + el ps i < 18446744073709551616 := by
        have h1 := HI.out
        have h2 := HT.out
        have h3 := tot_take_le ps (i + 1)
        have h4 := HS.out
        omega
      clear hc
      generalize el ps i = x at *
      go_wp2
      go_round
      case rel => exact ⟨i + 1, S + x, by omega, by have h1 := HI.out; have h2 := HT.out; omega, by go_num, by go_num⟩
      case measure => simp [intOf]; omega
    · obtain rfl : i = n1 := by omega
      have hSe : S = l + tot ps := by
        have := HI.out
        rwa [List.take_of_length_le (by rw [HL.out]; exact Nat.le_refl _)] at this
      rcases HK.out with hk0 | ⟨rfl, hsum, hln⟩
      · have h2 : ((k : Int) == 0) = false := by simp; omega
        clear hSe
        go_wp2
        go_ret
        exact ⟨rfl, below_drewN' b1 q⟩
      · obtain rfl : S = a := by omega
        clear hSe hsum
        have hln' : (l : Int) < (n : Int) := by omega
        go_wp2
        go_ret
        exact ⟨rfl, below_drewN' b1 q⟩
set_option maxHeartbeats 800000 in
theorem splits_walk (a : Nat) (A : Option Addr) (n c : Nat) (xs : List Nat) (w : World) (ha : a < 18446744073709551616) (h : Rk .u64 w A n c xs) (hX : Bl 18446744073709551616 xs) :
    Calls Try.prog 5 #[.int .u64 a, .slice A n c] w fun e w' => e = .returned (.bool true) ∧ Below w.heap.size w w' := by
  by_cases hn : n ≤ 200
  · by_cases hS : tot xs < 18446744073709551616
    · by_cases h0 : tot xs = 0
      · exact splits_main a A n c 0 5 xs [] w hn h (Bl_nil _) (ysplit_none A n c a xs w h hX h0) (fun W hW => xsplit_none A n c a xs W hW hX h0) (by simp [tot]) (.inl (by omega))
      · have h1 := prts_le (a := a) (S := tot xs) (xs := xs) (by omega) rfl
        have h2 := prts_left (a := a) (S := tot xs) (xs := xs) (by omega) rfl
        rw [h.len] at h2
        refine splits_main a A n c _ 0 xs _ w hn h (fun p hp => ?_) (ysplit_yes A n c a (tot xs) xs w h hX hn ha rfl (by omega) hS) (fun W hW => xsplit_yes A n c a (tot xs) xs W hW hX hn ha rfl (by omega) hS) (by omega) (.inr ⟨rfl, by omega, h2⟩)
        obtain ⟨x, hx, rfl⟩ := List.mem_map.1 hp
        obtain ⟨j, hj, rfl⟩ := List.getElem_of_mem hx
        have h3 := el_le_tot xs j
        rw [el_get xs j hj] at h3
        exact Nat.lt_of_le_of_lt (prt_le (by omega) h3) ha
    · exact splits_main a A n c 0 3 xs [] w hn h (Bl_nil _) (ysplit_long A n c a xs w h hX hS) (fun W hW => xsplit_long A n c a xs W hW hX hS) (by simp [tot]) (.inl (by omega))
  · have h1 : (200 < (n : Int)) := by omega
    have hcap := h.cap
    have hmax := h.max
    go_enter Try.func5, Try.ntmps5
    go_wp2_with fail
    refine (ywake_any w).mono ?_
    rintro e w' ⟨rfl, rfl⟩
    go_wp2_with fail
    refine (ywake_any w).mono ?_
    rintro e w' ⟨rfl, rfl⟩
    go_wp2
    go_ret
    exact ⟨rfl, Below.refl _ _⟩
end Go.Proofs.Ytcpeofgfppgooaa
