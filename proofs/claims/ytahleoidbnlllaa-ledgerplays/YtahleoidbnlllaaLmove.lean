/-
  The smallest functions of the ledger, and of the reference's: move, moveMost, find, There, Accounts, Treasury, Pot, total, byEra. The conditions stand in each theorem.
-/
import Derived.Test.YtahleoidbnlllaaLmem
import Derived.Handy
import Derived.Lib.Hide
namespace Go.Proofs.Ytahleoidbnlllaa
open Go.RowKit
set_option linter.unusedVariables false

abbrev TP : Tys := ⟨64, 49, 53⟩
abbrev TR : Tys := ⟨67, 70, 89⟩

theorem mv_yes (b o b' o' : Nat) (x y n : Nat) (w : World) (hP : w.cell? ⟨b, o, none⟩ = some (.int .u64 (x : Nat))) (fP : w.frozen? ⟨b, o, none⟩ = false)
    (hQ : (w.setCell ⟨b, o, none⟩ (.int .u64 ((x - n : Nat) : Int))).cell? ⟨b', o', none⟩ = some (.int .u64 (y : Nat))) (fQ : (w.setCell ⟨b, o, none⟩ (.int .u64 ((x - n : Nat) : Int))).frozen? ⟨b', o', none⟩ = false)
    (hn : n ≤ x) (hx : x < 18446744073709551616) (hy : y + n < 18446744073709551616) :
    Calls Try.prog 51 #[.pointer (some ⟨b, o, none⟩), .pointer (some ⟨b', o', none⟩), .int .u64 n] w fun e w' => e = .returned (.int .i64 0) ∧ w' = (w.setCell ⟨b, o, none⟩ (.int .u64 ((x - n : Nat) : Int))).setCell ⟨b', o', none⟩ (.int .u64 ((y + n : Nat) : Int)) := by
  go_enter Try.func51, Try.ntmps51
  go_wp2_with fail
  refine (ysub_any x n _ hx (by omega)).mono ?_
  rw [show subM x n = (x - n, 0) from if_pos hn]
  rintro e w' ⟨rfl, rfl⟩
  go_wp2
  go_ret
  exact ⟨rfl, by congr 2⟩
theorem mv_no (b o : Nat) (Q : Option Addr) (x n : Nat) (w : World) (hP : w.cell? ⟨b, o, none⟩ = some (.int .u64 (x : Nat))) (hn : x < n) (hx : n < 18446744073709551616) :
    Calls Try.prog 51 #[.pointer (some ⟨b, o, none⟩), .pointer Q, .int .u64 n] w fun e w' => e = .returned (.int .i64 8) ∧ w = w' := by
  go_enter Try.func51, Try.ntmps51
  go_wp2_with fail
  refine (ysub_any x n _ (by omega) hx).mono ?_
  rw [show subM x n = (0, 8) from if_neg (by omega)]
  rintro e w' ⟨rfl, rfl⟩
  go_wp2
  go_ret
  exact ⟨rfl, rfl⟩
theorem rmv_yes (b o b' o' : Nat) (x y n : Nat) (w : World) (hP : w.cell? ⟨b, o, none⟩ = some (.int .u64 (x : Nat))) (fP : w.frozen? ⟨b, o, none⟩ = false)
    (hQ : (w.setCell ⟨b, o, none⟩ (.int .u64 ((x - n : Nat) : Int))).cell? ⟨b', o', none⟩ = some (.int .u64 (y : Nat))) (fQ : (w.setCell ⟨b, o, none⟩ (.int .u64 ((x - n : Nat) : Int))).frozen? ⟨b', o', none⟩ = false)
    (hn : n ≤ x) (hx : x < 18446744073709551616) (hy : y + n < 18446744073709551616) :
    Calls Try.prog 58 #[.pointer (some ⟨b, o, none⟩), .pointer (some ⟨b', o', none⟩), .int .u64 n] w fun e w' => e = .returned (.int .i64 0) ∧ w' = (w.setCell ⟨b, o, none⟩ (.int .u64 ((x - n : Nat) : Int))).setCell ⟨b', o', none⟩ (.int .u64 ((y + n : Nat) : Int)) := by
  have h1 : ¬ ((x : Int) < (n : Int)) := by omega
  have h2 : IntKind.u64.wrap ((x : Int) - (n : Int)) = ((x - n : Nat) : Int) := by rw [IntKind.wrap_u64]; omega
  go_enter Try.func58, Try.ntmps58
  go_wp2
  go_ret
  exact ⟨rfl, by congr 2⟩
theorem rmv_no (b o : Nat) (Q : Option Addr) (x n : Nat) (w : World) (hP : w.cell? ⟨b, o, none⟩ = some (.int .u64 (x : Nat))) (hn : x < n) (hx : n < 18446744073709551616) :
    Calls Try.prog 58 #[.pointer (some ⟨b, o, none⟩), .pointer Q, .int .u64 n] w fun e w' => e = .returned (.int .i64 8) ∧ w = w' := by
  have h1 : ((x : Int) < (n : Int)) := by omega
  go_enter Try.func58, Try.ntmps58
  go_wp2
  go_ret
  exact ⟨rfl, rfl⟩
theorem mm_any (b o b' o' : Nat) (x y n : Nat) (w : World) (hP : w.cell? ⟨b, o, none⟩ = some (.int .u64 (x : Nat))) (fP : w.frozen? ⟨b, o, none⟩ = false)
    (hQ : w.cell? ⟨b', o', none⟩ = some (.int .u64 (y : Nat))) (fQ : w.frozen? ⟨b', o', none⟩ = false) (hne : b ≠ b')
    (hx : x < 18446744073709551616) (hn : n < 18446744073709551616) (hy : y + min n x < 18446744073709551616) :
    Calls Try.prog 54 #[.pointer (some ⟨b, o, none⟩), .pointer (some ⟨b', o', none⟩), .int .u64 n] w fun e w' => e = .returned (.int .u64 ((min n x : Nat) : Int)) ∧ w' = (w.setCell ⟨b, o, none⟩ (.int .u64 ((x - min n x : Nat) : Int))).setCell ⟨b', o', none⟩ (.int .u64 ((y + min n x : Nat) : Int)) := by
  rcases Nat.lt_or_ge n x with hlt | hge
  · have e : min n x = n := by omega
    rw [e] at hy ⊢
    clear e
    have h1 : ((n : Int) < (x : Int)) := by omega
    have h2 : IntKind.u64.wrap ((x : Int) - (n : Int)) = ((x - n : Nat) : Int) := by rw [IntKind.wrap_u64]; omega
    have h3 : IntKind.u64.wrap ((y : Int) + (n : Int)) = ((y + n : Nat) : Int) := by rw [IntKind.wrap_u64]; omega
    go_enter Try.func54, Try.ntmps54
    go_wp2
    go_ret
    exact ⟨rfl, by go_num⟩
  · have e : min n x = x := by omega
    rw [e] at hy ⊢
    clear e
    have h1 : ¬ ((n : Int) < (x : Int)) := by omega
    have h2 : IntKind.u64.wrap ((x : Int) - (x : Int)) = ((x - x : Nat) : Int) := by rw [IntKind.wrap_u64]; omega
    have h3 : IntKind.u64.wrap ((y : Int) + (x : Int)) = ((y + x : Nat) : Int) := by rw [IntKind.wrap_u64]; omega
    go_enter Try.func54, Try.ntmps54
    go_wp2
    go_ret
    exact ⟨rfl, by go_num⟩

section
variable {base : Nat} {w : World} {s : Lm}
theorem fnd_yes (h : Lg TP base w s) {i : Nat} {x : Am} (hx : s.a[i]? = some x) {g cap : Nat} (hv : s.v = .slice (some ⟨g, 0, none⟩) s.a.length cap) (hl : s.a.length ≤ 32) :
    Calls Try.prog 47 #[.pointer (some ⟨s.L, 0, none⟩), .int .i64 i] w fun e w' => e = .returned (.tuple #[.pointer (some ⟨g, i * 4, none⟩), .int .i64 0]) ∧ w = w' := by
  have hi := (List.getElem?_eq_some_iff.1 hx).1
  have c0 := h.cv
  rw [hv] at c0
  have h1 : ¬ ((i : Int) < 0) := by omega
  have h2 : ¬ ((s.a.length : Int) ≤ (i : Int)) := by omega
  have h3 : ((i : Int) < (s.a.length : Int)) := by omega
  clear h hx hv
  go_enter Try.func47, Try.ntmps47
  go_wp2
  go_ret2
  exact ⟨rfl, rfl⟩
theorem fnd_no (h : Lg TP base w s) {i : Int} (hi : i < 0 ∨ (s.a.length : Int) ≤ i) (hl : s.a.length ≤ 32) :
    Calls Try.prog 47 #[.pointer (some ⟨s.L, 0, none⟩), .int .i64 i] w fun e w' => e = .returned (.tuple #[.pointer none, .int .i64 5]) ∧ w = w' := by
  obtain ⟨A, cap, hv, hc⟩ := h.vany
  have c0 := h.cv
  rw [hv] at c0
  clear h hv
  by_cases h1 : i < 0
  · go_enter Try.func47, Try.ntmps47
    go_wp2
    go_ret2
    exact ⟨rfl, rfl⟩
  · have h2 : ((s.a.length : Int) ≤ i) := by omega
    go_enter Try.func47, Try.ntmps47
    go_wp2
    go_ret2
    exact ⟨rfl, rfl⟩
theorem fnd_nil (i : Int) (w : World) : Calls Try.prog 47 #[.pointer none, .int .i64 i] w fun e w' => e = .returned (.tuple #[.pointer none, .int .i64 1]) ∧ w = w' := by
  go_enter Try.func47, Try.ntmps47
  go_wp2
  go_ret2
  exact ⟨rfl, rfl⟩
theorem thr_yes (h : Lg TR base w s) {i : Nat} (hi : i < s.a.length) (hl : s.a.length ≤ 32) :
    Calls Try.prog 57 #[.pointer (some ⟨s.L, 0, none⟩), .int .i64 i] w fun e w' => e = .returned (.bool true) ∧ w = w' := by
  obtain ⟨A, cap, hv, hc⟩ := h.vany
  have c0 := h.cv
  rw [hv] at c0
  clear h hv
  have h1 : (0 : Int) ≤ (i : Int) := by omega
  have h3 : ((i : Int) < (s.a.length : Int)) := by omega
  go_enter Try.func57, Try.ntmps57
  go_wp2
  go_ret
  exact ⟨by simp, rfl⟩
theorem thr_no (h : Lg TR base w s) {i : Int} (hi : i < 0 ∨ (s.a.length : Int) ≤ i) (hl : s.a.length ≤ 32) :
    Calls Try.prog 57 #[.pointer (some ⟨s.L, 0, none⟩), .int .i64 i] w fun e w' => e = .returned (.bool false) ∧ w = w' := by
  obtain ⟨A, cap, hv, hc⟩ := h.vany
  have c0 := h.cv
  rw [hv] at c0
  clear h hv
  by_cases h1 : i < 0
  · have h2 : ¬ ((0 : Int) ≤ i) := by omega
    go_enter Try.func57, Try.ntmps57
    go_wp2
    go_ret
    exact ⟨by simp, rfl⟩
  · have h2 : ((0 : Int) ≤ i) := by omega
    have h3 : ¬ (i < (s.a.length : Int)) := by omega
    go_enter Try.func57, Try.ntmps57
    go_wp2
    go_ret
    exact ⟨by simp, rfl⟩
theorem accs_any (h : Lg TP base w s) : Calls Try.prog 27 #[.pointer (some ⟨s.L, 0, none⟩)] w fun e w' => e = .returned (.int .i64 (s.a.length : Nat)) ∧ w = w' := by
  obtain ⟨A, cap, hv, hc⟩ := h.vany
  have c0 := h.cv
  rw [hv] at c0
  clear h hv
  go_enter Try.func27, Try.ntmps27
  go_wp2
  go_ret
  exact ⟨rfl, rfl⟩
theorem tre_any (h : Lg TP base w s) : Calls Try.prog 28 #[.pointer (some ⟨s.L, 0, none⟩)] w fun e w' => e = .returned (.int .u64 (s.t : Nat)) ∧ w = w' := by
  have c0 := h.ct
  clear h
  go_enter Try.func28, Try.ntmps28
  go_wp2
  go_ret
  exact ⟨rfl, rfl⟩
theorem pot_any (h : Lg TP base w s) : Calls Try.prog 29 #[.pointer (some ⟨s.L, 0, none⟩)] w fun e w' => e = .returned (.int .u64 (s.p : Nat)) ∧ w = w' := by
  have c0 := h.cp
  clear h
  go_enter Try.func29, Try.ntmps29
  go_wp2
  go_ret
  exact ⟨rfl, rfl⟩
end
theorem accs_nil (w : World) : Calls Try.prog 27 #[.pointer none] w fun e w' => e = .returned (.int .i64 0) ∧ w = w' := by
  go_enter Try.func27, Try.ntmps27
  go_wp2
  go_ret
  exact ⟨rfl, rfl⟩
theorem tre_nil (w : World) : Calls Try.prog 28 #[.pointer none] w fun e w' => e = .returned (.int .u64 0) ∧ w = w' := by
  go_enter Try.func28, Try.ntmps28
  go_wp2
  go_ret
  exact ⟨rfl, rfl⟩
theorem pot_nil (w : World) : Calls Try.prog 29 #[.pointer none] w fun e w' => e = .returned (.int .u64 0) ∧ w = w' := by
  go_enter Try.func29, Try.ntmps29
  go_wp2
  go_ret
  exact ⟨rfl, rfl⟩

/-- A slice reads as chunks. -/
def Sc (w : World) (A : Option Addr) (n c : Nat) (ch : List Ck) : Prop :=
  ch.length = n ∧ n ≤ c ∧ n ≤ 1000000 ∧ (0 < n → ∃ g o, A = some ⟨g, o, none⟩ ∧ g < w.heap.size ∧ ∀ k x, ch[k]? = some x → w.cell? ⟨g, o + k * 2, none⟩ = some (.int .u64 (x.1 : Nat)) ∧ w.cell? ⟨g, o + k * 2 + 1, none⟩ = some (.int .i64 x.2))
theorem Sc.below {w w' : World} {A : Option Addr} {n c : Nat} {ch : List Ck} (h : Sc w A n c ch) (hb : Below w.heap.size w w') : Sc w' A n c ch := by
  obtain ⟨h1, h2, h3, h4⟩ := h
  refine ⟨h1, h2, h3, fun hn => ?_⟩
  obtain ⟨g, o, e, hg, hc⟩ := h4 hn
  refine ⟨g, o, e, Nat.lt_of_lt_of_le hg hb.size, fun k x hx => ?_⟩
  obtain ⟨c0, c1⟩ := hc k x hx
  exact ⟨(hb.cell (p := ⟨g, o + k * 2, none⟩) hg).trans c0, (hb.cell (p := ⟨g, o + k * 2 + 1, none⟩) hg).trans c1⟩
theorem own_sc {w : World} {base : Nat} {e : TypeId} {v : Value} {ch : List Ck} (h : w.ownsRow base e 2 v ch.length (ccs ch)) (hl : ch.length ≤ 1000000) : ∃ A c, v = .slice A ch.length c ∧ Sc w A ch.length c ch := by
  rcases own_forms h with ⟨rfl, hn, _⟩ | ⟨g, cap, rfl, _, hc, _, hg, _⟩
  · rw [hn]; exact ⟨none, 0, rfl, hn, Nat.le_refl _, Nat.zero_le _, fun h0 => by omega⟩
  · refine ⟨_, cap, rfl, rfl, hc, hl, fun _ => ⟨g, 0, rfl, hg, fun k x hx => ?_⟩⟩
    have hk := (List.getElem?_eq_some_iff.1 hx).1
    obtain ⟨e0, e1⟩ := ccs_get ch k x hx
    rw [Nat.zero_add]
    exact ⟨(h.cellAt _ (by omega)).trans e0, (h.cellAt _ (by omega)).trans e1⟩
theorem Sc.take {w : World} {A : Option Addr} {n c : Nat} {ch : List Ck} (h : Sc w A n c ch) (k : Nat) (hk : k ≤ n) : Sc w A k c (ch.take k) := by
  obtain ⟨h1, h2, h3, h4⟩ := h
  refine ⟨by rw [List.length_take, h1]; omega, by omega, by omega, fun hn => ?_⟩
  obtain ⟨g, o, e, hg, hc⟩ := h4 (by omega)
  refine ⟨g, o, e, hg, fun j x hx => ?_⟩
  rw [List.getElem?_take] at hx
  split at hx
  · exact hc j x hx
  · cases hx
theorem cht_take_succ {ch : List Ck} {k : Nat} {x : Ck} (h : ch[k]? = some x) : cht (ch.take (k + 1)) = cht (ch.take k) + x.1 := by
  obtain ⟨hk, rfl⟩ := List.getElem?_eq_some_iff.1 h
  rw [List.take_succ_eq_append_getElem hk, cht_append]; rfl
theorem cht_take_le (ch : List Ck) (k : Nat) : cht (ch.take k) ≤ cht ch := by have := cht_split ch k; omega

set_option maxHeartbeats 800000 in
theorem total_any (A : Option Addr) (n c : Nat) (ch : List Ck) (w : World) (h : Sc w A n c ch) (ht : cht ch < 18446744073709551616) :
    Calls Try.prog 46 #[.slice A n c] w fun e w' => e = .returned (.int .u64 (cht ch : Nat)) ∧ Below w.heap.size w w' := by
  have HH := Lib.hid h
  obtain ⟨hlen, hcap, hmax, _⟩ := h
  have HL := Lib.hid hlen
  clear hlen
  go_enter Try.func46, Try.ntmps46
  go_wp2_with fail
  go_loopw [3, 8] (fun sv tv wr => ∃ k S : Nat, k ≤ n ∧ S = cht (ch.take k) ∧ sv = .int .u64 (S : Int) ∧ tv = .int .i64 (k : Int) ∧ Below w.heap.size w wr) (fun _ tv _ => n - (intOf tv).toNat)
  case atStart => exact ⟨0, 0, by omega, rfl, rfl, rfl, Below.refl _ _⟩
  case round =>
    obtain ⟨k, S, hk, hS, rfl, rfl, hb⟩ := hrel
    have HS := Lib.hid hS
    have hSl : S < 18446744073709551616 := by have := cht_take_le ch k; omega
    clear hS
    by_cases hlt : k < n
    · obtain ⟨_, _, _, h4⟩ := HH.out.below hb
      obtain ⟨g, o, rfl, hg, hc⟩ := h4 (by omega)
      obtain ⟨x, hx⟩ : ∃ x, ch[k]? = some x := ⟨_, List.getElem?_eq_getElem (by have := HL.out; omega)⟩
      obtain ⟨c0, c1⟩ := hc k x hx
      have hT := cht_take_succ hx
      have hsum : S + x.1 < 18446744073709551616 := by have := cht_take_le ch (k + 1); have := HS.out; omega
      have HT := Lib.hid hT
      clear hT hc hx h4
      obtain ⟨x1, x2⟩ := x
      dsimp only at c0 c1 hsum HT
      have hw : IntKind.u64.wrap ((S : Int) + (x1 : Int)) = ((S + x1 : Nat) : Int) := by rw [IntKind.wrap_u64]; omega
      go_wp2
      go_roundw
      case rel => exact ⟨k + 1, S + x1, by omega, by rw [HT.out, HS.out], by go_num, by go_num, by exact (hb.alloc hb.size _)⟩
      case measure => simp [intOf]; omega
    · obtain rfl : k = n := by omega
      go_wp2
      go_ret
      exact ⟨by rw [HS.out, List.take_of_length_le (by rw [HL.out]; exact Nat.le_refl _)]; rfl, hb⟩
end Go.Proofs.Ytahleoidbnlllaa
