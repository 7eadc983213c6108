/-
  cmp.Compare, byEra, and the search for an era among chunks. The conditions stand in each theorem.
-/
import Derived.Test.YtahleoidbnlllaaLmove
namespace Go.Proofs.Ytahleoidbnlllaa
open Go.RowKit
set_option linter.unusedVariables false

def cmpI (a b : Int) : Int := if a < b then -1 else if b < a then 1 else 0
theorem nan_no (a : Int) (w : World) : Calls Try.prog 64 #[.int .i64 a] w fun e w' => e = .returned (.bool false) ∧ w = w' := by
  go_enter Try.func64, Try.ntmps64
  go_wp2
  go_ret
  exact ⟨by simp, rfl⟩
theorem cmp_any (a b : Int) (w : World) : Calls Try.prog 59 #[.int .i64 a, .int .i64 b] w fun e w' => e = .returned (.int .i64 (cmpI a b)) ∧ w = w' := by
  unfold cmpI
  by_cases h1 : a < b
  · rw [if_pos h1]
    go_enter Try.func59, Try.ntmps59
    go_wp2_with fail
    refine (nan_no a w).mono ?_
    rintro e w' ⟨rfl, rfl⟩
    go_wp2_with fail
    refine (nan_no b w).mono ?_
    rintro e w' ⟨rfl, rfl⟩
    go_wp2
    go_ret
    exact ⟨rfl, rfl⟩
  · rw [if_neg h1]
    by_cases h2 : b < a
    · rw [if_pos h2]
      go_enter Try.func59, Try.ntmps59
      go_wp2_with fail
      refine (nan_no a w).mono ?_
      rintro e w' ⟨rfl, rfl⟩
      go_wp2_with fail
      refine (nan_no b w).mono ?_
      rintro e w' ⟨rfl, rfl⟩
      go_wp2
      go_ret
      exact ⟨rfl, rfl⟩
    · rw [if_neg h2]
      go_enter Try.func59, Try.ntmps59
      go_wp2_with fail
      refine (nan_no a w).mono ?_
      rintro e w' ⟨rfl, rfl⟩
      go_wp2_with fail
      refine (nan_no b w).mono ?_
      rintro e w' ⟨rfl, rfl⟩
      go_wp2
      go_ret
      exact ⟨rfl, rfl⟩
theorem era_any (n : Int) (a b : Int) (w : World) : Calls Try.prog 49 #[.agg #[.int .u64 n, .int .i64 a], .int .i64 b] w fun e w' => e = .returned (.int .i64 (cmpI a b)) ∧ Below w.heap.size w w' := by
  go_enter Try.func49, Try.ntmps49
  go_wp2_with fail
  refine (cmp_any a b _).mono ?_
  rintro e w' ⟨rfl, rfl⟩
  go_wp2
  go_ret
  exact ⟨rfl, (Below.refl _ _).alloc (Nat.le_refl _) _⟩
theorem cmpI_lt (a b : Int) : (cmpI a b < 0) = (a < b) := by unfold cmpI; split <;> (try split) <;> simp_all <;> omega
theorem cmpI_eq (a b : Int) : (cmpI a b = 0) = (a = b) := by unfold cmpI; split <;> (try split) <;> simp_all <;> omega
/-- The place where earlier eras end. -/
theorem posC_eq {ch : List Ck} {era : Int} {k : Nat} (hk : k ≤ ch.length) (h1 : ∀ (m : Nat) (c : Ck), m < k → ch[m]? = some c → c.2 < era) (h2 : ∀ (c : Ck), ch[k]? = some c → era ≤ c.2) : posC ch era = k := by
  unfold posC
  induction ch generalizing k with
  | nil => simp at hk; subst hk; rfl
  | cons x xs ih =>
    rw [List.takeWhile_cons]
    cases k with
    | zero =>
      have := h2 x (by simp)
      have : ¬ x.2 < era := by omega
      simp [this]
    | succ k =>
      have := h1 0 x (by omega) (by simp)
      simp only [this, decide_true, if_true, List.length_cons]
      rw [ih (k := k) (by simpa using hk) (fun m c hm hc => h1 (m + 1) c (by omega) (by simpa using hc)) (fun c hc => h2 c (by simpa using hc))]
/-- Whether there is a chunk of that era. -/
def thereC (ch : List Ck) (era : Int) : Bool := match ch[posC ch era]? with | some c => decide (c.2 = era) | none => false
set_option maxHeartbeats 1600000 in
theorem bin_any (A : Option Addr) (n c : Nat) (ch : List Ck) (era : Int) (w : World) (h : Sc w A n c ch) (hup : ch.Pairwise (fun x y => x.2 < y.2)) :
    Calls Try.prog 48 #[.slice A n c, .int .i64 era, .func (.func 49) #[] #[]] w fun e w' => e = .returned (.tuple #[.int .i64 (posC ch era : Nat), .bool (thereC ch era)]) ∧ Below w.heap.size w w' := by
  have HH := Lib.hid h
  have HU := Lib.hid hup
  obtain ⟨hlen, hcap, hmax, _⟩ := h
  have HL := Lib.hid hlen
  clear hlen hup
  go_enter Try.func48, Try.ntmps48
  go_wp2_with fail
  go_loopw [9, 10] (fun iv jv wr => ∃ i j : Nat, i ≤ j ∧ j ≤ n ∧ iv = .int .i64 (i : Int) ∧ jv = .int .i64 (j : Int) ∧ (∀ (m : Nat) (x : Ck), m < i → ch[m]? = some x → x.2 < era) ∧ (∀ (m : Nat) (x : Ck), j ≤ m → ch[m]? = some x → era ≤ x.2) ∧ Below w.heap.size w wr) (fun iv jv _ => (intOf jv).toNat - (intOf iv).toNat)
  case atStart => exact ⟨0, n, Nat.zero_le _, Nat.le_refl _, rfl, rfl, fun m x hm => by omega, fun m x hm hx => by have := (List.getElem?_eq_some_iff.1 hx).1; have := HL.out; omega, Below.refl _ _⟩
  case round =>
    obtain ⟨i, j, hij, hjn, rfl, rfl, hlo, hhi, hb⟩ := hrel
    have HLO := Lib.hid hlo
    have HHI := Lib.hid hhi
    clear hlo hhi
    by_cases hlt : i < j
    · obtain ⟨_, _, _, h4⟩ := HH.out.below hb
      obtain ⟨g, o, rfl, hg, hc⟩ := h4 (by omega)
      obtain ⟨k, hk⟩ : ∃ k : Nat, k = (i + j) / 2 := ⟨_, rfl⟩
      obtain ⟨x, hx⟩ : ∃ x, ch[k]? = some x := ⟨_, List.getElem?_eq_getElem (by have := HL.out; omega)⟩
      obtain ⟨c0, c1⟩ := hc k x hx
      obtain ⟨x1, x2⟩ := x
      dsimp only at c0 c1
      have hk1 : k < n := by omega
      have hw1 : IntKind.i64.wrap ((i : Int) + (j : Int)) = (i : Int) + (j : Int) := by rw [IntKind.wrap_i64]; omega
      have HX := Lib.hid hx
      have HK := Lib.hid hk
      have hq : ((i : Int) + (j : Int)) / 2 = (k : Int) := by omega
      have hki : i ≤ k ∧ k < j := by omega
      clear hc h4 hx hk
      go_wp2_with fail
      refine (era_any _ x2 era _).mono ?_
      rintro e w1 ⟨rfl, hb1⟩
      have hw2 : IntKind.i64.wrap ((k : Int) + 1) = (k : Int) + 1 := by rw [IntKind.wrap_i64]; omega
      by_cases hx2 : x2 < era
      · have hc1 : cmpI x2 era < 0 := by rw [cmpI_lt]; exact hx2
        go_wp2_with fail
        go_roundw
        case rel =>
          refine ⟨k + 1, j, by omega, hjn, by simp, rfl, fun m x hm hx => ?_, HHI.out, hb.trans (hb1.mono hb.size)⟩
          rcases Nat.lt_or_ge m k with hmk | hmk
          · have := List.pairwise_iff_getElem.1 HU.out m k (List.getElem?_eq_some_iff.1 hx).1 (List.getElem?_eq_some_iff.1 HX.out).1 hmk
            rw [(List.getElem?_eq_some_iff.1 hx).2, (List.getElem?_eq_some_iff.1 HX.out).2] at this
            dsimp only at this
            omega
          · obtain rfl : m = k := by omega
            rw [HX.out] at hx
            cases hx
            exact hx2
        case measure => simp [intOf]; omega
      · have hc1 : ¬ cmpI x2 era < 0 := by rw [cmpI_lt]; exact hx2
        go_wp2_with fail
        go_roundw
        case rel =>
          refine ⟨i, k, by omega, by omega, rfl, rfl, HLO.out, fun m x hm hx => ?_, hb.trans (hb1.mono hb.size)⟩
          rcases Nat.lt_or_ge k m with hmk | hmk
          · have := List.pairwise_iff_getElem.1 HU.out k m (List.getElem?_eq_some_iff.1 HX.out).1 (List.getElem?_eq_some_iff.1 hx).1 hmk
            rw [(List.getElem?_eq_some_iff.1 hx).2, (List.getElem?_eq_some_iff.1 HX.out).2] at this
            dsimp only at this
            omega
          · obtain rfl : m = k := by omega
            rw [HX.out] at hx
            cases hx
            dsimp only
            omega
        case measure => simp [intOf]; omega
    · obtain rfl : i = j := by omega
      have hp := posC_eq (by have := HL.out; omega) HLO.out (fun c hc => HHI.out i c (Nat.le_refl _) hc)
      by_cases hin : i < n
      · obtain ⟨_, _, _, h4⟩ := HH.out.below hb
        obtain ⟨g, o, rfl, hg, hc⟩ := h4 (by omega)
        obtain ⟨x, hx⟩ : ∃ x, ch[i]? = some x := ⟨_, List.getElem?_eq_getElem (by have := HL.out; omega)⟩
        obtain ⟨c0, c1⟩ := hc i x hx
        obtain ⟨x1, x2⟩ := x
        dsimp only at c0 c1
        have HX := Lib.hid hx
        clear hc h4 hx
        go_wp2_with fail
        refine (era_any _ x2 era _).mono ?_
        rintro e w1 ⟨rfl, hb1⟩
        by_cases hx0 : cmpI x2 era = 0
        · have ht : thereC ch era = true := by unfold thereC; rw [hp, HX.out]; rw [cmpI_eq] at hx0; simp [hx0]
          have HP := Lib.hid hp
          have HT := Lib.hid ht
          clear hp ht
          go_wp2
          go_ret2
          exact ⟨by rw [HP.out, HT.out]; rfl, hb.trans (hb1.mono hb.size)⟩
        · have ht : thereC ch era = false := by unfold thereC; rw [hp, HX.out]; rw [cmpI_eq] at hx0; simp [hx0]
          have HP := Lib.hid hp
          have HT := Lib.hid ht
          clear hp ht
          go_wp2
          go_ret2
          exact ⟨by rw [HP.out, HT.out, show false = (cmpI x2 era == 0) by simp [hx0]]; rfl, hb.trans (hb1.mono hb.size)⟩
      · have ht : thereC ch era = false := by unfold thereC; rw [hp, List.getElem?_eq_none (by have := HL.out; omega)]
        have HP := Lib.hid hp
        have HT := Lib.hid ht
        clear hp ht
        go_wp2
        go_ret2
        exact ⟨by rw [HP.out, HT.out]; rfl, hb⟩
end Go.Proofs.Ytahleoidbnlllaa
