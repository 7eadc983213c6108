/-
  What bags.Bounds and the reference's Bounds answer. For every slice of numbers below 2^64 that can be read.
-/
import Derived.Test.YtjlfmlijifbnaaaGbin
namespace Go.Proofs.Ytjlfmlijifbnaaa
open Go.RowKit
set_option linter.unusedVariables false

/-- Two numbers and an error are answered, and nothing is done but draws. -/
def OutB3 (w : World) (r : Nat × Nat × Nat) : Ending → World → Prop := fun e w' => e = .returned (.tuple #[.int .u64 (r.1 : Nat), .int .u64 (r.2.1 : Nat), .int .i64 (r.2.2 : Nat)]) ∧ ∃ q, w' = w.drewN q
theorem bndM_no {xs : List Nat} {b : Int} (h : ¬ Ris xs) : bndM xs b = (0, 0, 1) := if_neg h
theorem bndM_out {xs : List Nat} {b : Int} (h : Ris xs) (hb : b < 0 ∨ (xs.length : Int) < b) : bndM xs b = (0, 0, 5) := by unfold bndM; rw [if_pos h, if_pos hb]
theorem bndM_zero {xs : List Nat} (h : Ris xs) : bndM xs 0 = (0, if 0 < xs.length then el xs 0 else 18446744073709551615, 0) := by
  unfold bndM; rw [if_pos h, if_neg (by omega), if_neg (by omega)]; simp
theorem bndM_top {xs : List Nat} {k : Nat} (h : Ris xs) (hk : k < xs.length) (he : el xs k = 18446744073709551615) : bndM xs ((k : Int) + 1) = (0, 0, 5) := by
  unfold bndM; rw [if_pos h, if_neg (by omega), if_pos ⟨by omega, by rw [show ((k : Int) + 1).toNat - 1 = k by omega]; exact he⟩]
theorem bndM_some {xs : List Nat} {k : Nat} (h : Ris xs) (hk : k < xs.length) (he : el xs k ≠ 18446744073709551615) : bndM xs ((k : Int) + 1) = (el xs k + 1, if k + 1 < xs.length then el xs (k + 1) else 18446744073709551615, 0) := by
  unfold bndM
  rw [if_pos h, if_neg (by omega), if_neg (by rw [show ((k : Int) + 1).toNat - 1 = k by omega]; exact fun h => he h.2), if_pos (by omega), show ((k : Int) + 1).toNat - 1 = k by omega, show ((k : Int) + 1).toNat = k + 1 by omega]
  by_cases h1 : k + 1 < xs.length
  · rw [if_pos h1, if_pos (by omega)]
  · rw [if_neg h1, if_neg (by omega)]
set_option maxHeartbeats 800000 in
theorem bnd_any (A : Option Addr) (n c : Nat) (xs : List Nat) (b : Int) (w : World) (h : Rk .u64 w A n c xs) (hX : Bl 18446744073709551616 xs) :
    Calls Try.prog 8 #[.slice A n c, .int .i64 b] w (OutB3 w (bndM xs b)) := by
  have hcap := h.cap
  have hmax := h.max
  have hlen := h.len
  have hF := formed_any A n c xs w h hX
  by_cases hr : Ris xs
  · rw [decide_eq_true hr] at hF
    have hn100 : n ≤ 100 := by have := hr.1; omega
    by_cases h1 : b < 0
    · rw [bndM_out hr (.inl h1)]
      clear hr hlen
      go_enter Try.func8, Try.ntmps8
      go_wp2_with fail
      refine hF.mono ?_
      rintro e w1 ⟨rfl, q, rfl⟩
      go_wp2
      go_ret3
      exact ⟨rfl, q, rfl⟩
    · by_cases h2 : (n : Int) < b
      · rw [bndM_out hr (.inr (by omega))]
        clear hr hlen
        go_enter Try.func8, Try.ntmps8
        go_wp2_with fail
        refine hF.mono ?_
        rintro e w1 ⟨rfl, q, rfl⟩
        go_wp2
        go_ret3
        exact ⟨rfl, q, rfl⟩
      · obtain ⟨k, rfl⟩ := Int.eq_ofNat_of_zero_le (show 0 ≤ b by omega)
        rcases Nat.eq_zero_or_pos k with h0 | h0
        · subst h0
          rw [show ((0 : Nat) : Int) = 0 from rfl, bndM_zero hr]
          rcases Nat.eq_zero_or_pos n with hn | hn
          · subst hn
            rw [if_neg (by omega)]
            clear hr hlen
            go_enter Try.func8, Try.ntmps8
            go_wp2_with fail
            refine hF.mono ?_
            rintro e w1 ⟨rfl, q, rfl⟩
            go_wp2
            go_ret3
            exact ⟨rfl, q, rfl⟩
          · obtain ⟨g, o, rfl, hg, hc⟩ := h.at_ hn
            have hc0 := hc 0 hn
            rw [Nat.add_zero] at hc0
            rw [if_pos (by omega)]
            obtain ⟨x, hx⟩ : ∃ x, el xs 0 = x := ⟨_, rfl⟩
            rw [hx] at hc0 ⊢
            clear hc hx hr hlen
            go_enter Try.func8, Try.ntmps8
            go_wp2_with fail
            refine hF.mono ?_
            rintro e w1 ⟨rfl, q, rfl⟩
            replace hc0 : (w.drewN q).cell? _ = _ := hc0
            go_wp2
            go_ret3
            exact ⟨rfl, q, rfl⟩
        · obtain ⟨m, rfl⟩ : ∃ m, k = m + 1 := ⟨k - 1, by omega⟩
          have hm : m < n := by omega
          obtain ⟨g, o, rfl, hg, hc⟩ := h.at_ (by omega)
          have hcm := hc m (by omega)
          have hXm := Bl_el hX (by omega) m
          obtain ⟨x, hx⟩ : ∃ x, el xs m = x := ⟨_, rfl⟩
          by_cases hlt : m + 1 < n
          · have hcn := hc (m + 1) hlt
            obtain ⟨y, hy⟩ : ∃ y, el xs (m + 1) = y := ⟨_, rfl⟩
            by_cases ht : x = 18446744073709551615
            · rw [show ((m + 1 : Nat) : Int) = (m : Int) + 1 from rfl, bndM_top hr (by omega) (hx.trans ht)]
              rw [hx] at hcm hXm
              rw [hy] at hcn
              subst ht
              clear hc hx hr hlen hy
              go_enter Try.func8, Try.ntmps8
              go_wp2_with fail
              refine hF.mono ?_
              rintro e w1 ⟨rfl, q, rfl⟩
              replace hcm : (w.drewN q).cell? _ = _ := hcm
              replace hcn : (w.drewN q).cell? _ = _ := hcn
              go_wp2
              go_ret3
              exact ⟨rfl, q, rfl⟩
            · rw [show ((m + 1 : Nat) : Int) = (m : Int) + 1 from rfl, bndM_some hr (by omega) (by omega), if_pos (by omega)]
              rw [hx] at hcm hXm ⊢
              rw [hy] at hcn ⊢
              have hb : ((x : Int) == 18446744073709551615) = false := by simp; omega
              have hw : IntKind.u64.wrap ((x : Int) + 1) = (x : Int) + 1 := by rw [IntKind.wrap_u64]; omega
              clear hc hx hr hlen hy
              go_enter Try.func8, Try.ntmps8
              go_wp2_with fail
              refine hF.mono ?_
              rintro e w1 ⟨rfl, q, rfl⟩
              replace hcm : (w.drewN q).cell? _ = _ := hcm
              replace hcn : (w.drewN q).cell? _ = _ := hcn
              go_wp2
              go_ret3
              exact ⟨rfl, q, rfl⟩
          · by_cases ht : x = 18446744073709551615
            · rw [show ((m + 1 : Nat) : Int) = (m : Int) + 1 from rfl, bndM_top hr (by omega) (hx.trans ht)]
              rw [hx] at hcm hXm
              subst ht
              clear hc hx hr hlen
              go_enter Try.func8, Try.ntmps8
              go_wp2_with fail
              refine hF.mono ?_
              rintro e w1 ⟨rfl, q, rfl⟩
              replace hcm : (w.drewN q).cell? _ = _ := hcm
              go_wp2
              go_ret3
              exact ⟨rfl, q, rfl⟩
            · rw [show ((m + 1 : Nat) : Int) = (m : Int) + 1 from rfl, bndM_some hr (by omega) (by omega), if_neg (by omega)]
              rw [hx] at hcm hXm ⊢
              have hb : ((x : Int) == 18446744073709551615) = false := by simp; omega
              have hw : IntKind.u64.wrap ((x : Int) + 1) = (x : Int) + 1 := by rw [IntKind.wrap_u64]; omega
              clear hc hx hr hlen
              go_enter Try.func8, Try.ntmps8
              go_wp2_with fail
              refine hF.mono ?_
              rintro e w1 ⟨rfl, q, rfl⟩
              replace hcm : (w.drewN q).cell? _ = _ := hcm
              go_wp2
              go_ret3
              exact ⟨rfl, q, rfl⟩
  · rw [decide_eq_false hr] at hF
    rw [bndM_no hr]
    clear hr hlen
    go_enter Try.func8, Try.ntmps8
    go_wp2_with fail
    refine hF.mono ?_
    rintro e w1 ⟨rfl, q, rfl⟩
    go_wp2
    go_ret3
    exact ⟨rfl, q, rfl⟩
set_option maxHeartbeats 800000 in
theorem rbnd_any (A : Option Addr) (n c : Nat) (xs : List Nat) (b : Int) (w : World) (h : Rk .u64 w A n c xs) (hX : Bl 18446744073709551616 xs) :
    Calls Try.prog 9 #[.slice A n c, .int .i64 b] w (OutB3 w (bndM xs b)) := by
  have hcap := h.cap
  have hmax := h.max
  have hlen := h.len
  have hF := rising_any A n c xs w h hX
  by_cases hr : Ris xs
  · rw [decide_eq_true hr] at hF
    have hn100 : n ≤ 100 := by have := hr.1; omega
    by_cases h1 : b < 0
    · rw [bndM_out hr (.inl h1)]
      clear hr hlen
      go_enter Try.func9, Try.ntmps9
      go_wp2_with fail
      refine hF.mono ?_
      rintro e w1 ⟨rfl, q, rfl⟩
      go_wp2
      go_ret3
      exact ⟨rfl, q, rfl⟩
    · by_cases h2 : (n : Int) < b
      · rw [bndM_out hr (.inr (by omega))]
        clear hr hlen
        go_enter Try.func9, Try.ntmps9
        go_wp2_with fail
        refine hF.mono ?_
        rintro e w1 ⟨rfl, q, rfl⟩
        go_wp2
        go_ret3
        exact ⟨rfl, q, rfl⟩
      · obtain ⟨k, rfl⟩ := Int.eq_ofNat_of_zero_le (show 0 ≤ b by omega)
        rcases Nat.eq_zero_or_pos k with h0 | h0
        · subst h0
          rw [show ((0 : Nat) : Int) = 0 from rfl, bndM_zero hr]
          rcases Nat.eq_zero_or_pos n with hn | hn
          · subst hn
            rw [if_neg (by omega)]
            clear hr hlen
            go_enter Try.func9, Try.ntmps9
            go_wp2_with fail
            refine hF.mono ?_
            rintro e w1 ⟨rfl, q, rfl⟩
            go_wp2
            go_ret3
            exact ⟨rfl, q, rfl⟩
          · obtain ⟨g, o, rfl, hg, hc⟩ := h.at_ hn
            have hc0 := hc 0 hn
            rw [Nat.add_zero] at hc0
            rw [if_pos (by omega)]
            obtain ⟨x, hx⟩ : ∃ x, el xs 0 = x := ⟨_, rfl⟩
            rw [hx] at hc0 ⊢
            clear hc hx hr hlen
            go_enter Try.func9, Try.ntmps9
            go_wp2_with fail
            refine hF.mono ?_
            rintro e w1 ⟨rfl, q, rfl⟩
            replace hc0 : (w.drewN q).cell? _ = _ := hc0
            go_wp2
            go_ret3
            exact ⟨rfl, q, rfl⟩
        · obtain ⟨m, rfl⟩ : ∃ m, k = m + 1 := ⟨k - 1, by omega⟩
          have hm : m < n := by omega
          obtain ⟨g, o, rfl, hg, hc⟩ := h.at_ (by omega)
          have hcm := hc m (by omega)
          have hXm := Bl_el hX (by omega) m
          obtain ⟨x, hx⟩ : ∃ x, el xs m = x := ⟨_, rfl⟩
          by_cases hlt : m + 1 < n
          · have hcn := hc (m + 1) hlt
            obtain ⟨y, hy⟩ : ∃ y, el xs (m + 1) = y := ⟨_, rfl⟩
            by_cases ht : x = 18446744073709551615
            · rw [show ((m + 1 : Nat) : Int) = (m : Int) + 1 from rfl, bndM_top hr (by omega) (hx.trans ht)]
              rw [hx] at hcm hXm
              rw [hy] at hcn
              subst ht
              clear hc hx hr hlen hy
              go_enter Try.func9, Try.ntmps9
              go_wp2_with fail
              refine hF.mono ?_
              rintro e w1 ⟨rfl, q, rfl⟩
              replace hcm : (w.drewN q).cell? _ = _ := hcm
              replace hcn : (w.drewN q).cell? _ = _ := hcn
              go_wp2
              go_ret3
              exact ⟨rfl, q, rfl⟩
            · rw [show ((m + 1 : Nat) : Int) = (m : Int) + 1 from rfl, bndM_some hr (by omega) (by omega), if_pos (by omega)]
              rw [hx] at hcm hXm ⊢
              rw [hy] at hcn ⊢
              have hb : ((x : Int) == 18446744073709551615) = false := by simp; omega
              have hw : IntKind.u64.wrap ((x : Int) + 1) = (x : Int) + 1 := by rw [IntKind.wrap_u64]; omega
              clear hc hx hr hlen hy
              go_enter Try.func9, Try.ntmps9
              go_wp2_with fail
              refine hF.mono ?_
              rintro e w1 ⟨rfl, q, rfl⟩
              replace hcm : (w.drewN q).cell? _ = _ := hcm
              replace hcn : (w.drewN q).cell? _ = _ := hcn
              go_wp2
              go_ret3
              exact ⟨rfl, q, rfl⟩
          · by_cases ht : x = 18446744073709551615
            · rw [show ((m + 1 : Nat) : Int) = (m : Int) + 1 from rfl, bndM_top hr (by omega) (hx.trans ht)]
              rw [hx] at hcm hXm
              subst ht
              clear hc hx hr hlen
              go_enter Try.func9, Try.ntmps9
              go_wp2_with fail
              refine hF.mono ?_
              rintro e w1 ⟨rfl, q, rfl⟩
              replace hcm : (w.drewN q).cell? _ = _ := hcm
              go_wp2
              go_ret3
              exact ⟨rfl, q, rfl⟩
            · rw [show ((m + 1 : Nat) : Int) = (m : Int) + 1 from rfl, bndM_some hr (by omega) (by omega), if_neg (by omega)]
              rw [hx] at hcm hXm ⊢
              have hb : ((x : Int) == 18446744073709551615) = false := by simp; omega
              have hw : IntKind.u64.wrap ((x : Int) + 1) = (x : Int) + 1 := by rw [IntKind.wrap_u64]; omega
              clear hc hx hr hlen
              go_enter Try.func9, Try.ntmps9
              go_wp2_with fail
              refine hF.mono ?_
              rintro e w1 ⟨rfl, q, rfl⟩
              replace hcm : (w.drewN q).cell? _ = _ := hcm
              go_wp2
              go_ret3
              exact ⟨rfl, q, rfl⟩
  · rw [decide_eq_false hr] at hF
    rw [bndM_no hr]
    clear hr hlen
    go_enter Try.func9, Try.ntmps9
    go_wp2_with fail
    refine hF.mono ?_
    rintro e w1 ⟨rfl, q, rfl⟩
    go_wp2
    go_ret3
    exact ⟨rfl, q, rfl⟩
end Go.Proofs.Ytjlfmlijifbnaaa
