/-
  What the law's own awake and few do: awake answers true; few tells whether slices have at most 410 limbs. For slices that can be read.
-/
import Derived.Test.YtggfkcdogjebcaaSmall
namespace Go.Proofs.Ytggfkcdogjebcaa
open Go.RowKit

theorem digs_one : digs 1 = [1] := by rw [digs_pos (by omega)]; simp [digs_zero]
theorem digs_low : digs 4294967295 = [4294967295] := by rw [digs_pos (by omega)]; simp [digs_zero]
theorem digs_high : digs 4294967296 = [0, 1] := by rw [digs_pos (by omega)]; simp [digs_one]
theorem add_awake : addR (digs 4294967295) (digs 1) = ([0, 1], 0) := by
  have e : val (digs 4294967295) + val (digs 1) = 4294967296 := by rw [val_digs, val_digs]
  unfold addR
  rw [e, digs_high, digs_low, digs_one]; rfl

set_option maxHeartbeats 400000 in
theorem awake_any (w : World) : Calls Try.prog 11 #[] w fun e w' => e = .returned (.bool true) ∧ Below w.heap.size w w' := by
  go_enter Try.func11, Try.ntmps11
  go_wp2_with fail
  refine (of_any 4294967295 _ (by omega)).mono ?_
  rintro e w1 ⟨A, n, c, rfl, h1, hb1⟩
  go_wp2_with fail
  refine (of_any 1 _ (by omega)).mono ?_
  rintro e w2 ⟨B, m, d, rfl, h2, hb2⟩
  go_wp2_with fail
  refine (add_any A B n c m d _ _ _ (h1.1.below hb2) h2.1).mono ?_
  rw [add_awake]
  rintro e w3 ⟨R, k, cr, rfl, hN, hb3⟩
  have hk : Hid (2 = k) := hN.1.len
  obtain rfl := hk.out
  obtain ⟨b, o, rfl, _, hc⟩ := hN.1.at_ (by omega)
  have hc1 : w3.cell? ⟨b, o + 1, none⟩ = some (.int .u32 1) := hc 1 (by omega)
  have HB := Lib.hid ((hb1.trans (hb2.mono hb1.size)).trans (hb3.mono (Nat.le_trans hb1.size hb2.size)))
  clear hc hk hb1 hb2 hb3 h1 h2 hN
  go_wp2
  go_ret
  exact ⟨rfl, HB.out⟩

set_option maxHeartbeats 400000 in
/-- few, where each slice has at most 410. -/
theorem few_yes (b N : Nat) (f : Nat → Nat) (w : World) (hN : N ≤ 1000) (h : ∀ j, j < N → ∃ A c, w.cell? ⟨b, j, none⟩ = some (.slice A (f j) c)) (hf : ∀ j, j < N → f j ≤ 410) :
    Calls Try.prog 12 #[.slice (some ⟨b, 0, none⟩) N N] w fun e w' => e = .returned (.bool true) ∧ w = w' := by
  have HH := Lib.hid h
  have HF := Lib.hid hf
  clear h hf
  go_enter Try.func12, Try.ntmps12
  go_wp2
  go_loop [6] (fun t => ∃ k : Nat, k ≤ N ∧ t = .int .i64 k) (fun t => N - (intOf t).toNat)
  case atStart => exact ⟨0, Nat.zero_le _, rfl⟩
  case round =>
    obtain ⟨k, hk, rfl⟩ := hrel
    by_cases hlt : k < N
    · obtain ⟨A, c, hc⟩ := HH.out k hlt
      have hle := HF.out k hlt
      go_wp2
      go_round
      case rel => exact ⟨k + 1, by omega, by go_num⟩
      case measure => simp [intOf]; omega
    · go_wp2
      go_ret
      exact ⟨rfl, rfl⟩
set_option maxHeartbeats 400000 in
/-- few, where one slice has more than 410. -/
theorem few_no (b N : Nat) (f : Nat → Nat) (w : World) (hN : N ≤ 1000) (h : ∀ j, j < N → ∃ A c, w.cell? ⟨b, j, none⟩ = some (.slice A (f j) c)) (j0 : Nat) (hj0 : j0 < N) (hf : 410 < f j0) (hm : ∀ j, j < N → f j ≤ 9223372036854775807) :
    Calls Try.prog 12 #[.slice (some ⟨b, 0, none⟩) N N] w fun e w' => e = .returned (.bool false) ∧ w = w' := by
  have HH := Lib.hid h
  have HF := Lib.hid hf
  have HM := Lib.hid hm
  clear h hf hm
  go_enter Try.func12, Try.ntmps12
  go_wp2
  go_loop [6] (fun t => ∃ k : Nat, k ≤ j0 ∧ t = .int .i64 k) (fun t => N - (intOf t).toNat)
  case atStart => exact ⟨0, Nat.zero_le _, rfl⟩
  case round =>
    obtain ⟨k, hk, rfl⟩ := hrel
    obtain ⟨A, c, hc⟩ := HH.out k (by omega)
    have hmx := HM.out k (by omega)
    by_cases hle : f k ≤ 410
    · have hlt : k < j0 := by
        rcases Nat.eq_or_lt_of_le hk with e | e
        · subst e; have := HF.out; omega
        · exact e
      go_wp2
      go_round
      case rel => exact ⟨k + 1, by omega, by go_num⟩
      case measure => simp [intOf]; omega
    · go_wp2
      go_ret
      exact ⟨rfl, rfl⟩
/-- few at one, two, three slices that were just laid side by side. -/
theorem few_cells (w : World) (vs : Array Value) (f : Nat → Nat) (N : Nat) (h : ∀ j, j < N → ∃ A c, vs[j]? = some (.slice A (f j) c)) :
    ∀ j, j < N → ∃ A c, (w.alloc (.cells vs 22)).cell? ⟨w.heap.size, j, none⟩ = some (.slice A (f j) c) := fun j hj => by
  obtain ⟨A, c, e⟩ := h j hj
  exact ⟨A, c, (cell_of_row _ w.heap.size j vs 22 (0, 0) (heap_alloc_new w _)).trans e⟩
theorem few1_yes (A : Option Addr) (n c : Nat) (w : World) (h : n ≤ 410) :
    Calls Try.prog 12 #[.slice (some ⟨w.heap.size, 0, none⟩) 1 1] (w.alloc (.cells #[.slice A n c] 22)) fun e w' => e = .returned (.bool true) ∧ Below w.heap.size w w' :=
  (few_yes w.heap.size 1 (fun _ => n) _ (by omega) (few_cells w _ _ 1 fun j hj => by obtain rfl : j = 0 := by omega
                                                                                     exact ⟨A, c, rfl⟩) (fun _ _ => h)).mono
    fun e w' hh => ⟨hh.1, hh.2 ▸ (Below.refl _ _).alloc (Nat.le_refl _) _⟩
theorem few1_no (A : Option Addr) (n c : Nat) (w : World) (h : 410 < n) (hm : n ≤ 9223372036854775807) :
    Calls Try.prog 12 #[.slice (some ⟨w.heap.size, 0, none⟩) 1 1] (w.alloc (.cells #[.slice A n c] 22)) fun e w' => e = .returned (.bool false) ∧ Below w.heap.size w w' :=
  (few_no w.heap.size 1 (fun _ => n) _ (by omega) (few_cells w _ _ 1 fun j hj => by obtain rfl : j = 0 := by omega
                                                                                    exact ⟨A, c, rfl⟩) 0 (by omega) h (fun _ _ => hm)).mono
    fun e w' hh => ⟨hh.1, hh.2 ▸ (Below.refl _ _).alloc (Nat.le_refl _) _⟩
theorem few2_yes (A B : Option Addr) (n c m d : Nat) (w : World) (h : n ≤ 410) (h' : m ≤ 410) :
    Calls Try.prog 12 #[.slice (some ⟨w.heap.size, 0, none⟩) 2 2] (w.alloc (.cells #[.slice A n c, .slice B m d] 22)) fun e w' => e = .returned (.bool true) ∧ Below w.heap.size w w' :=
  (few_yes w.heap.size 2 (fun j => if j = 0 then n else m) _ (by omega) (few_cells w _ _ 2 fun j hj => by
      match j, hj with
      | 0, _ => exact ⟨A, c, rfl⟩
      | 1, _ => exact ⟨B, d, rfl⟩) (fun j _ => by split <;> assumption)).mono
    fun e w' hh => ⟨hh.1, hh.2 ▸ (Below.refl _ _).alloc (Nat.le_refl _) _⟩
theorem few2_no (A B : Option Addr) (n c m d : Nat) (w : World) (h : 410 < n ∨ 410 < m) (hn : n ≤ 9223372036854775807) (hm : m ≤ 9223372036854775807) :
    Calls Try.prog 12 #[.slice (some ⟨w.heap.size, 0, none⟩) 2 2] (w.alloc (.cells #[.slice A n c, .slice B m d] 22)) fun e w' => e = .returned (.bool false) ∧ Below w.heap.size w w' := by
  have hc := few_cells w #[.slice A n c, .slice B m d] (fun j => if j = 0 then n else m) 2 fun j hj => by
      match j, hj with
      | 0, _ => exact ⟨A, c, rfl⟩
      | 1, _ => exact ⟨B, d, rfl⟩
  have hmx : ∀ j, j < 2 → (if j = 0 then n else m) ≤ 9223372036854775807 := fun j _ => by split <;> assumption
  rcases h with h | h
  · exact (few_no w.heap.size 2 _ _ (by omega) hc 0 (by omega) h hmx).mono fun e w' hh => ⟨hh.1, hh.2 ▸ (Below.refl _ _).alloc (Nat.le_refl _) _⟩
  · exact (few_no w.heap.size 2 _ _ (by omega) hc 1 (by omega) h hmx).mono fun e w' hh => ⟨hh.1, hh.2 ▸ (Below.refl _ _).alloc (Nat.le_refl _) _⟩
theorem few3_yes (A B C : Option Addr) (n c m d l f : Nat) (w : World) (h : n ≤ 410) (h' : m ≤ 410) (h'' : l ≤ 410) :
    Calls Try.prog 12 #[.slice (some ⟨w.heap.size, 0, none⟩) 3 3] (w.alloc (.cells #[.slice A n c, .slice B m d, .slice C l f] 22)) fun e w' => e = .returned (.bool true) ∧ Below w.heap.size w w' :=
  (few_yes w.heap.size 3 (fun j => if j = 0 then n else if j = 1 then m else l) _ (by omega) (few_cells w _ _ 3 fun j hj => by
      match j, hj with
      | 0, _ => exact ⟨A, c, rfl⟩
      | 1, _ => exact ⟨B, d, rfl⟩
      | 2, _ => exact ⟨C, f, rfl⟩) (fun j _ => by split <;> try split
                                                  all_goals assumption)).mono
    fun e w' hh => ⟨hh.1, hh.2 ▸ (Below.refl _ _).alloc (Nat.le_refl _) _⟩
theorem few3_no (A B C : Option Addr) (n c m d l f : Nat) (w : World) (h : 410 < n ∨ 410 < m ∨ 410 < l) (hn : n ≤ 9223372036854775807) (hm : m ≤ 9223372036854775807) (hl : l ≤ 9223372036854775807) :
    Calls Try.prog 12 #[.slice (some ⟨w.heap.size, 0, none⟩) 3 3] (w.alloc (.cells #[.slice A n c, .slice B m d, .slice C l f] 22)) fun e w' => e = .returned (.bool false) ∧ Below w.heap.size w w' := by
  have hc := few_cells w #[.slice A n c, .slice B m d, .slice C l f] (fun j => if j = 0 then n else if j = 1 then m else l) 3 fun j hj => by
      match j, hj with
      | 0, _ => exact ⟨A, c, rfl⟩
      | 1, _ => exact ⟨B, d, rfl⟩
      | 2, _ => exact ⟨C, f, rfl⟩
  have hmx : ∀ j, j < 3 → (if j = 0 then n else if j = 1 then m else l) ≤ 9223372036854775807 := fun j _ => by
    split <;> try split
    all_goals assumption
  rcases h with h | h | h
  · exact (few_no w.heap.size 3 _ _ (by omega) hc 0 (by omega) h hmx).mono fun e w' hh => ⟨hh.1, hh.2 ▸ (Below.refl _ _).alloc (Nat.le_refl _) _⟩
  · exact (few_no w.heap.size 3 _ _ (by omega) hc 1 (by omega) h hmx).mono fun e w' hh => ⟨hh.1, hh.2 ▸ (Below.refl _ _).alloc (Nat.le_refl _) _⟩
  · exact (few_no w.heap.size 3 _ _ (by omega) hc 2 (by omega) h hmx).mono fun e w' hh => ⟨hh.1, hh.2 ▸ (Below.refl _ _).alloc (Nat.le_refl _) _⟩
end Go.Proofs.Ytggfkcdogjebcaa
