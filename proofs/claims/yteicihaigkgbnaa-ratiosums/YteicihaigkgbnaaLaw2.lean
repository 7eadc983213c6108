/-
  What the law's own awake, Few, Theirs, Ours and Same do: awake answers true; Few tells whether fractions have at most 24 limbs; Same is true of fractions that read alike. For fractions that can be read.
-/
import Derived.Test.YteicihaigkgbnaaRefr
import Derived.Deep.RegionHeld3
namespace Go.Proofs.Yteicihaigkgbnaa
open Go.RowKit

theorem digs_two' : digs 2 = [2] := by rw [digs_pos (by omega)]; simp [digs_zero]
theorem digs_three : digs 3 = [3] := by rw [digs_pos (by omega)]; simp [digs_zero]
theorem mk_awake : mkR (digs 6) (digs 4) = ([3], [2], 0) := by
  rw [mkR_digs (Nat.le_trans (len64 (by omega)) (by omega)) (Nat.le_trans (len64 (by omega)) (by omega)) (by omega)]
  have e : Nat.gcd 6 4 = 2 := by decide
  rw [e, show 6 / 2 = 3 from rfl, show 4 / 2 = 2 from rfl, digs_two', digs_three]

set_option maxHeartbeats 800000 in
theorem awake2_any (w : World) : Calls Try.prog 8 #[] w fun e w' => e = .returned (.bool true) ∧ Below w.heap.size w w' := by
  go_enter Try.func8, Try.ntmps8
  go_wp2_with fail
  refine (qof_any 6 4 _ (by omega) (by omega)).mono ?_
  rw [mk_awake]
  rintro e w1 ⟨A, n, c, B, m, d, rfl, h1, h2, hb1⟩
  have hk : Hid (1 = n) := h1.1.len
  obtain rfl := hk.out
  obtain ⟨b, o, rfl, hbs, hc⟩ := h1.1.at_ (by omega)
  have hc1 : w1.cell? ⟨b, o + 0, none⟩ = some (.int .u32 3) := hc 0 (by omega)
  rw [Nat.add_zero] at hc1
  have HB := Lib.hid (hb1.alloc hb1.size (.cells #[.slice (some ⟨b, o, none⟩) 1 c, .slice B m d] 31))
  clear hc hk h1 h2
  go_wp2
  go_ret
  exact ⟨rfl, HB.out⟩

set_option maxHeartbeats 800000 in
/-- Theirs. -/
theorem theirs_any (A B : Option Addr) (n c m d : Nat) (w : World) :
    Calls Try.prog 16 #[.agg #[.slice A n c, .slice B m d]] w fun e w' => e = .returned (.agg #[.slice A n c, .slice B m d]) ∧ Below w.heap.size w w' := by
  obtain ⟨hB1, hB2, hb0, hs0⟩ := boxes2 w 25 31 (.slice A n c) (.slice B m d) (.slice A n c) (.slice B m d)
  clear hB1 hB2 hs0
  go_enter Try.func16, Try.ntmps16
  go_wp2
  refine bodyPost_ret (v := .agg #[.slice A n c, .slice B m d]) (by simp [results, Try.results16, go_sem]) rfl ?_
  exact ⟨rfl, hb0⟩
set_option maxHeartbeats 800000 in
/-- Ours. -/
theorem ours_any (A B : Option Addr) (n c m d : Nat) (w : World) :
    Calls Try.prog 40 #[.agg #[.slice A n c, .slice B m d]] w fun e w' => e = .returned (.agg #[.slice A n c, .slice B m d]) ∧ Below w.heap.size w w' := by
  obtain ⟨hB1, hB2, hb0, hs0⟩ := boxes2 w 31 25 (.slice A n c) (.slice B m d) (.slice A n c) (.slice B m d)
  clear hB1 hB2 hs0
  go_enter Try.func40, Try.ntmps40
  go_wp2
  refine bodyPost_ret (v := .agg #[.slice A n c, .slice B m d]) (by simp [results, Try.results40, go_sem]) rfl ?_
  exact ⟨rfl, hb0⟩

section
variable (A B C D : Option Addr) (n c m d n' c' m' d' : Nat) (xs ys : List Nat) (w : World)
set_option maxHeartbeats 1600000 in
/-- Same, of fractions that read alike. -/
theorem same2_yes (ha : Rd w A n c xs) (hb : Rd w B m d ys) (hc : Rd w C n' c' xs) (hd : Rd w D m' d' ys) :
    Calls Try.prog 13 #[.agg #[.slice A n c, .slice B m d], .agg #[.slice C n' c', .slice D m' d']] w fun e w' => e = .returned (.bool true) ∧ Below w.heap.size w w' := by
  obtain ⟨hB1, hB2, hb0, hs0⟩ := boxes2 w 31 25 (.slice A n c) (.slice B m d) (.slice C n' c') (.slice D m' d')
  go_enter Try.func13, Try.ntmps13
  go_wp2
  generalize (w.alloc (Obj.cells #[Value.slice A n c, Value.slice B m d] 31)).alloc (Obj.cells #[Value.slice C n' c', Value.slice D m' d'] 25) = W0 at *
  have hlt := hB2.lt
  have K0 : W0.cell? ⟨w.heap.size, 0, none⟩ = some (.slice A n c) ∧ W0.cell? ⟨w.heap.size, 1, none⟩ = some (.slice B m d) ∧ W0.cell? ⟨w.heap.size + 1, 0, none⟩ = some (.slice C n' c') ∧ W0.cell? ⟨w.heap.size + 1, 1, none⟩ = some (.slice D m' d') := ⟨hB1.cells.1, hB1.cells.2, hB2.cells.1, hB2.cells.2⟩
  have haW := ha.below hb0
  have hbW := hb.below hb0
  have hcW := hc.below hb0
  have hdW := hd.below hb0
  go_region_held3 (fun W => W.cell? ⟨w.heap.size, 0, none⟩ = some (.slice A n c) ∧ W.cell? ⟨w.heap.size, 1, none⟩ = some (.slice B m d) ∧ W.cell? ⟨w.heap.size + 1, 0, none⟩ = some (.slice C n' c') ∧ W.cell? ⟨w.heap.size + 1, 1, none⟩ = some (.slice D m' d'))
    (first | exact K0 | exact K1 | exact K2)
    (first
      | (go_at_call 40; (with_reducible refine (ours_any _ _ _ _ _ _ _).mono ?_); rintro e w1 ⟨rfl, hb1⟩; have hb1' : Below W0.heap.size W0 w1 := ⟨hb1.os, hb1.tape, hb1.output, hb1.size, hb1.block⟩; have K1 : w1.cell? ⟨w.heap.size, 0, none⟩ = some (.slice A n c) ∧ w1.cell? ⟨w.heap.size, 1, none⟩ = some (.slice B m d) ∧ w1.cell? ⟨w.heap.size + 1, 0, none⟩ = some (.slice C n' c') ∧ w1.cell? ⟨w.heap.size + 1, 1, none⟩ = some (.slice D m' d') := ⟨(hB1.below hb1' (by omega)).cells.1, (hB1.below hb1' (by omega)).cells.2, (hB2.below hb1' (by omega)).cells.1, (hB2.below hb1' (by omega)).cells.2⟩)
      | (go_at_call 39; (with_reducible refine (sameR_yes _ _ _ _ _ _ _ _ _ _ _ _ xs ys _ ?_ ?_ ?_ ?_).mono ?_); exact haW.below hb1'; exact hbW.below hb1'; exact hcW.below hb1'; exact hdW.below hb1'; rintro e w2 ⟨rfl, hb2⟩; have K2 : w2.cell? ⟨w.heap.size, 0, none⟩ = some (.slice A n c) ∧ w2.cell? ⟨w.heap.size, 1, none⟩ = some (.slice B m d) ∧ w2.cell? ⟨w.heap.size + 1, 0, none⟩ = some (.slice C n' c') ∧ w2.cell? ⟨w.heap.size + 1, 1, none⟩ = some (.slice D m' d') := ⟨((hB1.below hb1' (by omega)).below hb2 (by have := hb1'.size; omega)).cells.1, ((hB1.below hb1' (by omega)).below hb2 (by have := hb1'.size; omega)).cells.2, ((hB2.below hb1' (by omega)).below hb2 (by have := hb1'.size; omega)).cells.1, ((hB2.below hb1' (by omega)).below hb2 (by have := hb1'.size; omega)).cells.2⟩))
  all_goals
    have HF := Lib.hid ((hb0.trans (hb1'.mono hb0.size)).trans (hb2.mono (Nat.le_trans hb0.size hb1'.size)))
    go_wp2
    go_ret
    exact ⟨rfl, HF.out⟩
end
set_option maxHeartbeats 800000 in
/-- Few, where all have at most 24 limbs. -/
theorem Few_yes (b N : Nat) (f g : Nat → Nat) (w : World) (hN : N ≤ 1000) (h : ∀ j, j < N → ∃ A c B d, w.cell? ⟨b, j * 2, none⟩ = some (.slice A (f j) c) ∧ w.cell? ⟨b, j * 2 + 1, none⟩ = some (.slice B (g j) d)) (hf : ∀ j, j < N → f j ≤ 24 ∧ g j ≤ 24) :
    Calls Try.prog 9 #[.slice (some ⟨b, 0, none⟩) N N] w fun e w' => e = .returned (.bool true) ∧ w = w' := by
  have HH := Lib.hid h
  have HF := Lib.hid hf
  clear h hf
  go_enter Try.func9, Try.ntmps9
  go_wp2
  go_loop [6] (fun t => ∃ k : Nat, k ≤ N ∧ t = .int .i64 k) (fun t => N - (intOf t).toNat)
  case atStart => exact ⟨0, Nat.zero_le _, rfl⟩
  case round =>
    obtain ⟨k, hk, rfl⟩ := hrel
    by_cases hlt : k < N
    · obtain ⟨A, c, B, d, hc, hd⟩ := HH.out k hlt
      obtain ⟨hle1, hle2⟩ := HF.out k hlt
      have e1 : decide (24 < (f k : Int)) = false := by simp; omega
      have e2 : decide (24 < (g k : Int)) = false := by simp; omega
      go_wp2
      go_round
      case rel => exact ⟨k + 1, by omega, by go_num⟩
      case measure => simp [intOf]; omega
    · go_wp2
      go_ret
      exact ⟨rfl, rfl⟩
set_option maxHeartbeats 800000 in
/-- Few, where one has more than 24 limbs. -/
theorem Few_no (b N : Nat) (f g : Nat → Nat) (w : World) (hN : N ≤ 1000) (h : ∀ j, j < N → ∃ A c B d, w.cell? ⟨b, j * 2, none⟩ = some (.slice A (f j) c) ∧ w.cell? ⟨b, j * 2 + 1, none⟩ = some (.slice B (g j) d)) (j0 : Nat) (hj0 : j0 < N) (hf : 24 < f j0 ∨ 24 < g j0) (hm : ∀ j, j < N → f j ≤ 9223372036854775807 ∧ g j ≤ 9223372036854775807) :
    Calls Try.prog 9 #[.slice (some ⟨b, 0, none⟩) N N] w fun e w' => e = .returned (.bool false) ∧ w = w' := by
  have HH := Lib.hid h
  have HF := Lib.hid hf
  have HM := Lib.hid hm
  clear h hf hm
  go_enter Try.func9, Try.ntmps9
  go_wp2
  go_loop [6] (fun t => ∃ k : Nat, k ≤ j0 ∧ t = .int .i64 k) (fun t => N - (intOf t).toNat)
  case atStart => exact ⟨0, Nat.zero_le _, rfl⟩
  case round =>
    obtain ⟨k, hk, rfl⟩ := hrel
    obtain ⟨A, c, B, d, hc, hd⟩ := HH.out k (by omega)
    obtain ⟨hm1, hm2⟩ := HM.out k (by omega)
    by_cases hle : f k ≤ 24
    · have e1 : decide (24 < (f k : Int)) = false := by simp; omega
      by_cases hle2 : g k ≤ 24
      · have e2 : decide (24 < (g k : Int)) = false := by simp; omega
        have hlt : k < j0 := by
          rcases Nat.eq_or_lt_of_le hk with e | e
          · subst e; have := HF.out; omega
          · exact e
        go_wp2
        go_round
        case rel => exact ⟨k + 1, by omega, by go_num⟩
        case measure => simp [intOf]; omega
      · have e2 : 24 < (g k : Int) := by omega
        go_wp2
        go_ret
        exact ⟨rfl, rfl⟩
    · have e1 : 24 < (f k : Int) := by omega
      go_wp2
      go_ret
      exact ⟨rfl, rfl⟩
section
variable (A B C D : Option Addr) (n c m d n' c' m' d' : Nat) (w : World)
theorem Few1_cells : ∀ j, j < 1 → ∃ A' c₁ B' d₁, (w.alloc (.cells #[.slice A n c, .slice B m d] 25)).cell? ⟨w.heap.size, j * 2, none⟩ = some (.slice A' n c₁) ∧ (w.alloc (.cells #[.slice A n c, .slice B m d] 25)).cell? ⟨w.heap.size, j * 2 + 1, none⟩ = some (.slice B' m d₁) := fun j hj => by
  obtain rfl : j = 0 := by omega
  exact ⟨A, c, B, d, cell_of_row _ _ 0 _ _ (0, 0) (heap_alloc_new w _), cell_of_row _ _ 1 _ _ (0, 0) (heap_alloc_new w _)⟩
theorem Few1_yes (h : n ≤ 24) (h' : m ≤ 24) :
    Calls Try.prog 9 #[.slice (some ⟨w.heap.size, 0, none⟩) 1 1] (w.alloc (.cells #[.slice A n c, .slice B m d] 25)) fun e w' => e = .returned (.bool true) ∧ Below w.heap.size w w' :=
  (Few_yes w.heap.size 1 (fun _ => n) (fun _ => m) _ (by omega) (Few1_cells A B n c m d w) (fun _ _ => ⟨h, h'⟩)).mono
    fun e w' hh => ⟨hh.1, hh.2 ▸ (Below.refl _ _).alloc (Nat.le_refl _) _⟩
theorem Few1_no (h : 24 < n ∨ 24 < m) (hn : n ≤ 9223372036854775807) (hm : m ≤ 9223372036854775807) :
    Calls Try.prog 9 #[.slice (some ⟨w.heap.size, 0, none⟩) 1 1] (w.alloc (.cells #[.slice A n c, .slice B m d] 25)) fun e w' => e = .returned (.bool false) ∧ Below w.heap.size w w' :=
  (Few_no w.heap.size 1 (fun _ => n) (fun _ => m) _ (by omega) (Few1_cells A B n c m d w) 0 (by omega) h (fun _ _ => ⟨hn, hm⟩)).mono
    fun e w' hh => ⟨hh.1, hh.2 ▸ (Below.refl _ _).alloc (Nat.le_refl _) _⟩
theorem Few2_cells : ∀ j, j < 2 → ∃ A' c₁ B' d₁, (w.alloc (.cells #[.slice A n c, .slice B m d, .slice C n' c', .slice D m' d'] 25)).cell? ⟨w.heap.size, j * 2, none⟩ = some (.slice A' (if j = 0 then n else n') c₁) ∧
    (w.alloc (.cells #[.slice A n c, .slice B m d, .slice C n' c', .slice D m' d'] 25)).cell? ⟨w.heap.size, j * 2 + 1, none⟩ = some (.slice B' (if j = 0 then m else m') d₁) := fun j hj => by
  match j, hj with
  | 0, _ => exact ⟨A, c, B, d, cell_of_row _ _ 0 _ _ (0, 0) (heap_alloc_new w _), cell_of_row _ _ 1 _ _ (0, 0) (heap_alloc_new w _)⟩
  | 1, _ => exact ⟨C, c', D, d', cell_of_row _ _ 2 _ _ (0, 0) (heap_alloc_new w _), cell_of_row _ _ 3 _ _ (0, 0) (heap_alloc_new w _)⟩
theorem Few2_yes (h1 : n ≤ 24) (h2 : m ≤ 24) (h3 : n' ≤ 24) (h4 : m' ≤ 24) :
    Calls Try.prog 9 #[.slice (some ⟨w.heap.size, 0, none⟩) 2 2] (w.alloc (.cells #[.slice A n c, .slice B m d, .slice C n' c', .slice D m' d'] 25)) fun e w' => e = .returned (.bool true) ∧ Below w.heap.size w w' :=
  (Few_yes w.heap.size 2 (fun j => if j = 0 then n else n') (fun j => if j = 0 then m else m') _ (by omega) (Few2_cells A B C D n c m d n' c' m' d' w) (fun j _ => ⟨by split <;> assumption, by split <;> assumption⟩)).mono
    fun e w' hh => ⟨hh.1, hh.2 ▸ (Below.refl _ _).alloc (Nat.le_refl _) _⟩
theorem Few2_no (h : 24 < n ∨ 24 < m ∨ 24 < n' ∨ 24 < m') (h1 : n ≤ 9223372036854775807) (h2 : m ≤ 9223372036854775807) (h3 : n' ≤ 9223372036854775807) (h4 : m' ≤ 9223372036854775807) :
    Calls Try.prog 9 #[.slice (some ⟨w.heap.size, 0, none⟩) 2 2] (w.alloc (.cells #[.slice A n c, .slice B m d, .slice C n' c', .slice D m' d'] 25)) fun e w' => e = .returned (.bool false) ∧ Below w.heap.size w w' := by
  have hmx : ∀ j, j < 2 → (if j = 0 then n else n') ≤ 9223372036854775807 ∧ (if j = 0 then m else m') ≤ 9223372036854775807 := fun j _ => ⟨by split <;> assumption, by split <;> assumption⟩
  by_cases h0 : 24 < n ∨ 24 < m
  · exact (Few_no w.heap.size 2 (fun j => if j = 0 then n else n') (fun j => if j = 0 then m else m') _ (by omega) (Few2_cells A B C D n c m d n' c' m' d' w) 0 (by omega) h0 hmx).mono fun e w' hh => ⟨hh.1, hh.2 ▸ (Below.refl _ _).alloc (Nat.le_refl _) _⟩
  · have h5 : 24 < n' ∨ 24 < m' := by omega
    exact (Few_no w.heap.size 2 (fun j => if j = 0 then n else n') (fun j => if j = 0 then m else m') _ (by omega) (Few2_cells A B C D n c m d n' c' m' d' w) 1 (by omega) h5 hmx).mono fun e w' hh => ⟨hh.1, hh.2 ▸ (Below.refl _ _).alloc (Nat.le_refl _) _⟩
end
end Go.Proofs.Yteicihaigkgbnaa
