/-
  slices.Clone of thresholds, and New of package voters. The conditions stand in each theorem.
-/
import Derived.Test.YtblclpagfbpamaaVfro
import Derived.Lib.SliceRun
namespace Go.Proofs.Ytblclpagfbpamaa
open Go.RowKit
set_option linter.unusedVariables false

theorem u64Info : (Try.prog.info? 34).map (fun i => (i.zero, i.size, i.bytes)) = some (some (.int .u64 0), 1, 8) := by kernel_rfl
set_option maxHeartbeats 800000 in
/-- Clone: the same numbers in new memory. -/
theorem uclone_any (A : Option Addr) (n c : Nat) (xs : List Nat) (w : World) (h : Rk .u64 w A n c xs) (hn : n ≤ 200) :
    Calls Try.prog 31 #[.slice A n c] w fun e w' => ∃ A' c', e = .returned (.slice A' n c') ∧ Owk .u64 34 w' w.heap.size A' n c' xs ∧ Below w.heap.size w w' := by
  have hq := Go.Lib.run_eql_slice_nil (P := Try.prog) w 22 34 A n c 0 0 Try.underlying22
  rcases A with _ | a
  · simp only [Option.isNone_none] at hq
    have h0 := h.none_len
    subst h0
    have hx := List.eq_nil_of_length_eq_zero h.len
    subst hx
    clear h
    go_enter Try.func31, Try.ntmps31
    go_wp2
    go_ret
    exact ⟨none, 0, rfl, Owk.nil _ _ _ _, Below.refl _ _⟩
  · simp only [Option.isNone_some] at hq
    have h1 := h.alloc (.cells #[] 34)
    have ho : Owk .u64 34 (w.alloc (.cells #[] 34)) w.heap.size (some ⟨w.heap.size, 0, none⟩) 0 0 [] := own_empty (KB.new w _ _) (Nat.le_refl _)
    clear h
    go_enter Try.func31, Try.ntmps31
    go_wp2_with (at_builtin; refine wpList_appk _ .u64 34 8 rfl _ _ 22 rfl w.heap.size Try.underlying22 u64Info _ _ 0 0 n c [] xs rfl rfl ho h1 (by unfold maxLen; omega) (by omega) (by simp) ?_; intro A1 d1 w1 o1 b1; simp only [Nat.zero_add, List.nil_append] at o1; have O1 := Lib.hid o1; clear o1)
    go_ret
    exact ⟨A1, d1, by simp, O1.out, ((Below.refl _ _).alloc (Nat.le_refl _) _).trans b1⟩
set_option maxHeartbeats 1600000 in
theorem vnew_any (A : Option Addr) (n c : Nat) (xs : List Nat) (w : World) (h : Rk .u64 w A n c xs) (hX : Bl 18446744073709551616 xs) :
    Calls Try.prog 8 #[.slice A n c] w fun e w' => Below w.heap.size w w' ∧ ((¬ Ris xs ∧ e = .returned (.tuple #[.pointer none, .int .i64 1])) ∨ (Ris xs ∧ ∃ p, e = .returned (.tuple #[.pointer (some ⟨p, 0, none⟩), .int .i64 0]) ∧ VA w.heap.size w' p xs [] 0)) := by
  have hF := formed_any A n c xs w h hX
  by_cases hr : Ris xs
  · rw [decide_eq_true hr] at hF
    have hn : n ≤ 200 := by have := hr.1; rw [h.len] at this; omega
    have hC := fun q => uclone_any A n c xs (w.drewN q) h hn
    have HR := Lib.hid hr
    have HX := Lib.hid hX
    clear hr h hX
    go_enter Try.func8, Try.ntmps8
    go_wp2_with fail
    refine hF.mono ?_
    rintro e w1 ⟨rfl, q, rfl⟩
    go_wp2_with fail
    refine (hC q).mono ?_
    rintro e w1 ⟨A1, c1, rfl, ho, hb⟩
    have hb1 : Below w.heap.size w w1 := ⟨hb.os, hb.tape, hb.output, hb.size, hb.block⟩
    have hfin : VA w.heap.size (w1.alloc (.cells #[.slice A1 n c1, .slice none 0 0, .map none] 63)) w1.heap.size xs [] 0 := by
      refine ⟨⟨w1.heap.size, A1, n, c1, .slice none 0 0, none, 0, fun _ => newi 0⟩, fun _ => 0, rfl, ⟨⟨KB.new w1 _ _, Owk.alloc ho _, ⟨rfl, .inl ⟨rfl, rfl⟩⟩, ⟨rfl, fun _ => rfl⟩, fun b hb => absurd hb (Nat.not_lt_zero b), fun b hb => absurd hb (Nat.not_lt_zero b), fun b _ hb => absurd hb (Nat.not_lt_zero b), fun b hb => absurd hb (Nat.not_lt_zero b), hb1.size, fun k e => (by cases e), fun b hb => absurd hb (Nat.not_lt_zero b), HX.out, HR.out⟩, .inl ⟨rfl, rfl, rfl⟩, VOk.nil _, fun b hb => absurd hb (Nat.not_lt_zero b)⟩⟩
    have HF := Lib.hid hfin
    have hb2 : Below w.heap.size w (w1.alloc (.cells #[.slice A1 n c1, .slice none 0 0, .map none] 63)) := hb1.alloc hb1.size _
    clear hfin ho hb hC hF hb1
    go_wp2
    go_ret2
    exact ⟨hb2, .inr ⟨HR.out, _, rfl, HF.out⟩⟩
  · rw [decide_eq_false hr] at hF
    have HR := Lib.hid hr
    clear hr h hX
    go_enter Try.func8, Try.ntmps8
    go_wp2_with fail
    refine hF.mono ?_
    rintro e w1 ⟨rfl, q, rfl⟩
    have hb1 : Below w.heap.size w (w.drewN q) := below_drewN (Below.refl _ _) q
    go_wp2
    go_ret2
    exact ⟨hb1, .inl ⟨HR.out, rfl⟩⟩
end Go.Proofs.Ytblclpagfbpamaa
