/-
  What New, Set, Bytes and Of of package marks do, and bytes.Clone. The conditions stand in each theorem.
-/
import Derived.Test.YtgdmmcjhbpklhaaMobj
import Derived.Deep.RegionWith
namespace Go.Proofs.Ytgdmmcjhbpklhaa
open Go.RowKit
set_option linter.unusedVariables false

/-- A size as New takes it. -/
def clamp (x : Int) : Nat := if x < 0 then 0 else if 4096 < x then 4096 else x.toNat
theorem clamp_le (x : Int) : clamp x ≤ 4096 := by unfold clamp; split; omega; split <;> omega
theorem mbs_none (n : Nat) : mbs (fun _ => false) n = zeros n := by
  apply ext_el (by rw [mbs_len, zeros_len])
  intro j hj
  rw [mbs_len] at hj
  rw [mbs_el _ _ _ hj, el_zeros]; rfl
theorem mmkB (n : Nat) (hc : n ≤ 281474976710656) (W : World) :
    (Instr.makeSlice 36 (.int .i64 (n : Int)) (.int .i64 (n : Int))).run Try.prog W = .ok (.slice (some ⟨W.heap.size, 0, none⟩) n n) (W.alloc (.cells (litsK .u8 (zeros n)).toArray 5)) := by
  obtain ⟨i0, hi, hz0, hz1, hz2⟩ := info_parts infoM
  have h := run_make_rowK (P := Try.prog) 36 5 i0 (.int .u8 0) Try.underlying36 hi hz0 .i64 .i64 n n (Nat.le_refl _) (by rw [hz2]; omega) (by omega) W
  rw [hz1, Nat.mul_one, litsK_made] at h
  exact h
/-- What New has laid. -/
theorem Mk.made (w : World) (size : Nat) (h : size ≤ 4096) :
    Mk ((w.alloc (.cells (litsK .u8 (zeros (wid size))).toArray 5)).alloc (.cells #[.int .i64 size, .slice (some ⟨w.heap.size, 0, none⟩) (wid size) (wid size)] 45)) w.heap.size (w.heap.size + 1) size (fun _ => false) := by
  have hwd : wid size ≤ 512 := by unfold wid; omega
  refine ⟨h, fun _ _ => rfl, by omega, some ⟨w.heap.size, 0, none⟩, wid size, ?_, Owk.alloc ?_ _⟩
  · have := KB.new (w.alloc (.cells (litsK .u8 (zeros (wid size))).toArray 5)) 45 #[.int .i64 size, .slice (some ⟨w.heap.size, 0, none⟩) (wid size) (wid size)]
    simpa using this
  · rw [mbs_none]
    have := (Bkk.new .u8 5 w (zeros (wid size))).own (n := wid size) (c := wid size) (zeros_len _) (by omega) (Nat.le_refl _) (base := w.heap.size) (Nat.le_refl _)
    rwa [List.take_of_length_le (by rw [zeros_len]; omega)] at this
def NewM (w : World) (size : Nat) (e : Ending) (w' : World) : Prop :=
  e = .returned (.pointer (some ⟨w.heap.size + 1, 0, none⟩)) ∧ Mk w' w.heap.size (w.heap.size + 1) size (fun _ => false) ∧ Below w.heap.size w w'
set_option maxHeartbeats 800000 in
theorem mnew_of (x : Int) (s : Nat) (w : World) (hs : s ≤ 4096) (h : x < 0 ∧ s = 0 ∨ 4096 < x ∧ s = 4096 ∨ x = s) : Calls Try.prog 7 #[.int .i64 x] w (NewM w s) := by
  have HB := Lib.hid (((Below.refl w.heap.size w).alloc (Nat.le_refl _) (.cells (litsK .u8 (zeros (wid s))).toArray 5)).alloc (by simp) (.cells #[.int .i64 s, .slice (some ⟨w.heap.size, 0, none⟩) (wid s) (wid s)] 45))
  have HM := Lib.hid (Mk.made w s hs)
  have hwd : wid s ≤ 512 := by unfold wid; omega
  have HW := Lib.hid (width_any s w hs)
  have hmk := mmkB (wid s) (by omega)
  rcases h with ⟨h, rfl⟩ | ⟨h, rfl⟩ | rfl
  · go_enter Try.func7, Try.ntmps7
    go_wp2_with fail
    refine HW.out.mono ?_
    rintro e w' ⟨rfl, rfl⟩
    go_wp2
    go_ret
    exact ⟨rfl, HM.out, HB.out⟩
  · go_enter Try.func7, Try.ntmps7
    go_wp2_with fail
    refine HW.out.mono ?_
    rintro e w' ⟨rfl, rfl⟩
    go_wp2
    go_ret
    exact ⟨rfl, HM.out, HB.out⟩
  · go_enter Try.func7, Try.ntmps7
    go_wp2_with fail
    refine HW.out.mono ?_
    rintro e w' ⟨rfl, rfl⟩
    go_wp2
    go_ret
    exact ⟨rfl, HM.out, HB.out⟩
/-- New. -/
theorem mnew_any (x : Int) (w : World) : Calls Try.prog 7 #[.int .i64 x] w (NewM w (clamp x)) := by
  refine mnew_of x _ w (clamp_le x) ?_
  unfold clamp
  split
  · omega
  · split <;> omega
/-- Bytes in new memory. -/
def OutM (w : World) (bs : List Nat) (e : Ending) (w' : World) : Prop :=
  ∃ A n c, e = .returned (.slice A n c) ∧ Owk .u8 5 w' w.heap.size A n c bs ∧ Below w.heap.size w w'
set_option maxHeartbeats 800000 in
/-- bytes.Clone. -/
theorem clone_any (A : Option Addr) (n c : Nat) (bs : List Nat) (w : World) (h : Rk .u8 w A n c bs) (hn : n ≤ 100000) :
    Calls Try.prog 22 #[.slice A n c] w (OutM w bs) := by
  cases A with
  | none =>
    have h0 := h.none_len
    subst h0
    obtain rfl := List.eq_nil_of_length_eq_zero h.len
    have hq := Go.Lib.run_eql_slice_nil (P := Try.prog) w 36 5 none 0 c 0 0 Try.underlying36
    simp only [Option.isNone_none] at hq
    go_enter Try.func22, Try.ntmps22
    go_wp2
    go_ret
    exact ⟨_, _, _, rfl, Owk.nil _ _ _ _, Below.refl _ _⟩
  | some a =>
    have ho : Owk .u8 5 (w.alloc (.cells #[] 5)) w.heap.size (some ⟨w.heap.size, 0, none⟩) 0 0 [] :=
      (Bkk.new .u8 5 w []).own (n := 0) (c := 0) rfl (by omega) (by omega) (Nat.le_refl _)
    have hr := h.alloc (.cells #[] 5)
    have hb := (Below.refl w.heap.size w).alloc (Nat.le_refl _) (.cells #[] 5)
    have hq := Go.Lib.run_eql_slice_nil (P := Try.prog) w 36 5 (some a) n c 0 0 Try.underlying36
    simp only [Option.isNone_some] at hq
    go_enter Try.func22, Try.ntmps22
    go_wp2_with (at_builtin; refine wpList_appk _ .u8 5 1 rfl (.tmp 5) (.tmp 6) 36 rfl w.heap.size Try.underlying36 infoM _ _ _ _ _ _ [] bs rfl rfl ho hr (by unfold maxLen; omega) (by omega) (by simp) ?_; intro A2 c2 w2 hO2 hb2)
    go_wp2
    go_ret
    exact ⟨_, _, _, rfl, by simpa using hO2, hb.trans hb2⟩
end Go.Proofs.Ytgdmmcjhbpklhaa
