/-
  What limb.Formed, limb.limited, limb.Of, limb.Add and the law's own awake and few do. For slices that can be read; Add for naturals of at most 900000 limbs.
-/
import Derived.Test.YteicihaigkgbnaaSum
namespace Go.Proofs.Yteicihaigkgbnaa
open Go.RowKit

/-- Well formed: at most 400 limbs, the last one not 0. -/
def fmB (xs : List Nat) : Bool := decide (xs.length ≤ 400) && (xs.isEmpty || el xs (xs.length - 1) != 0)
theorem fmB_len {xs : List Nat} (h : fmB xs = true) : xs.length ≤ 400 := by
  unfold fmB at h; simp at h; exact h.1
theorem fmB_nrm {xs : List Nat} (h : fmB xs = true) : Nrm xs := by
  unfold fmB at h; simp at h
  rcases h.2 with h2 | h2
  · left; exact h2
  · right; exact h2
theorem fmB_digs (n : Nat) : fmB (digs n) = decide ((digs n).length ≤ 400) := by
  unfold fmB
  rcases Nrm_digs n with h | h
  · rw [h]; rfl
  · have : (el (digs n) ((digs n).length - 1) != 0) = true := by simpa using h
    rw [this]; simp
theorem fmB_nil : fmB [] = true := rfl

theorem ret_b {a b : Bool} (h : a = b) : Ending.returned (.bool a) = .returned (.bool b) := by rw [h]
theorem vals2 (a b : Nat) (x y : Int) (hx : x = a) (hy : y = b) : (#[.int .u32 x, .int .u32 y] : Array Value) = vals [a, b] := by subst hx hy; rfl
theorem blk2 (w : World) (a b : Nat) (x y : Int) (hx : x = a) (hy : y = b) : Blk (w.alloc (.cells #[.int .u32 x, .int .u32 y] 54)) w.heap.size [a, b] := by
  rw [vals2 a b x y hx hy]; exact Blk.new _ _
theorem lim2 (N : Nat) (h : N < 18446744073709551616) : Lim [N % 4294967296, N / 4294967296] := Lim_cons (by omega) (Lim_cons (by omega) Lim_nil)
theorem val2 (N : Nat) : val [N % 4294967296, N / 4294967296] = N := by simp only [val]; omega

set_option maxHeartbeats 400000 in
/-- limb.Formed. -/
theorem formed_any (A : Option Addr) (n c : Nat) (xs : List Nat) (w : World) (h : Rd w A n c xs) :
    Calls Try.prog 34 #[.slice A n c] w fun e w' => e = .returned (.bool (fmB xs)) ∧ w = w' := by
  have HL := Lib.hid h.len
  have hcap := h.cap
  have hmax := h.max
  by_cases h4 : n ≤ 400
  · by_cases h0 : n = 0
    · subst h0
      have HV := Lib.hid (show true = fmB xs by
        have : xs = [] := List.eq_nil_of_length_eq_zero HL.out
        rw [this]; rfl)
      go_enter Try.func34, Try.ntmps34
      go_wp2
      go_ret
      exact ⟨ret_b HV.out, rfl⟩
    · obtain ⟨b, o, rfl, hb, hc⟩ := h.at_ (by omega)
      have hcell := hc (n - 1) (by omega)
      clear hc
      have h00 : ((n : Int) == 0) = false := by simp; omega
      have h44 : (n : Int) ≤ 400 := by omega
      have HV := Lib.hid (show (((el xs (n - 1) : Nat) : Int) != 0) = fmB xs by
        unfold fmB
        have e1 : decide (xs.length ≤ 400) = true := by rw [HL.out]; simpa using h4
        have e2 : xs.isEmpty = false := by
          cases xs with
          | nil => exact absurd HL.out (by simp; omega)
          | cons x xs => rfl
        rw [e1, e2, HL.out, Bool.eq_iff_iff]; simp)
      go_enter Try.func34, Try.ntmps34
      go_wp2
      go_ret
      exact ⟨ret_b HV.out, rfl⟩
  · have h44 : ¬ ((n : Int) ≤ 400) := by omega
    have hd : decide ((n : Int) ≤ 400) = false := by simp; omega
    have HV := Lib.hid (show false = fmB xs by
      unfold fmB
      have e1 : decide (xs.length ≤ 400) = false := by rw [HL.out]; simpa using h4
      rw [e1]; rfl)
    go_enter Try.func34, Try.ntmps34
    go_wp2
    go_ret
    exact ⟨ret_b HV.out, rfl⟩

set_option maxHeartbeats 400000 in
/-- limb.limited. -/
theorem limited_yes (A : Option Addr) (n c : Nat) (w : World) (h : n ≤ 400) :
    Calls Try.prog 65 #[.slice A n c] w fun e w' => e = .returned (.tuple #[.slice A n c, .int .i64 0]) ∧ w = w' := by
  have h1 : ¬ (400 < (n : Int)) := by omega
  go_enter Try.func65, Try.ntmps65
  go_wp2
  go_ret2
  exact ⟨rfl, rfl⟩
set_option maxHeartbeats 400000 in
theorem limited_no (A : Option Addr) (n c : Nat) (w : World) (h : 400 < n) :
    Calls Try.prog 65 #[.slice A n c] w fun e w' => e = .returned (.tuple #[.slice none 0 0, .int .i64 4]) ∧ w = w' := by
  have h1 : (400 < (n : Int)) := by omega
  go_enter Try.func65, Try.ntmps65
  go_wp2
  go_ret2
  exact ⟨rfl, rfl⟩

set_option maxHeartbeats 400000 in
/-- limb.Of. -/
theorem of_any (N : Nat) (w : World) (h : N < 18446744073709551616) :
    Calls Try.prog 33 #[.int .u64 N] w (Out w (digs N)) := by
  go_enter Try.func33, Try.ntmps33
  go_wp2_with fail
  have hB := blk2 w (N % 4294967296) (N / 4294967296) ((N : Int) % 4294967296) ((N : Int) / 4294967296) (by omega) (by omega)
  refine (trimmed_any _ 2 2 [N % 4294967296, N / 4294967296] _ (hB.nw (n := 2) (lim2 N h) rfl (by omega) (Nat.le_refl _)).1).mono ?_
  rintro e w' ⟨j, rfl, hj, ht, rfl⟩
  have HT := Lib.hid ht
  clear ht
  go_wp2
  go_ret
  exact out_trim hB (lim2 N h) rfl (by omega) (Nat.le_refl _) ((Below.refl _ _).alloc (Nat.le_refl _) _) (val2 N) hj HT.out

/-- The end of a call that gives a natural and an error number. -/
def Out2 (w : World) (xs : List Nat) (k : Int) (e : Ending) (w' : World) : Prop :=
  ∃ A n c, e = .returned (.tuple #[.slice A n c, .int .i64 k]) ∧ Nw w' w.heap.size A n c xs ∧ Below w.heap.size w w'

set_option maxHeartbeats 400000 in
/-- limb.Add, of naturals that are well formed, where the sum is not too long. -/
theorem add_yes (A B : Option Addr) (n c m d : Nat) (xs ys : List Nat) (w : World) (ha : Rd w A n c xs) (hb : Rd w B m d ys) (fa : fmB xs = true) (fb : fmB ys = true)
    (hl : (digs (val xs + val ys)).length ≤ 400) :
    Calls Try.prog 46 #[.slice A n c, .slice B m d] w (Out2 w (digs (val xs + val ys)) 0) := by
  have hn : n ≤ 400 := by rw [← ha.len]; exact fmB_len fa
  have hm : m ≤ 400 := by rw [← hb.len]; exact fmB_len fb
  have HL := Lib.hid hl
  clear hl
  go_enter Try.func46, Try.ntmps46
  go_wp2_with fail
  refine (formed_any _ _ _ xs _ ha).mono ?_
  rintro e w' ⟨rfl, rfl⟩
  go_wp2_with fail
  refine (formed_any _ _ _ ys _ hb).mono ?_
  rintro e w' ⟨rfl, rfl⟩
  go_wp2_with fail
  refine (sum_any _ _ _ _ _ _ xs ys _ ha hb (by omega) (by omega)).mono ?_
  rintro e w1 ⟨R, k, cr, rfl, hN, hbel⟩
  have hk : k ≤ 400 := by rw [← hN.1.len]; exact HL.out
  go_wp2_with fail
  refine (limited_yes _ _ _ _ hk).mono ?_
  rintro e w' ⟨rfl, rfl⟩
  go_wp2
  go_ret2
  exact ⟨_, _, _, rfl, hN, hbel⟩
set_option maxHeartbeats 400000 in
/-- limb.Add, where the sum is too long. -/
theorem add_long (A B : Option Addr) (n c m d : Nat) (xs ys : List Nat) (w : World) (ha : Rd w A n c xs) (hb : Rd w B m d ys) (fa : fmB xs = true) (fb : fmB ys = true)
    (hl : 400 < (digs (val xs + val ys)).length) :
    Calls Try.prog 46 #[.slice A n c, .slice B m d] w (Out2 w [] 4) := by
  have hn : n ≤ 400 := by rw [← ha.len]; exact fmB_len fa
  have hm : m ≤ 400 := by rw [← hb.len]; exact fmB_len fb
  have HL := Lib.hid hl
  clear hl
  go_enter Try.func46, Try.ntmps46
  go_wp2_with fail
  refine (formed_any _ _ _ xs _ ha).mono ?_
  rintro e w' ⟨rfl, rfl⟩
  go_wp2_with fail
  refine (formed_any _ _ _ ys _ hb).mono ?_
  rintro e w' ⟨rfl, rfl⟩
  go_wp2_with fail
  refine (sum_any _ _ _ _ _ _ xs ys _ ha hb (by omega) (by omega)).mono ?_
  rintro e w1 ⟨R, k, cr, rfl, hN, hbel⟩
  have hk : 400 < k := by rw [← hN.1.len]; exact HL.out
  go_wp2_with fail
  refine (limited_no _ _ _ _ hk).mono ?_
  rintro e w' ⟨rfl, rfl⟩
  go_wp2
  go_ret2
  exact ⟨_, _, _, rfl, Nw.nil _ _, hbel⟩
set_option maxHeartbeats 400000 in
/-- limb.Add, of a natural that is not well formed. -/
theorem add_bad (A B : Option Addr) (n c m d : Nat) (xs ys : List Nat) (w : World) (ha : Rd w A n c xs) (hb : Rd w B m d ys) (f : (fmB xs && fmB ys) = false) :
    Calls Try.prog 46 #[.slice A n c, .slice B m d] w (Out2 w [] 1) := by
  cases fa : fmB xs
  · clear f
    go_enter Try.func46, Try.ntmps46
    go_wp2_with fail
    refine (formed_any _ _ _ xs _ ha).mono ?_
    rintro e w' ⟨rfl, rfl⟩
    go_wp2
    go_ret2
    exact ⟨_, _, _, rfl, Nw.nil _ _, Below.refl _ _⟩
  · have fb : fmB ys = false := by rw [fa] at f; simpa using f
    clear f
    go_enter Try.func46, Try.ntmps46
    go_wp2_with fail
    refine (formed_any _ _ _ xs _ ha).mono ?_
    rintro e w' ⟨rfl, rfl⟩
    go_wp2_with fail
    refine (formed_any _ _ _ ys _ hb).mono ?_
    rintro e w' ⟨rfl, rfl⟩
    go_wp2
    go_ret2
    exact ⟨_, _, _, rfl, Nw.nil _ _, Below.refl _ _⟩
/-- The document's sum: the natural and the error. -/
def addR (xs ys : List Nat) : List Nat × Int :=
  if fmB xs && fmB ys then (if (digs (val xs + val ys)).length ≤ 400 then (digs (val xs + val ys), 0) else ([], 4)) else ([], 1)
theorem add_any (A B : Option Addr) (n c m d : Nat) (xs ys : List Nat) (w : World) (ha : Rd w A n c xs) (hb : Rd w B m d ys) :
    Calls Try.prog 46 #[.slice A n c, .slice B m d] w (Out2 w (addR xs ys).1 (addR xs ys).2) := by
  cases f : fmB xs && fmB ys
  · have e : addR xs ys = ([], 1) := by unfold addR; rw [f]; rfl
    rw [e]; exact add_bad A B n c m d xs ys w ha hb f
  · have f' := f
    rw [Bool.and_eq_true] at f'
    by_cases hl : (digs (val xs + val ys)).length ≤ 400
    · have e : addR xs ys = (digs (val xs + val ys), 0) := by unfold addR; rw [f, if_pos rfl, if_pos hl]
      rw [e]; exact add_yes A B n c m d xs ys w ha hb f'.1 f'.2 hl
    · have e : addR xs ys = ([], 4) := by unfold addR; rw [f, if_pos rfl, if_neg hl]
      rw [e]; exact add_long A B n c m d xs ys w ha hb f'.1 f'.2 (by omega)
end Go.Proofs.Yteicihaigkgbnaa
