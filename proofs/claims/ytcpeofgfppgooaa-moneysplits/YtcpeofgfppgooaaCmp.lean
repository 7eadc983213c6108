/-
  What the reference's cmp and Same and the law's own same do: they compare the numbers. For slices that can be read; for lists of different lengths the last limb of the longer one is not 0.
-/
import Derived.Test.YtcpeofgfppgooaaRef
namespace Go.Proofs.Ytcpeofgfppgooaa
open Go.RowKit

/-- -1, 0 or 1. -/
def cmpN (a b : Nat) : Int := if a < b then -1 else if a = b then 0 else 1
theorem cmpN_lt {a b : Nat} (h : a < b) : cmpN a b = -1 := by unfold cmpN; rw [if_pos h]
theorem cmpN_gt {a b : Nat} (h : b < a) : cmpN a b = 1 := by unfold cmpN; rw [if_neg (by omega), if_neg (by omega)]
theorem cmpN_eq (a : Nat) : cmpN a a = 0 := by unfold cmpN; rw [if_neg (by omega), if_pos rfl]
/-- It returns v, and has only read. -/
def Quiet (w : World) (v : Value) (e : Ending) (w' : World) : Prop := e = .returned v ∧ ∃ q, w' = w.drewN q
theorem ret_i {a b : Int} (h : a = b) : Ending.returned (.int .i64 a) = .returned (.int .i64 b) := by rw [h]

theorem drew2 (w : World) (a b : Nat) : ∃ q, (w.drewN a).drewN b = w.drewN q := ⟨_, World.drewN_drewN ..⟩
theorem drew3 (w : World) (a b c : Nat) : ∃ q, ((w.drewN a).drewN b).drewN c = w.drewN q := ⟨_, by rw [World.drewN_drewN, World.drewN_drewN]⟩

def CmpRel (w : World) (n : Nat) (xs ys : List Nat) (t : Value) (wr : World) : Prop :=
  ∃ k q : Nat, k ≤ n ∧ t = .int .i64 ((k : Int) - 1) ∧ xs.drop k = ys.drop k ∧ wr = w.drewN q

set_option maxHeartbeats 800000 in
theorem rcmp_eq (A B : Option Addr) (n c d : Nat) (xs ys : List Nat) (w : World) (ha : Rd w A n c xs) (hb : Rd w B n d ys) :
    Calls Try.prog 36 #[.slice A n c, .slice B n d] w (Quiet w (.int .i64 (cmpN (val xs) (val ys)))) := by
  have HX := Lib.hid ha.len
  have HY := Lib.hid hb.len
  have hcap := ha.cap
  have hmax := ha.max
  go_enter Try.func36, Try.ntmps36
  go_wp2
  go_loopw [5] (fun t wr => CmpRel w n xs ys t wr) (fun t _ => (intOf t + 1).toNat)
  case atStart => exact ⟨n, 0, Nat.le_refl _, rfl, by rw [List.drop_of_length_le (by rw [HX.out]; exact Nat.le_refl _), List.drop_of_length_le (by rw [HY.out]; exact Nat.le_refl _)], rfl⟩
  case round =>
    obtain ⟨k, q, hk, rfl, hd, rfl⟩ := hrel
    have HD := Lib.hid hd
    clear hd
    by_cases hk0 : k = 0
    · subst hk0
      have HV := Lib.hid (show (0 : Int) = cmpN (val xs) (val ys) by
        have := HD.out
        simp only [List.drop_zero] at this
        rw [this, cmpN_eq])
      go_wp2
      go_ret
      exact ⟨ret_i HV.out, q, rfl⟩
    · obtain ⟨b, o, rfl, hbb, hcA⟩ := ha.at_ (by omega)
      obtain ⟨b2, o2, rfl, hbb2, hcB⟩ := hb.at_ (by omega)
      have hcx := hcA (k - 1) (by omega)
      have hcy := hcB (k - 1) (by omega)
      clear hcA hcB
      have hp : (0 : Int) ≤ (k : Int) - 1 := by omega
      have hp1 : (1 : Int) ≤ (k : Int) := by omega
      have hlt : (k : Int) - 1 < (n : Int) := by omega
      have hkk : Hid (k - 1 + 1 = k) := by show k - 1 + 1 = k; omega
      have hnat : ((k : Int) - 1).toNat = k - 1 := by omega
      rcases Nat.lt_trichotomy (el xs (k - 1)) (el ys (k - 1)) with h | h | h
      · have h1 : ((el xs (k - 1) : Nat) : Int) < ((el ys (k - 1) : Nat) : Int) := by omega
        have HV := Lib.hid (show (-1 : Int) = cmpN (val xs) (val ys) by
          rw [cmpN_lt (val_lt_at ha.lim (by rw [HX.out, HY.out]) (i := k - 1) (by rw [HX.out]; omega) (by rw [hkk.out]; exact HD.out) h)])
        go_wp2
        go_quiet (fail)
        go_wp2
        go_ret
        exact ⟨ret_i HV.out, drew2 _ _ _⟩
      · have h1 : ¬ (((el xs (k - 1) : Nat) : Int) < ((el ys (k - 1) : Nat) : Int)) := by omega
        have h2 : ¬ (((el ys (k - 1) : Nat) : Int) < ((el xs (k - 1) : Nat) : Int)) := by omega
        have HS := Lib.hid (drop_eq_step (by rw [HX.out, HY.out]) (i := k - 1) (by rw [HX.out]; omega) (by rw [hkk.out]; exact HD.out) h)
        clear h
        go_wp2
        go_quiet (fail)
        go_wp2
        go_quiet (fail)
        go_wp2
        go_roundw
        case rel => exact ⟨k - 1, _, by omega, by go_num, HS.out, rfl⟩
        case measure => simp [intOf]; omega
      · have h1 : ¬ (((el xs (k - 1) : Nat) : Int) < ((el ys (k - 1) : Nat) : Int)) := by omega
        have h2 : ((el ys (k - 1) : Nat) : Int) < ((el xs (k - 1) : Nat) : Int) := by omega
        have HV := Lib.hid (show (1 : Int) = cmpN (val xs) (val ys) by
          rw [cmpN_gt (val_lt_at hb.lim (by rw [HX.out, HY.out]) (i := k - 1) (by rw [HY.out]; omega) (by rw [hkk.out]; exact HD.out.symm) h)])
        go_wp2
        go_quiet (fail)
        go_wp2
        go_quiet (fail)
        go_wp2
        go_ret
        exact ⟨ret_i HV.out, drew3 _ _ _ _⟩

set_option maxHeartbeats 400000 in
theorem rcmp_ne (A B : Option Addr) (n c m d : Nat) (xs ys : List Nat) (w : World) (ha : Rd w A n c xs) (hb : Rd w B m d ys) (nx : Nrm xs) (ny : Nrm ys) (hne : n ≠ m) :
    Calls Try.prog 36 #[.slice A n c, .slice B m d] w (Quiet w (.int .i64 (cmpN (val xs) (val ys)))) := by
  have hn : ((n : Int) != (m : Int)) = true := by simp; omega
  rcases Nat.lt_or_ge n m with h | h
  · have h1 : (n : Int) < (m : Int) := by omega
    have HV := Lib.hid (show (-1 : Int) = cmpN (val xs) (val ys) by rw [cmpN_lt (val_lt_of_len ha.lim hb.lim ny (by rw [ha.len, hb.len]; exact h))])
    go_enter Try.func36, Try.ntmps36
    go_wp2
    go_ret
    exact ⟨ret_i HV.out, 0, rfl⟩
  · have h1 : ¬ ((n : Int) < (m : Int)) := by omega
    have HV := Lib.hid (show (1 : Int) = cmpN (val xs) (val ys) by rw [cmpN_gt (val_lt_of_len hb.lim ha.lim nx (by rw [ha.len, hb.len]; omega))])
    go_enter Try.func36, Try.ntmps36
    go_wp2
    go_ret
    exact ⟨ret_i HV.out, 0, rfl⟩
/-- The reference's cmp. -/
theorem rcmp_any (A B : Option Addr) (n c m d : Nat) (xs ys : List Nat) (w : World) (ha : Rd w A n c xs) (hb : Rd w B m d ys) (nx : Nrm xs) (ny : Nrm ys) :
    Calls Try.prog 36 #[.slice A n c, .slice B m d] w (Quiet w (.int .i64 (cmpN (val xs) (val ys)))) := by
  by_cases h : n = m
  · subst h; exact rcmp_eq A B n c d xs ys w ha hb
  · exact rcmp_ne A B n c m d xs ys w ha hb nx ny h

set_option maxHeartbeats 400000 in
/-- The reference's Of. -/
theorem rof_any (N : Nat) (w : World) (h : N < 18446744073709551616) :
    Calls Try.prog 24 #[.int .u64 N] w (Out w (digs N)) := by
  go_enter Try.func24, Try.ntmps24
  go_wp2_with fail
  have hB := blk2 w (N % 4294967296) (N / 4294967296) ((N : Int) % 4294967296) ((N : Int) / 4294967296) (by omega) (by omega)
  refine (rtrim_any _ 2 2 [N % 4294967296, N / 4294967296] _ (hB.nw (n := 2) (lim2 N h) rfl (by omega) (Nat.le_refl _)).1 (by omega)).mono ?_
  rw [val2]
  rintro e w1 ⟨A, n, c, rfl, hN, hb1⟩
  have HN := Lib.hid (hN.mono (lo' := w.heap.size) (by simp))
  have HB := Lib.hid (((Below.refl w.heap.size w).alloc (Nat.le_refl _) _).trans (hb1.mono (by simp)))
  clear hN hb1 hB
  go_wp2
  go_ret
  exact ⟨_, _, _, rfl, HN.out, HB.out⟩

set_option maxHeartbeats 400000 in
/-- The reference's Low. -/
theorem rLow_any (A : Option Addr) (n c : Nat) (xs : List Nat) (w : World) (h : Rd w A n c xs) :
    Calls Try.prog 26 #[.slice A n c] w fun e w' => e = .returned (.tuple #[.int .u64 (lowR xs).1, .bool (lowR xs).2]) ∧ w = w' := by
  have HL := Lib.hid h.len
  have hmax := h.max
  have hcap := h.cap
  by_cases hn : n ≤ 2
  · have hd : ¬ (2 < (n : Int)) := by omega
    cases hf : fmB xs
    · have e : lowR xs = (0, false) := by unfold lowR; rw [hf]; rfl
      rw [e]
      clear e
      go_enter Try.func26, Try.ntmps26
      go_wp2_with fail
      refine (rformed_any _ _ _ xs _ h).mono ?_
      rintro e w' ⟨rfl, rfl⟩
      go_wp2
      go_ret2
      exact ⟨rfl, rfl⟩
    · have e : lowR xs = (val xs, true) := by unfold lowR; rw [hf, HL.out]; simp [hn]
      rw [e]
      clear e
      go_enter Try.func26, Try.ntmps26
      go_wp2_with fail
      refine (rformed_any _ _ _ xs _ h).mono ?_
      rintro e w' ⟨rfl, rfl⟩
      go_wp2
      go_loop [4, 5] (fun a t => ∃ k : Nat, k ≤ n ∧ t = .int .i64 ((k : Int) - 1) ∧ a = .int .u64 (val (xs.drop k))) (fun _ t => (intOf t + 1).toNat)
      case atStart => exact ⟨n, Nat.le_refl _, rfl, by rw [List.drop_of_length_le (by rw [HL.out]; exact Nat.le_refl _)]; rfl⟩
      case round =>
        obtain ⟨k, hk, rfl, rfl⟩ := hrel
        by_cases hk0 : k = 0
        · subst hk0
          have HV := Lib.hid (show ((val (xs.drop 0) : Nat) : Int) = val xs by simp)
          go_wp2
          go_ret2
          exact ⟨rfl, rfl⟩
        · obtain ⟨b, o, rfl, hb, hc⟩ := h.at_ (by omega)
          have hcell := hc (k - 1) (by omega)
          have he := el_lt h.lim (k - 1)
          clear hc
          have hz : val (xs.drop k) < 4294967296 := by
            have h1 := val_lt (Lim_drop h.lim k)
            have h2 := pw_le (show (xs.drop k).length ≤ 1 by rw [List.length_drop, HL.out]; omega)
            have h3 : pw 1 = 4294967296 := rfl
            omega
          have HV := Lib.hid (show val (xs.drop (k - 1)) = el xs (k - 1) + 4294967296 * val (xs.drop k) by
            have := val_drop xs (k - 1) (by rw [HL.out]; omega)
            rwa [show k - 1 + 1 = k by omega] at this)
          generalize hzz : val (xs.drop k) = z at *
          clear hzz
          go_wp2
          go_round
          case rel => exact ⟨k - 1, by omega, by go_num, by rw [HV.out, or_lo _ _ he hz]⟩
          case measure => simp [intOf]; omega
  · have e : lowR xs = (0, false) := by unfold lowR; rw [HL.out]; simp [hn]
    rw [e]
    clear e
    have hd : (2 < (n : Int)) := by omega
    go_enter Try.func26, Try.ntmps26
    go_wp2
    go_ret2
    exact ⟨rfl, rfl⟩
end Go.Proofs.Ytcpeofgfppgooaa
