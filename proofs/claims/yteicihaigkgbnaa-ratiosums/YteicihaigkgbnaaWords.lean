/-
  What limb.limbAt, limb.highest, limb.commonDivisorOfWords and limb.multiples do. For slices that can be read, of at most 900000 limbs; factors below 2^32.
-/
import Derived.Test.YteicihaigkgbnaaShift
import Derived.Test.YteicihaigkgbnaaCmp
import Derived.Test.YteicihaigkgbnaaMul
import Derived.Test.YteicihaigkgbnaaTake
import Derived.Test.YteicihaigkgbnaaKnuth
namespace Go.Proofs.Yteicihaigkgbnaa
open Go.RowKit

set_option maxHeartbeats 400000 in
/-- limb.limbAt. -/
theorem limbAt_any (A : Option Addr) (n c i : Nat) (xs : List Nat) (w : World) (h : Rd w A n c xs) (hi : i ≤ 9223372036854775807) :
    Calls Try.prog 92 #[.slice A n c, .int .i64 i] w fun e w' => e = .returned (.int .u64 (el xs i)) ∧ w' = w := by
  have hcap := h.cap
  have hmax := h.max
  by_cases hin : i < n
  · obtain ⟨b, o, rfl, hb, hc⟩ := h.at_ (by omega)
    have hcell := hc i hin
    have he := el_lt h.lim i
    clear hc
    have hd : ¬ ((n : Int) ≤ (i : Int)) := by omega
    go_enter Try.func92, Try.ntmps92
    go_wp2
    go_ret
    exact ⟨rfl, rfl⟩
  · have hd : ((n : Int) ≤ (i : Int)) := by omega
    rw [el_ge xs i (by rw [h.len]; omega)]
    go_enter Try.func92, Try.ntmps92
    go_wp2
    go_ret
    exact ⟨rfl, rfl⟩

set_option maxHeartbeats 400000 in
/-- limb.commonDivisorOfWords. -/
theorem words_any (x y : Nat) (w : World) (hx : x < 18446744073709551616) (hy : y < 18446744073709551616) :
    Calls Try.prog 76 #[.int .u64 x, .int .u64 y] w (Quiet w (.int .u64 (Nat.gcd x y))) := by
  go_enter Try.func76, Try.ntmps76
  go_wp2
  go_loopw [0, 1] (fun xv yv wr => ∃ u v q : Nat, xv = .int .u64 u ∧ yv = .int .u64 v ∧ Hid (Nat.gcd u v = Nat.gcd x y) ∧ u < 18446744073709551616 ∧ v < 18446744073709551616 ∧ wr = w.drewN q) (fun _ yv _ => (intOf yv).toNat)
  case atStart => exact ⟨x, y, 0, rfl, rfl, rfl, hx, hy, rfl⟩
  case round =>
    obtain ⟨u, v, q, rfl, rfl, hg, hu, hv, rfl⟩ := hrel
    by_cases hv0 : v = 0
    · subst hv0
      have HG := Lib.hid (show u = Nat.gcd x y by have := hg.out; rwa [Nat.gcd_zero_right] at this)
      go_wp2
      go_ret
      exact ⟨by rw [← HG.out]; rfl, q, rfl⟩
    · have hne : ((v : Int) != 0) = true := by simp; omega
      have hne' : ((v : Int) == 0) = false := by simp; omega
      have hvp : (0 : Int) < (v : Int) := by omega
      have hm : u % v < v := Nat.mod_lt u (by omega)
      go_wp2
      go_quiet (fail)
      go_wp2
      go_roundw
      case rel => exact ⟨v, u % v, _, rfl, by rw [Int.natCast_emod], by show Nat.gcd v (u % v) = _; rw [Nat.gcd_comm, ← Nat.gcd_rec, Nat.gcd_comm]; exact hg.out, hv, by omega, World.drewN_drewN ..⟩
      case measure => simp [intOf]; omega
theorem limbAt_int (A : Option Addr) (n c i : Nat) (I : Int) (xs : List Nat) (w : World) (h : Rd w A n c xs) (hI : I = i) (hi : i ≤ 9223372036854775807) :
    Calls Try.prog 92 #[.slice A n c, .int .i64 I] w fun e w' => e = .returned (.int .u64 (el xs i)) ∧ w' = w := by
  subst hI; exact limbAt_any A n c i xs w h hi

theorem ret_u {a b : Int} (h : a = b) : Ending.returned (.int .u64 a) = .returned (.int .u64 b) := by rw [h]
/-- The highest 64 bits. -/
def hi64 (xs : List Nat) (n s : Nat) : Nat := (el xs (n - 2) + 4294967296 * el xs (n - 1)) * 2 ^ s + el xs (n - 3) / 2 ^ (32 - s)

theorem or_high (W e s : Nat) (hs : s ≤ 31) (hb : W * 2 ^ s + 2 ^ s ≤ 18446744073709551616) (he : e < 4294967296) :
    bits .or .u64 (IntKind.u64.wrap ((W : Int) * 2 ^ s)) ((e : Int) / 2 ^ (32 - s)) = ((W * 2 ^ s + e / 2 ^ (32 - s) : Nat) : Int) := by
  have hp := Nat.two_pow_pos s
  have e1 : ((W : Int) * 2 ^ s) = ((W * 2 ^ s : Nat) : Int) := by rw [Int.natCast_mul, Int.natCast_pow]; rfl
  have e2 : ((e : Int) / 2 ^ (32 - s)) = ((e / 2 ^ (32 - s) : Nat) : Int) := by rw [Int.natCast_ediv, Int.natCast_pow]; rfl
  have hlt : e / 2 ^ (32 - s) < 2 ^ s := by
    rw [Nat.div_lt_iff_lt_mul (Nat.two_pow_pos _), ← Nat.pow_add, show s + (32 - s) = 32 by omega]; exact he
  rw [e1, e2, IntKind.wrap_u64]
  have hm : W * 2 ^ s % 2 ^ s = 0 := Nat.mul_mod_left _ _
  generalize W * 2 ^ s = z at *
  generalize e / 2 ^ (32 - s) = y at *
  rw [show ((z : Int) % 18446744073709551616) = (z : Int) by omega, u64_or_nat _ _ (by omega) (by omega), nat_join s _ _ hm hlt]

set_option maxHeartbeats 800000 in
/-- limb.highest. -/
theorem highest_any (A : Option Addr) (m c n s : Nat) (xs : List Nat) (w : World) (h : Rd w A m c xs) (hn : 3 ≤ n) (hnn : n ≤ 900000) (hs : s ≤ 31) (hb : (el xs (n - 2) + 4294967296 * el xs (n - 1)) * 2 ^ s + 2 ^ s ≤ 18446744073709551616) :
    Calls Try.prog 84 #[.slice A m c, .int .i64 n, .int .i64 s] w (Quiet w (.int .u64 (hi64 xs n s))) := by
  have e1 := el_lt h.lim (n - 1)
  have e2 := el_lt h.lim (n - 2)
  have e3 := el_lt h.lim (n - 3)
  have hor := or_lo (el xs (n - 2)) (el xs (n - 1)) e2 e1
  obtain ⟨W, hW⟩ : ∃ W, el xs (n - 2) + 4294967296 * el xs (n - 1) = W := ⟨_, rfl⟩
  rw [hW] at hor hb
  have HW := Lib.hid hW
  have HB := Lib.hid hb
  have hWl : W < 18446744073709551616 := by omega
  clear hW hb
  go_enter Try.func84, Try.ntmps84
  go_wp2_with fail
  refine (limbAt_int _ _ _ (n - 1) _ xs _ h (by omega) (by omega)).mono ?_
  rintro e w' ⟨rfl, rfl⟩
  go_wp2_with fail
  refine (limbAt_int _ _ _ (n - 2) _ xs _ h (by omega) (by omega)).mono ?_
  rintro e w' ⟨rfl, rfl⟩
  go_wp2
  go_quiet ((go_at_call 92; exact Calls.quiet_of_same (limbAt_int _ _ _ (n - 3) _ xs _ (h.drewN _) (by omega) (by omega))))
  go_wp2
  go_ret
  exact ⟨ret_u (by rw [or_high W _ s hs HB.out e3]; unfold hi64; rw [HW.out]), _, rfl⟩

/-- The loop of limb.multiples. -/
def MuRel (w : World) (L M K : Nat) (xs ys : List Nat) (cv bv tv : Value) (wr : World) : Prop :=
  ∃ (i C D : Nat) (rs : List Nat), i ≤ L ∧ tv = .int .i64 i ∧ cv = .int .u64 C ∧ bv = .int .u64 D ∧ C ≤ 4294967295 ∧ D ≤ 4294967295 ∧ Blk wr w.heap.size rs ∧ rs.length = L ∧ Lim rs ∧ Below w.heap.size w wr ∧
    val (rs.take i) + K * val (ys.take i) + pw i * C = M * val (xs.take i) + pw i * D
theorem MuRel.step {w wr : World} {L M K i C D : Nat} {xs ys rs : List Nat} (hM : M < 4294967296) (hK : K < 4294967296) (hx : Lim xs) (hy : Lim ys) (hi : i < L) (hC : C ≤ 4294967295) (hD : D ≤ 4294967295) (hB : Blk wr w.heap.size rs) (hl : rs.length = L) (hL : Lim rs) (hbel : Below w.heap.size w wr)
    (heq : val (rs.take i) + K * val (ys.take i) + pw i * C = M * val (xs.take i) + pw i * D) {S1 : Int} (h1 : S1 = (((C + el xs i * M) / 4294967296 : Nat) : Int)) :
    MuRel w L M K xs ys (.int .u64 S1) (.int .u64 (lesB ((C + el xs i * M) % 4294967296) (D + el ys i * K) : Nat)) (.int .i64 ((i : Int) + 1)) (wr.setCell ⟨w.heap.size, i, none⟩ (.int .u32 (lesR ((C + el xs i * M) % 4294967296) (D + el ys i * K) : Nat))) := by
  subst h1
  have m1 := mul_le (el xs i) M (el_lt hx i) hM
  have m2 := mul_le (el ys i) K (el_lt hy i) hK
  generalize hs : C + el xs i * M = sx at *
  generalize ht : D + el ys i * K = t at *
  have hle := les_eq (sx % 4294967296) t (by omega)
  refine ⟨i + 1, sx / 4294967296, lesB (sx % 4294967296) t, rs.set i (lesR (sx % 4294967296) t), by omega, rfl, rfl, rfl, by omega, lesB_lt (by omega), hB.set_ _ _, by simp [hl], Lim_set hL _ _ (lesR_lt _ _), hbel.setCell (Nat.le_refl _) _, ?_⟩
  rw [val_take_set rs i _ (by omega), val_take_step ys, val_take_step xs, pw_succ, Nat.mul_add K, Nat.mul_add M, Nat.mul_left_comm K, Nat.mul_left_comm M]
  generalize lesB (sx % 4294967296) t = lb at *
  generalize lesR (sx % 4294967296) t = lr at *
  have h3 : pw i * (sx % 4294967296 + 4294967296 * lb) = pw i * (lr + t) := by rw [hle]
  have h4 : pw i * (sx % 4294967296) + 4294967296 * pw i * (sx / 4294967296) = pw i * sx := by
    rw [Nat.mul_comm 4294967296, Nat.mul_assoc, ← Nat.mul_add, Nat.mod_add_div]
  rw [Nat.mul_add, Nat.mul_add] at h3
  have h5 : pw i * (4294967296 * lb) = 4294967296 * pw i * lb := by rw [← Nat.mul_assoc, Nat.mul_comm (pw i)]
  rw [← hs, Nat.mul_add] at h4
  rw [← ht, Nat.mul_add] at h3
  rw [Nat.mul_comm K (el ys i), Nat.mul_comm M (el xs i)]
  rw [← hs] at h3 ⊢
  omega
theorem mu_last {L M K a b v C D R : Nat} (hv : v < pw L) (hR : R < pw L) (h : v + K * b + pw L * C = M * a + pw L * D) (hd : R + K * b = M * a) : v = R := by
  have h1 : v + pw L * C = R + pw L * D := by omega
  have h2 : (v + pw L * C) % pw L = (R + pw L * D) % pw L := by rw [h1]
  rwa [Nat.add_mul_mod_self_left, Nat.add_mul_mod_self_left, Nat.mod_eq_of_lt hv, Nat.mod_eq_of_lt hR] at h2

set_option maxHeartbeats 1600000 in
theorem multiples_ge (A B : Option Addr) (n c m d M K R : Nat) (xs ys : List Nat) (w : World) (ha : Rd w A n c xs) (hb : Rd w B m d ys) (hn : n ≤ 900000) (hM : M < 4294967296) (hK : K < 4294967296) (hnm : ¬ n < m) (hR : R < pw n) (hd : R + K * val ys = M * val xs) :
    Calls Try.prog 85 #[.slice A n c, .int .u64 M, .slice B m d, .int .u64 K] w (Out w (digs R)) := by
  have hmk := fun W => mk32 (n : Int) n rfl (by omega) W
  have HX := Lib.hid ha.len
  have HY := Lib.hid hb.len
  have HD := Lib.hid hd
  have HR := Lib.hid hR
  clear hd hR
  go_enter Try.func85, Try.ntmps85
  go_wp2
  go_loopw [10, 11, 21] (fun cv bv tv wr => MuRel w n M K xs ys cv bv tv wr) (fun _ _ tv _ => n - (intOf tv).toNat)
  case atStart => exact ⟨0, 0, 0, zeros n, Nat.zero_le _, rfl, rfl, rfl, by omega, by omega, Blk.new _ _, zeros_len _, Lim_zeros _, (Below.refl _ _).alloc (Nat.le_refl _) _, by simp [val]⟩
  case round =>
    obtain ⟨i, C, D, rs, hi, rfl, rfl, rfl, hC, hD, hB, hrl, hrL, hbel, heq⟩ := hrel
    have HE := Lib.hid heq
    have HRL := Lib.hid hrl
    clear heq hrl hmk
    have hxi := el_lt ha.lim i
    have hyi := el_lt hb.lim i
    have m1 := mul_le (el xs i) M hxi hM
    have m2 := mul_le (el ys i) K hyi hK
    by_cases hiL : i < n
    · have hf := hB.frozen i
      have hc0 := hB.cell (i := i) (by rw [HRL.out]; exact hiL)
      go_wp2_with fail
      refine (limbAt_any _ _ _ i xs _ (ha.below hbel) (by omega)).mono ?_
      rintro e w' ⟨rfl, rfl⟩
      go_wp2_with fail
      refine (limbAt_any _ _ _ i ys _ (hb.below hbel) (by omega)).mono ?_
      rintro e w' ⟨rfl, rfl⟩
      go_wp2_with fail
      rw [show ((D : Int) + (el ys i : Nat) * (K : Int)) = ((D + el ys i * K : Nat) : Int) by rw [Int.natCast_add, Int.natCast_mul],
        show (((C : Int) + (el xs i : Nat) * (M : Int)) % 4294967296) = (((C + el xs i * M) % 4294967296 : Nat) : Int) by rw [Int.natCast_emod, Int.natCast_add, Int.natCast_mul]; rfl]
      refine (lessen_any ((C + el xs i * M) % 4294967296) (D + el ys i * K) _ (by omega) (by omega)).mono ?_
      rintro e w' ⟨rfl, rfl⟩
      have R1 := fun S1 h1 => MuRel.step (S1 := S1) hM hK ha.lim hb.lim hiL hC hD hB HRL.out hrL hbel HE.out h1
      have HR1 := Lib.hid R1
      clear R1
      go_wp2
      go_roundw
      case rel => exact HR1.out _ (by rw [Int.natCast_ediv, Int.natCast_add, Int.natCast_mul]; rfl)
      case measure => simp [intOf]; omega
    · obtain rfl : i = n := by omega
      have HV := Lib.hid (show val rs = R by
        have h0 := HE.out
        rw [val_take_ge rs _ (by rw [HRL.out]; exact Nat.le_refl _), val_take_ge ys _ (by rw [HY.out]; omega), val_take_ge xs _ (by rw [HX.out]; omega)] at h0
        exact mu_last (by have := val_lt hrL; rwa [HRL.out] at this) HR.out h0 HD.out)
      go_wp2_with fail
      refine (trimmed_any _ i i rs _ (hB.nw hrL HRL.out (by omega) (Nat.le_refl _)).1).mono ?_
      rintro e w' ⟨j, rfl, hj, ht, rfl⟩
      have HT := Lib.hid ht
      clear ht
      go_wp2
      go_ret
      exact out_trim hB hrL HRL.out (by omega) (Nat.le_refl _) hbel HV.out hj HT.out
set_option maxHeartbeats 1600000 in
theorem multiples_lt (A B : Option Addr) (n c m d M K R : Nat) (xs ys : List Nat) (w : World) (ha : Rd w A n c xs) (hb : Rd w B m d ys) (hm : m ≤ 900000) (hM : M < 4294967296) (hK : K < 4294967296) (hnm : n < m) (hR : R < pw m) (hd : R + K * val ys = M * val xs) :
    Calls Try.prog 85 #[.slice A n c, .int .u64 M, .slice B m d, .int .u64 K] w (Out w (digs R)) := by
  have hmk := fun W => mk32 (m : Int) m rfl (by omega) W
  have HX := Lib.hid ha.len
  have HY := Lib.hid hb.len
  have HD := Lib.hid hd
  have HR := Lib.hid hR
  clear hd hR
  go_enter Try.func85, Try.ntmps85
  go_wp2
  go_loopw [10, 11, 21] (fun cv bv tv wr => MuRel w m M K xs ys cv bv tv wr) (fun _ _ tv _ => m - (intOf tv).toNat)
  case atStart => exact ⟨0, 0, 0, zeros m, Nat.zero_le _, rfl, rfl, rfl, by omega, by omega, Blk.new _ _, zeros_len _, Lim_zeros _, (Below.refl _ _).alloc (Nat.le_refl _) _, by simp [val]⟩
  case round =>
    obtain ⟨i, C, D, rs, hi, rfl, rfl, rfl, hC, hD, hB, hrl, hrL, hbel, heq⟩ := hrel
    have HE := Lib.hid heq
    have HRL := Lib.hid hrl
    clear heq hrl hmk
    have hxi := el_lt ha.lim i
    have hyi := el_lt hb.lim i
    have m1 := mul_le (el xs i) M hxi hM
    have m2 := mul_le (el ys i) K hyi hK
    by_cases hiL : i < m
    · have hf := hB.frozen i
      have hc0 := hB.cell (i := i) (by rw [HRL.out]; exact hiL)
      go_wp2_with fail
      refine (limbAt_any _ _ _ i xs _ (ha.below hbel) (by omega)).mono ?_
      rintro e w' ⟨rfl, rfl⟩
      go_wp2_with fail
      refine (limbAt_any _ _ _ i ys _ (hb.below hbel) (by omega)).mono ?_
      rintro e w' ⟨rfl, rfl⟩
      go_wp2_with fail
      rw [show ((D : Int) + (el ys i : Nat) * (K : Int)) = ((D + el ys i * K : Nat) : Int) by rw [Int.natCast_add, Int.natCast_mul],
        show (((C : Int) + (el xs i : Nat) * (M : Int)) % 4294967296) = (((C + el xs i * M) % 4294967296 : Nat) : Int) by rw [Int.natCast_emod, Int.natCast_add, Int.natCast_mul]; rfl]
      refine (lessen_any ((C + el xs i * M) % 4294967296) (D + el ys i * K) _ (by omega) (by omega)).mono ?_
      rintro e w' ⟨rfl, rfl⟩
      have R1 := fun S1 h1 => MuRel.step (S1 := S1) hM hK ha.lim hb.lim hiL hC hD hB HRL.out hrL hbel HE.out h1
      have HR1 := Lib.hid R1
      clear R1
      go_wp2
      go_roundw
      case rel => exact HR1.out _ (by rw [Int.natCast_ediv, Int.natCast_add, Int.natCast_mul]; rfl)
      case measure => simp [intOf]; omega
    · obtain rfl : i = m := by omega
      have HV := Lib.hid (show val rs = R by
        have h0 := HE.out
        rw [val_take_ge rs _ (by rw [HRL.out]; exact Nat.le_refl _), val_take_ge ys _ (by rw [HY.out]; omega), val_take_ge xs _ (by rw [HX.out]; omega)] at h0
        exact mu_last (by have := val_lt hrL; rwa [HRL.out] at this) HR.out h0 HD.out)
      go_wp2_with fail
      refine (trimmed_any _ i i rs _ (hB.nw hrL HRL.out (by omega) (Nat.le_refl _)).1).mono ?_
      rintro e w' ⟨j, rfl, hj, ht, rfl⟩
      have HT := Lib.hid ht
      clear ht
      go_wp2
      go_ret
      exact out_trim hB hrL HRL.out (by omega) (Nat.le_refl _) hbel HV.out hj HT.out

/-- The highest bits, as a quotient. -/
theorem hi_div (xs : List Nat) (n s : Nat) (hL : Lim xs) (hn : 3 ≤ n) (hl : xs.length ≤ n) (hs : s ≤ 31) : ∃ α, α < pw (n - 2) ∧ val xs * 2 ^ s = hi64 xs n s * pw (n - 2) + α := by
  have h1 : val xs = val (xs.take (n - 3)) + pw (n - 3) * val (xs.drop (n - 3)) := by
    rcases Nat.lt_or_ge xs.length (n - 3) with h | h
    · rw [val_take_ge xs _ (by omega), List.drop_of_length_le (by omega)]; simp [val]
    · exact val_take_drop xs _ h
  have h2 := val_drop_any xs (n - 3)
  have h3 := val_drop_any xs (n - 2)
  have h4 := val_drop_any xs (n - 1)
  rw [show n - 3 + 1 = n - 2 by omega] at h2
  rw [show n - 2 + 1 = n - 1 by omega] at h3
  rw [show n - 1 + 1 = n by omega, List.drop_of_length_le (l := xs) (i := n) (by omega)] at h4
  have h4' : val (xs.drop (n - 1)) = el xs (n - 1) := h4
  rw [h4'] at h3
  rw [h3] at h2
  have hlow := val_take_lt hL (n - 3)
  have hp : 2 ^ (32 - s) * 2 ^ s = 4294967296 := by rw [← Nat.pow_add, show 32 - s + s = 32 by omega]
  have hpp : pw (n - 2) = pw (n - 3) * 4294967296 := by rw [show n - 2 = n - 3 + 1 by omega, pw_succ, Nat.mul_comm]
  unfold hi64
  generalize el xs (n - 2) + 4294967296 * el xs (n - 1) = W at *
  generalize el xs (n - 3) = e0 at *
  generalize val (xs.take (n - 3)) = low at *
  have hdm := Nat.div_add_mod e0 (2 ^ (32 - s))
  have hml := Nat.mod_lt e0 (Nat.two_pow_pos (32 - s))
  generalize e0 / 2 ^ (32 - s) = q at *
  generalize e0 % 2 ^ (32 - s) = r at *
  refine ⟨(low + pw (n - 3) * r) * 2 ^ s, ?_, ?_⟩
  · have k1 : low + pw (n - 3) * r < pw (n - 3) * (r + 1) := by rw [Nat.mul_add]; omega
    have k2 : pw (n - 3) * (r + 1) ≤ pw (n - 3) * 2 ^ (32 - s) := Nat.mul_le_mul_left _ hml
    have k3 : (low + pw (n - 3) * r) * 2 ^ s < pw (n - 3) * 2 ^ (32 - s) * 2 ^ s := Nat.mul_lt_mul_of_pos_right (by omega) (Nat.two_pow_pos s)
    rw [Nat.mul_assoc, hp, ← hpp] at k3
    exact k3
  · rw [h1, h2, ← hdm, hpp, Nat.add_mul, Nat.add_mul, Nat.add_mul]
    have k1 : pw (n - 3) * (2 ^ (32 - s) * q + r + 4294967296 * W) * 2 ^ s = pw (n - 3) * 4294967296 * q + pw (n - 3) * r * 2 ^ s + pw (n - 3) * 4294967296 * (W * 2 ^ s) := by
      rw [Nat.mul_add, Nat.mul_add, Nat.add_mul, Nat.add_mul]
      congr 1
      · congr 1
        rw [Nat.mul_assoc, Nat.mul_right_comm (2 ^ (32 - s)), hp, Nat.mul_assoc]
      · rw [Nat.mul_assoc, Nat.mul_assoc, Nat.mul_assoc]
    rw [k1, Nat.mul_comm (W * 2 ^ s), Nat.mul_comm q]
    omega
theorem hi_eq (xs : List Nat) (n s : Nat) (hL : Lim xs) (hn : 3 ≤ n) (hl : xs.length ≤ n) (hs : s ≤ 31) : hi64 xs n s = val xs * 2 ^ s / pw (n - 2) := by
  obtain ⟨α, h1, h2⟩ := hi_div xs n s hL hn hl hs
  rw [h2, Nat.mul_comm, Nat.mul_add_div (pw_pos _), Nat.div_eq_of_lt h1, Nat.add_zero]
theorem hi_le (xs ys : List Nat) (n s : Nat) (hL : Lim xs) (hL' : Lim ys) (hn : 3 ≤ n) (hl : xs.length ≤ n) (hl' : ys.length ≤ n) (hs : s ≤ 31) (h : val ys ≤ val xs) : hi64 ys n s ≤ hi64 xs n s := by
  rw [hi_eq xs n s hL hn hl hs, hi_eq ys n s hL' hn hl' hs]
  exact Nat.div_le_div_right (Nat.mul_le_mul_right _ h)
theorem two_div (xs : List Nat) (n : Nat) (hL : Lim xs) (hn : 3 ≤ n) (hl : xs.length ≤ n) : el xs (n - 2) + 4294967296 * el xs (n - 1) = val xs / pw (n - 2) := by
  have h1 : val xs = val (xs.take (n - 2)) + pw (n - 2) * val (xs.drop (n - 2)) := by
    rcases Nat.lt_or_ge xs.length (n - 2) with h | h
    · rw [val_take_ge xs _ (by omega), List.drop_of_length_le (by omega)]; simp [val]
    · exact val_take_drop xs _ h
  have h3 := val_drop_any xs (n - 2)
  have h4 := val_drop_any xs (n - 1)
  rw [show n - 2 + 1 = n - 1 by omega] at h3
  rw [show n - 1 + 1 = n by omega, List.drop_of_length_le (l := xs) (i := n) (by omega)] at h4
  have h4' : val (xs.drop (n - 1)) = el xs (n - 1) := h4
  rw [h4'] at h3
  have hlow := val_take_lt hL (n - 2)
  rw [h1, Nat.add_mul_div_left _ _ (pw_pos _), Nat.div_eq_of_lt hlow, Nat.zero_add, h3]
/-- The highest bits fit into 64. -/
theorem hi_fits {xs ys : List Nat} {n s : Nat} (hL : Lim xs) (hL' : Lim ys) (hn : 3 ≤ n) (hl : xs.length ≤ n) (hl' : ys.length ≤ n) (hs : s ≤ 31) (h : val ys ≤ val xs) (ht : el xs (n - 1) * 2 ^ s < 4294967296) :
    (el ys (n - 2) + 4294967296 * el ys (n - 1)) * 2 ^ s + 2 ^ s ≤ 18446744073709551616 := by
  have h1 : el ys (n - 2) + 4294967296 * el ys (n - 1) ≤ el xs (n - 2) + 4294967296 * el xs (n - 1) := by
    rw [two_div xs n hL hn hl, two_div ys n hL' hn hl']
    exact Nat.div_le_div_right h
  have hp : 2 ^ (32 - s) * 2 ^ s = 4294967296 := by rw [← Nat.pow_add, show 32 - s + s = 32 by omega]
  have h2 : el xs (n - 1) + 1 ≤ 2 ^ (32 - s) := by
    rw [← hp] at ht
    exact Nat.lt_of_mul_lt_mul_right ht
  have h3 := el_lt hL (n - 2)
  have h4 : (el ys (n - 2) + 4294967296 * el ys (n - 1)) + 1 ≤ 4294967296 * 2 ^ (32 - s) := by
    have : 4294967296 * (el xs (n - 1) + 1) ≤ 4294967296 * 2 ^ (32 - s) := Nat.mul_le_mul_left _ h2
    omega
  have h5 := Nat.mul_le_mul_right (2 ^ s) h4
  rw [Nat.add_mul, Nat.one_mul, Nat.mul_assoc, hp] at h5
  omega
theorem hi_lt {xs : List Nat} {n s : Nat} (hL : Lim xs) (hs : s ≤ 31) (hb : (el xs (n - 2) + 4294967296 * el xs (n - 1)) * 2 ^ s + 2 ^ s ≤ 18446744073709551616) : hi64 xs n s < 18446744073709551616 := by
  unfold hi64
  have hlt : el xs (n - 3) / 2 ^ (32 - s) < 2 ^ s := by
    rw [Nat.div_lt_iff_lt_mul (Nat.two_pow_pos _), ← Nat.pow_add, show s + (32 - s) = 32 by omega]; exact el_lt hL _
  omega
end Go.Proofs.Yteicihaigkgbnaa
