/-
  What limb.limbAt, limb.highest, limb.commonDivisorOfWords and limb.multiples do. For slices that can be read, of at most 900000 limbs; factors below 2^32.
  Plain mathematics of Euclid's algorithm in Lehmer's form: what the highest bits of two numbers tell of its steps. No program is in sight here.
-/
import Derived.Test.YtehekjlakegkpaaGreatX07
import Derived.Test.YtehekjlakegkpaaGreatX08
import Derived.Test.YtehekjlakegkpaaGreatX01
section
namespace Go.Proofs.YtehekjlakegkpaaGreat
open Go.RowKit

set_option maxHeartbeats 400000 in
/-- limb.limbAt. -/
theorem limbAt_any (A : Option Addr) (n c i : Nat) (xs : List Nat) (w : World) (h : Rd w A n c xs) (hi : i ≤ 9223372036854775807) :
    Calls Tryz.prog 229 #[.slice A n c, .int .i64 i] w fun e w' => e = .returned (.int .u64 (el xs i)) ∧ w' = w := by
  have hcap := h.cap
  have hmax := h.max
  by_cases hin : i < n
  · obtain ⟨b, o, rfl, hb, hc⟩ := h.at_ (by omega)
    have hcell := hc i hin
    have he := el_lt h.lim i
    clear hc
    have hd : ¬ ((n : Int) ≤ (i : Int)) := by omega
    go_enter Tryz.func229, Tryz.ntmps229
    go_wp2
    go_ret
    exact ⟨rfl, rfl⟩
  · have hd : ((n : Int) ≤ (i : Int)) := by omega
    rw [el_ge xs i (by rw [h.len]; omega)]
    go_enter Tryz.func229, Tryz.ntmps229
    go_wp2
    go_ret
    exact ⟨rfl, rfl⟩

set_option maxHeartbeats 400000 in
/-- limb.commonDivisorOfWords. -/
theorem words_any (x y : Nat) (w : World) (hx : x < 18446744073709551616) (hy : y < 18446744073709551616) :
    Calls Tryz.prog 182 #[.int .u64 x, .int .u64 y] w (Quiet w (.int .u64 (Nat.gcd x y))) := by
  go_enter Tryz.func182, Tryz.ntmps182
  go_wp2
  go_loopw [0, 1] (fun xv yv wr => ∃ u v q : Nat, xv = .int .u64 u ∧ yv = .int .u64 v ∧ Hid (Nat.gcd u v = Nat.gcd x y) ∧ u < 18446744073709551616 ∧ v < 18446744073709551616 ∧ wr = w.drewN q) (fun _ yv _ => (intOf yv).toNat)
  case atStart => exact ⟨x, y, 0, rfl, rfl, rfl, hx, hy, rfl⟩
  case round =>
    obtain ⟨u, v, q, rfl, rfl, hg, hu, hv, rfl⟩ := hrel
    by_cases hv0 : v = 0
    · subst hv0
      have HG := Lib.hid (show u = Nat.gcd x y by have := hg.out; rwa [Nat.gcd_zero_right] at this)
      go_wp2
      go_ret
      exact ⟨by rw [← HG.out]; rfl, q, rfl⟩
    · have hne : ((v : Int) != 0) = true := by simp; omega
      have hne' : ((v : Int) == 0) = false := by simp; omega
      have hvp : (0 : Int) < (v : Int) := by omega
      have hm : u % v < v := Nat.mod_lt u (by omega)
      go_wp2
      go_quiet (fail)
      go_wp2
      go_roundw
      case rel => exact ⟨v, u % v, _, rfl, by rw [Int.natCast_emod], by show Nat.gcd v (u % v) = _; rw [Nat.gcd_comm, ← Nat.gcd_rec, Nat.gcd_comm]; exact hg.out, hv, by omega, World.drewN_drewN ..⟩
      case measure => simp [intOf]; omega
theorem limbAt_int (A : Option Addr) (n c i : Nat) (I : Int) (xs : List Nat) (w : World) (h : Rd w A n c xs) (hI : I = i) (hi : i ≤ 9223372036854775807) :
    Calls Tryz.prog 229 #[.slice A n c, .int .i64 I] w fun e w' => e = .returned (.int .u64 (el xs i)) ∧ w' = w := by
  subst hI; exact limbAt_any A n c i xs w h hi

theorem ret_u {a b : Int} (h : a = b) : Ending.returned (.int .u64 a) = .returned (.int .u64 b) := by rw [h]
/-- The highest 64 bits. -/
def hi64 (xs : List Nat) (n s : Nat) : Nat := (el xs (n - 2) + 4294967296 * el xs (n - 1)) * 2 ^ s + el xs (n - 3) / 2 ^ (32 - s)

theorem or_high (W e s : Nat) (hs : s ≤ 31) (hb : W * 2 ^ s + 2 ^ s ≤ 18446744073709551616) (he : e < 4294967296) :
    bits .or .u64 (IntKind.u64.wrap ((W : Int) * 2 ^ s)) ((e : Int) / 2 ^ (32 - s)) = ((W * 2 ^ s + e / 2 ^ (32 - s) : Nat) : Int) := by
  have hp := Nat.two_pow_pos s
  have e1 : ((W : Int) * 2 ^ s) = ((W * 2 ^ s : Nat) : Int) := by rw [Int.natCast_mul, Int.natCast_pow]; rfl
  have e2 : ((e : Int) / 2 ^ (32 - s)) = ((e / 2 ^ (32 - s) : Nat) : Int) := by rw [Int.natCast_ediv, Int.natCast_pow]; rfl
  have hlt : e / 2 ^ (32 - s) < 2 ^ s := by
    rw [Nat.div_lt_iff_lt_mul (Nat.two_pow_pos _), ← Nat.pow_add, show s + (32 - s) = 32 by omega]; exact he
  rw [e1, e2, IntKind.wrap_u64]
  have hm : W * 2 ^ s % 2 ^ s = 0 := Nat.mul_mod_left _ _
  generalize W * 2 ^ s = z at *
  generalize e / 2 ^ (32 - s) = y at *
  rw [show ((z : Int) % 18446744073709551616) = (z : Int) by omega, u64_or_nat _ _ (by omega) (by omega), nat_join s _ _ hm hlt]

set_option maxHeartbeats 800000 in
/-- limb.highest. -/
theorem highest_any (A : Option Addr) (m c n s : Nat) (xs : List Nat) (w : World) (h : Rd w A m c xs) (hn : 3 ≤ n) (hnn : n ≤ 900000) (hs : s ≤ 31) (hb : (el xs (n - 2) + 4294967296 * el xs (n - 1)) * 2 ^ s + 2 ^ s ≤ 18446744073709551616) :
    Calls Tryz.prog 214 #[.slice A m c, .int .i64 n, .int .i64 s] w (Quiet w (.int .u64 (hi64 xs n s))) := by
  have e1 := el_lt h.lim (n - 1)
  have e2 := el_lt h.lim (n - 2)
  have e3 := el_lt h.lim (n - 3)
  have hor := or_lo (el xs (n - 2)) (el xs (n - 1)) e2 e1
  obtain ⟨W, hW⟩ : ∃ W, el xs (n - 2) + 4294967296 * el xs (n - 1) = W := ⟨_, rfl⟩
  rw [hW] at hor hb
  have HW := Lib.hid hW
  have HB := Lib.hid hb
  have hWl : W < 18446744073709551616 := by omega
  clear hW hb
  go_enter Tryz.func214, Tryz.ntmps214
  go_wp2_with fail
  refine (limbAt_int _ _ _ (n - 1) _ xs _ h (by omega) (by omega)).mono ?_
  rintro e w' ⟨rfl, rfl⟩
  go_wp2_with fail
  refine (limbAt_int _ _ _ (n - 2) _ xs _ h (by omega) (by omega)).mono ?_
  rintro e w' ⟨rfl, rfl⟩
  go_wp2
  go_quiet ((go_at_call 229; exact Calls.quiet_of_same (limbAt_int _ _ _ (n - 3) _ xs _ (h.drewN _) (by omega) (by omega))))
  go_wp2
  go_ret
  exact ⟨ret_u (by rw [or_high W _ s hs HB.out e3]; unfold hi64; rw [HW.out]), _, rfl⟩

/-- The loop of limb.multiples. -/
def MuRel (w : World) (L M K : Nat) (xs ys : List Nat) (cv bv tv : Value) (wr : World) : Prop :=
  ∃ (i C D : Nat) (rs : List Nat), i ≤ L ∧ tv = .int .i64 i ∧ cv = .int .u64 C ∧ bv = .int .u64 D ∧ C ≤ 4294967295 ∧ D ≤ 4294967295 ∧ Blk wr w.heap.size rs ∧ rs.length = L ∧ Lim rs ∧ Below w.heap.size w wr ∧
    val (rs.take i) + K * val (ys.take i) + pw i * C = M * val (xs.take i) + pw i * D
theorem MuRel.step {w wr : World} {L M K i C D : Nat} {xs ys rs : List Nat} (hM : M < 4294967296) (hK : K < 4294967296) (hx : Lim xs) (hy : Lim ys) (hi : i < L) (hC : C ≤ 4294967295) (hD : D ≤ 4294967295) (hB : Blk wr w.heap.size rs) (hl : rs.length = L) (hL : Lim rs) (hbel : Below w.heap.size w wr)
    (heq : val (rs.take i) + K * val (ys.take i) + pw i * C = M * val (xs.take i) + pw i * D) {S1 : Int} (h1 : S1 = (((C + el xs i * M) / 4294967296 : Nat) : Int)) :
    MuRel w L M K xs ys (.int .u64 S1) (.int .u64 (lesB ((C + el xs i * M) % 4294967296) (D + el ys i * K) : Nat)) (.int .i64 ((i : Int) + 1)) (wr.setCell ⟨w.heap.size, i, none⟩ (.int .u32 (lesR ((C + el xs i * M) % 4294967296) (D + el ys i * K) : Nat))) := by
  subst h1
  have m1 := mul_le (el xs i) M (el_lt hx i) hM
  have m2 := mul_le (el ys i) K (el_lt hy i) hK
  generalize hs : C + el xs i * M = sx at *
  generalize ht : D + el ys i * K = t at *
  have hle := les_eq (sx % 4294967296) t (by omega)
  refine ⟨i + 1, sx / 4294967296, lesB (sx % 4294967296) t, rs.set i (lesR (sx % 4294967296) t), by omega, rfl, rfl, rfl, by omega, lesB_lt (by omega), hB.set_ _ _, by simp [hl], Lim_set hL _ _ (lesR_lt _ _), hbel.setCell (Nat.le_refl _) _, ?_⟩
  rw [val_take_set rs i _ (by omega), val_take_step ys, val_take_step xs, pw_succ, Nat.mul_add K, Nat.mul_add M, Nat.mul_left_comm K, Nat.mul_left_comm M]
  generalize lesB (sx % 4294967296) t = lb at *
  generalize lesR (sx % 4294967296) t = lr at *
  have h3 : pw i * (sx % 4294967296 + 4294967296 * lb) = pw i * (lr + t) := by rw [hle]
  have h4 : pw i * (sx % 4294967296) + 4294967296 * pw i * (sx / 4294967296) = pw i * sx := by
    rw [Nat.mul_comm 4294967296, Nat.mul_assoc, ← Nat.mul_add, Nat.mod_add_div]
  rw [Nat.mul_add, Nat.mul_add] at h3
  have h5 : pw i * (4294967296 * lb) = 4294967296 * pw i * lb := by rw [← Nat.mul_assoc, Nat.mul_comm (pw i)]
  rw [← hs, Nat.mul_add] at h4
  rw [← ht, Nat.mul_add] at h3
  rw [Nat.mul_comm K (el ys i), Nat.mul_comm M (el xs i)]
  rw [← hs] at h3 ⊢
  omega
theorem mu_last {L M K a b v C D R : Nat} (hv : v < pw L) (hR : R < pw L) (h : v + K * b + pw L * C = M * a + pw L * D) (hd : R + K * b = M * a) : v = R := by
  have h1 : v + pw L * C = R + pw L * D := by omega
  have h2 : (v + pw L * C) % pw L = (R + pw L * D) % pw L := by rw [h1]
  rwa [Nat.add_mul_mod_self_left, Nat.add_mul_mod_self_left, Nat.mod_eq_of_lt hv, Nat.mod_eq_of_lt hR] at h2

set_option maxHeartbeats 1600000 in
theorem multiples_ge (A B : Option Addr) (n c m d M K R : Nat) (xs ys : List Nat) (w : World) (ha : Rd w A n c xs) (hb : Rd w B m d ys) (hn : n ≤ 900000) (hM : M < 4294967296) (hK : K < 4294967296) (hnm : ¬ n < m) (hR : R < pw n) (hd : R + K * val ys = M * val xs) :
    Calls Tryz.prog 215 #[.slice A n c, .int .u64 M, .slice B m d, .int .u64 K] w (Out w (digs R)) := by
  have hmk := fun W => mk32 (n : Int) n rfl (by omega) W
  have HX := Lib.hid ha.len
  have HY := Lib.hid hb.len
  have HD := Lib.hid hd
  have HR := Lib.hid hR
  clear hd hR
  go_enter Tryz.func215, Tryz.ntmps215
  go_wp2
  go_loopw [10, 11, 21] (fun cv bv tv wr => MuRel w n M K xs ys cv bv tv wr) (fun _ _ tv _ => n - (intOf tv).toNat)
  case atStart => exact ⟨0, 0, 0, zeros n, Nat.zero_le _, rfl, rfl, rfl, by omega, by omega, Blk.new _ _, zeros_len _, Lim_zeros _, (Below.refl _ _).alloc (Nat.le_refl _) _, by simp [val]⟩
  case round =>
    obtain ⟨i, C, D, rs, hi, rfl, rfl, rfl, hC, hD, hB, hrl, hrL, hbel, heq⟩ := hrel
    have HE := Lib.hid heq
    have HRL := Lib.hid hrl
    clear heq hrl hmk
    have hxi := el_lt ha.lim i
    have hyi := el_lt hb.lim i
    have m1 := mul_le (el xs i) M hxi hM
    have m2 := mul_le (el ys i) K hyi hK
    by_cases hiL : i < n
    · have hf := hB.frozen i
      have hc0 := hB.cell (i := i) (by rw [HRL.out]; exact hiL)
      go_wp2_with fail
      refine (limbAt_any _ _ _ i xs _ (ha.below hbel) (by omega)).mono ?_
      rintro e w' ⟨rfl, rfl⟩
      go_wp2_with fail
      refine (limbAt_any _ _ _ i ys _ (hb.below hbel) (by omega)).mono ?_
      rintro e w' ⟨rfl, rfl⟩
      go_wp2_with fail
      rw [show ((D : Int) + (el ys i : Nat) * (K : Int)) = ((D + el ys i * K : Nat) : Int) by rw [Int.natCast_add, Int.natCast_mul],
        show (((C : Int) + (el xs i : Nat) * (M : Int)) % 4294967296) = (((C + el xs i * M) % 4294967296 : Nat) : Int) by rw [Int.natCast_emod, Int.natCast_add, Int.natCast_mul]; rfl]
      refine (lessen_any ((C + el xs i * M) % 4294967296) (D + el ys i * K) _ (by omega) (by omega)).mono ?_
      rintro e w' ⟨rfl, rfl⟩
      have R1 := fun S1 h1 => MuRel.step (S1 := S1) hM hK ha.lim hb.lim hiL hC hD hB HRL.out hrL hbel HE.out h1
      have HR1 := Lib.hid R1
      clear R1
      go_wp2
      go_roundw
      case rel => exact HR1.out _ (by rw [Int.natCast_ediv, Int.natCast_add, Int.natCast_mul]; rfl)
      case measure => simp [intOf]; omega
    · obtain rfl : i = n := by omega
      have HV := Lib.hid (show val rs = R by
        have h0 := HE.out
        rw [val_take_ge rs _ (by rw [HRL.out]; exact Nat.le_refl _), val_take_ge ys _ (by rw [HY.out]; omega), val_take_ge xs _ (by rw [HX.out]; omega)] at h0
        exact mu_last (by have := val_lt hrL; rwa [HRL.out] at this) HR.out h0 HD.out)
      go_wp2_with fail
      refine (trimmed_any _ i i rs _ (hB.nw hrL HRL.out (by omega) (Nat.le_refl _)).1).mono ?_
      rintro e w' ⟨j, rfl, hj, ht, rfl⟩
      have HT := Lib.hid ht
      clear ht
      go_wp2
      go_ret
      exact out_trim hB hrL HRL.out (by omega) (Nat.le_refl _) hbel HV.out hj HT.out
set_option maxHeartbeats 1600000 in
theorem multiples_lt (A B : Option Addr) (n c m d M K R : Nat) (xs ys : List Nat) (w : World) (ha : Rd w A n c xs) (hb : Rd w B m d ys) (hm : m ≤ 900000) (hM : M < 4294967296) (hK : K < 4294967296) (hnm : n < m) (hR : R < pw m) (hd : R + K * val ys = M * val xs) :
    Calls Tryz.prog 215 #[.slice A n c, .int .u64 M, .slice B m d, .int .u64 K] w (Out w (digs R)) := by
  have hmk := fun W => mk32 (m : Int) m rfl (by omega) W
  have HX := Lib.hid ha.len
  have HY := Lib.hid hb.len
  have HD := Lib.hid hd
  have HR := Lib.hid hR
  clear hd hR
  go_enter Tryz.func215, Tryz.ntmps215
  go_wp2
  go_loopw [10, 11, 21] (fun cv bv tv wr => MuRel w m M K xs ys cv bv tv wr) (fun _ _ tv _ => m - (intOf tv).toNat)
  case atStart => exact ⟨0, 0, 0, zeros m, Nat.zero_le _, rfl, rfl, rfl, by omega, by omega, Blk.new _ _, zeros_len _, Lim_zeros _, (Below.refl _ _).alloc (Nat.le_refl _) _, by simp [val]⟩
  case round =>
    obtain ⟨i, C, D, rs, hi, rfl, rfl, rfl, hC, hD, hB, hrl, hrL, hbel, heq⟩ := hrel
    have HE := Lib.hid heq
    have HRL := Lib.hid hrl
    clear heq hrl hmk
    have hxi := el_lt ha.lim i
    have hyi := el_lt hb.lim i
    have m1 := mul_le (el xs i) M hxi hM
    have m2 := mul_le (el ys i) K hyi hK
    by_cases hiL : i < m
    · have hf := hB.frozen i
      have hc0 := hB.cell (i := i) (by rw [HRL.out]; exact hiL)
      go_wp2_with fail
      refine (limbAt_any _ _ _ i xs _ (ha.below hbel) (by omega)).mono ?_
      rintro e w' ⟨rfl, rfl⟩
      go_wp2_with fail
      refine (limbAt_any _ _ _ i ys _ (hb.below hbel) (by omega)).mono ?_
      rintro e w' ⟨rfl, rfl⟩
      go_wp2_with fail
      rw [show ((D : Int) + (el ys i : Nat) * (K : Int)) = ((D + el ys i * K : Nat) : Int) by rw [Int.natCast_add, Int.natCast_mul],
        show (((C : Int) + (el xs i : Nat) * (M : Int)) % 4294967296) = (((C + el xs i * M) % 4294967296 : Nat) : Int) by rw [Int.natCast_emod, Int.natCast_add, Int.natCast_mul]; rfl]
      refine (lessen_any ((C + el xs i * M) % 4294967296) (D + el ys i * K) _ (by omega) (by omega)).mono ?_
      rintro e w' ⟨rfl, rfl⟩
      have R1 := fun S1 h1 => MuRel.step (S1 := S1) hM hK ha.lim hb.lim hiL hC hD hB HRL.out hrL hbel HE.out h1
      have HR1 := Lib.hid R1
      clear R1
      go_wp2
      go_roundw
      case rel => exact HR1.out _ (by rw [Int.natCast_ediv, Int.natCast_add, Int.natCast_mul]; rfl)
      case measure => simp [intOf]; omega
    · obtain rfl : i = m := by omega
      have HV := Lib.hid (show val rs = R by
        have h0 := HE.out
        rw [val_take_ge rs _ (by rw [HRL.out]; exact Nat.le_refl _), val_take_ge ys _ (by rw [HY.out]; omega), val_take_ge xs _ (by rw [HX.out]; omega)] at h0
        exact mu_last (by have := val_lt hrL; rwa [HRL.out] at this) HR.out h0 HD.out)
      go_wp2_with fail
      refine (trimmed_any _ i i rs _ (hB.nw hrL HRL.out (by omega) (Nat.le_refl _)).1).mono ?_
      rintro e w' ⟨j, rfl, hj, ht, rfl⟩
      have HT := Lib.hid ht
      clear ht
      go_wp2
      go_ret
      exact out_trim hB hrL HRL.out (by omega) (Nat.le_refl _) hbel HV.out hj HT.out

/-- The highest bits, as a quotient. -/
theorem hi_div (xs : List Nat) (n s : Nat) (hL : Lim xs) (hn : 3 ≤ n) (hl : xs.length ≤ n) (hs : s ≤ 31) : ∃ α, α < pw (n - 2) ∧ val xs * 2 ^ s = hi64 xs n s * pw (n - 2) + α := by
  have h1 : val xs = val (xs.take (n - 3)) + pw (n - 3) * val (xs.drop (n - 3)) := by
    rcases Nat.lt_or_ge xs.length (n - 3) with h | h
    · rw [val_take_ge xs _ (by omega), List.drop_of_length_le (by omega)]; simp [val]
    · exact val_take_drop xs _ h
  have h2 := val_drop_any xs (n - 3)
  have h3 := val_drop_any xs (n - 2)
  have h4 := val_drop_any xs (n - 1)
  rw [show n - 3 + 1 = n - 2 by omega] at h2
  rw [show n - 2 + 1 = n - 1 by omega] at h3
  rw [show n - 1 + 1 = n by omega, List.drop_of_length_le (l := xs) (i := n) (by omega)] at h4
  have h4' : val (xs.drop (n - 1)) = el xs (n - 1) := h4
  rw [h4'] at h3
  rw [h3] at h2
  have hlow := val_take_lt hL (n - 3)
  have hp : 2 ^ (32 - s) * 2 ^ s = 4294967296 := by rw [← Nat.pow_add, show 32 - s + s = 32 by omega]
  have hpp : pw (n - 2) = pw (n - 3) * 4294967296 := by rw [show n - 2 = n - 3 + 1 by omega, pw_succ, Nat.mul_comm]
  unfold hi64
  generalize el xs (n - 2) + 4294967296 * el xs (n - 1) = W at *
  generalize el xs (n - 3) = e0 at *
  generalize val (xs.take (n - 3)) = low at *
  have hdm := Nat.div_add_mod e0 (2 ^ (32 - s))
  have hml := Nat.mod_lt e0 (Nat.two_pow_pos (32 - s))
  generalize e0 / 2 ^ (32 - s) = q at *
  generalize e0 % 2 ^ (32 - s) = r at *
  refine ⟨(low + pw (n - 3) * r) * 2 ^ s, ?_, ?_⟩
  · have k1 : low + pw (n - 3) * r < pw (n - 3) * (r + 1) := by rw [Nat.mul_add]; omega
    have k2 : pw (n - 3) * (r + 1) ≤ pw (n - 3) * 2 ^ (32 - s) := Nat.mul_le_mul_left _ hml
    have k3 : (low + pw (n - 3) * r) * 2 ^ s < pw (n - 3) * 2 ^ (32 - s) * 2 ^ s := Nat.mul_lt_mul_of_pos_right (by omega) (Nat.two_pow_pos s)
    rw [Nat.mul_assoc, hp, ← hpp] at k3
    exact k3
  · rw [h1, h2, ← hdm, hpp, Nat.add_mul, Nat.add_mul, Nat.add_mul]
    have k1 : pw (n - 3) * (2 ^ (32 - s) * q + r + 4294967296 * W) * 2 ^ s = pw (n - 3) * 4294967296 * q + pw (n - 3) * r * 2 ^ s + pw (n - 3) * 4294967296 * (W * 2 ^ s) := by
      rw [Nat.mul_add, Nat.mul_add, Nat.add_mul, Nat.add_mul]
      congr 1
      · congr 1
        rw [Nat.mul_assoc, Nat.mul_right_comm (2 ^ (32 - s)), hp, Nat.mul_assoc]
      · rw [Nat.mul_assoc, Nat.mul_assoc, Nat.mul_assoc]
    rw [k1, Nat.mul_comm (W * 2 ^ s), Nat.mul_comm q]
    omega
theorem hi_eq (xs : List Nat) (n s : Nat) (hL : Lim xs) (hn : 3 ≤ n) (hl : xs.length ≤ n) (hs : s ≤ 31) : hi64 xs n s = val xs * 2 ^ s / pw (n - 2) := by
  obtain ⟨α, h1, h2⟩ := hi_div xs n s hL hn hl hs
  rw [h2, Nat.mul_comm, Nat.mul_add_div (pw_pos _), Nat.div_eq_of_lt h1, Nat.add_zero]
theorem hi_le (xs ys : List Nat) (n s : Nat) (hL : Lim xs) (hL' : Lim ys) (hn : 3 ≤ n) (hl : xs.length ≤ n) (hl' : ys.length ≤ n) (hs : s ≤ 31) (h : val ys ≤ val xs) : hi64 ys n s ≤ hi64 xs n s := by
  rw [hi_eq xs n s hL hn hl hs, hi_eq ys n s hL' hn hl' hs]
  exact Nat.div_le_div_right (Nat.mul_le_mul_right _ h)
theorem two_div (xs : List Nat) (n : Nat) (hL : Lim xs) (hn : 3 ≤ n) (hl : xs.length ≤ n) : el xs (n - 2) + 4294967296 * el xs (n - 1) = val xs / pw (n - 2) := by
  have h1 : val xs = val (xs.take (n - 2)) + pw (n - 2) * val (xs.drop (n - 2)) := by
    rcases Nat.lt_or_ge xs.length (n - 2) with h | h
    · rw [val_take_ge xs _ (by omega), List.drop_of_length_le (by omega)]; simp [val]
    · exact val_take_drop xs _ h
  have h3 := val_drop_any xs (n - 2)
  have h4 := val_drop_any xs (n - 1)
  rw [show n - 2 + 1 = n - 1 by omega] at h3
  rw [show n - 1 + 1 = n by omega, List.drop_of_length_le (l := xs) (i := n) (by omega)] at h4
  have h4' : val (xs.drop (n - 1)) = el xs (n - 1) := h4
  rw [h4'] at h3
  have hlow := val_take_lt hL (n - 2)
  rw [h1, Nat.add_mul_div_left _ _ (pw_pos _), Nat.div_eq_of_lt hlow, Nat.zero_add, h3]
/-- The highest bits fit into 64. -/
theorem hi_fits {xs ys : List Nat} {n s : Nat} (hL : Lim xs) (hL' : Lim ys) (hn : 3 ≤ n) (hl : xs.length ≤ n) (hl' : ys.length ≤ n) (hs : s ≤ 31) (h : val ys ≤ val xs) (ht : el xs (n - 1) * 2 ^ s < 4294967296) :
    (el ys (n - 2) + 4294967296 * el ys (n - 1)) * 2 ^ s + 2 ^ s ≤ 18446744073709551616 := by
  have h1 : el ys (n - 2) + 4294967296 * el ys (n - 1) ≤ el xs (n - 2) + 4294967296 * el xs (n - 1) := by
    rw [two_div xs n hL hn hl, two_div ys n hL' hn hl']
    exact Nat.div_le_div_right h
  have hp : 2 ^ (32 - s) * 2 ^ s = 4294967296 := by rw [← Nat.pow_add, show 32 - s + s = 32 by omega]
  have h2 : el xs (n - 1) + 1 ≤ 2 ^ (32 - s) := by
    rw [← hp] at ht
    exact Nat.lt_of_mul_lt_mul_right ht
  have h3 := el_lt hL (n - 2)
  have h4 : (el ys (n - 2) + 4294967296 * el ys (n - 1)) + 1 ≤ 4294967296 * 2 ^ (32 - s) := by
    have : 4294967296 * (el xs (n - 1) + 1) ≤ 4294967296 * 2 ^ (32 - s) := Nat.mul_le_mul_left _ h2
    omega
  have h5 := Nat.mul_le_mul_right (2 ^ s) h4
  rw [Nat.add_mul, Nat.one_mul, Nat.mul_assoc, hp] at h5
  omega
theorem hi_lt {xs : List Nat} {n s : Nat} (hL : Lim xs) (hs : s ≤ 31) (hb : (el xs (n - 2) + 4294967296 * el xs (n - 1)) * 2 ^ s + 2 ^ s ≤ 18446744073709551616) : hi64 xs n s < 18446744073709551616 := by
  unfold hi64
  have hlt : el xs (n - 3) / 2 ^ (32 - s) < 2 ^ s := by
    rw [Nat.div_lt_iff_lt_mul (Nat.two_pow_pos _), ← Nat.pow_add, show s + (32 - s) = 32 by omega]; exact el_lt hL _
  omega
end Go.Proofs.YtehekjlakegkpaaGreat
end
section
namespace Go.Proofs.YtehekjlakegkpaaGreat

/-- If the highest bits show m times the one and D more to be k times the other, D not below m, then m times the one is less than k times the other. -/
theorem top_lt {a b S X Y P α β m k D : Nat} (ha : a * S = X * P + α) (hb : b * S = Y * P + β) (hα : α < P) (h : D + m * X = k * Y) (hD : m ≤ D) (hD1 : 1 ≤ D) : m * a < k * b := by
  have h1 : k * (b * S) = k * (Y * P) + k * β := by rw [hb, Nat.mul_add]
  have h2 : m * (a * S) = m * (X * P) + m * α := by rw [ha, Nat.mul_add]
  have h3 : k * (Y * P) = (D + m * X) * P := by rw [h, Nat.mul_assoc]
  rw [Nat.add_mul, Nat.mul_assoc] at h3
  have h4 : m * α < D * P := by
    rcases Nat.eq_zero_or_pos m with e | e
    · subst e; rw [Nat.zero_mul]; exact Nat.mul_pos hD1 (by omega)
    · exact Nat.lt_of_lt_of_le (Nat.mul_lt_mul_of_pos_left hα e) (Nat.mul_le_mul_right _ hD)
  have h5 : (m * a) * S < (k * b) * S := by rw [Nat.mul_assoc, Nat.mul_assoc]; omega
  exact Nat.lt_of_mul_lt_mul_right h5

/-- What some steps make of a and b: R0 and R1. -/
def Pkg (a b a0 b0 a1 b1 R0 R1 : Nat) (ev : Bool) : Prop :=
  R1 < R0 ∧ 0 < R1 ∧ R1 ≤ b ∧ (b0 ≠ 0 → R1 < b) ∧
    (ev = true → a0 * b1 = a1 * b0 + 1 ∧ R0 + b0 * b = a0 * a ∧ R1 + a1 * a = b1 * b) ∧
    (ev = false → a1 * b0 = a0 * b1 + 1 ∧ R0 + a0 * a = b0 * b ∧ R1 + b1 * b = a1 * a)
theorem Pkg.combo {a b a0 b0 a1 b1 R0 R1 : Nat} {ev : Bool} (h : Pkg a b a0 b0 a1 b1 R0 R1 ev) : a = b1 * R0 + b0 * R1 ∧ b = a1 * R0 + a0 * R1 := by
  obtain ⟨_, _, _, _, ht, hf⟩ := h
  cases ev with
  | true =>
    obtain ⟨h1, h2, h3⟩ := ht rfl
    have e1 : b1 * (R0 + b0 * b) = b1 * (a0 * a) := by rw [h2]
    have e2 : b0 * (R1 + a1 * a) = b0 * (b1 * b) := by rw [h3]
    have e3 : a1 * (R0 + b0 * b) = a1 * (a0 * a) := by rw [h2]
    have e4 : a0 * (R1 + a1 * a) = a0 * (b1 * b) := by rw [h3]
    have d1 : (a0 * b1) * a = (a1 * b0) * a + a := by rw [h1, Nat.add_mul, Nat.one_mul]
    have d2 : (a0 * b1) * b = (a1 * b0) * b + b := by rw [h1, Nat.add_mul, Nat.one_mul]
    rw [Nat.mul_add] at e1 e2 e3 e4
    have f1 : b1 * (a0 * a) = (a0 * b1) * a := by rw [Nat.mul_left_comm, ← Nat.mul_assoc]
    have f2 : b0 * (a1 * a) = (a1 * b0) * a := by rw [Nat.mul_left_comm, ← Nat.mul_assoc]
    have f3 : b1 * (b0 * b) = b0 * (b1 * b) := Nat.mul_left_comm _ _ _
    have f4 : a0 * (b1 * b) = (a0 * b1) * b := (Nat.mul_assoc _ _ _).symm
    have f5 : a1 * (b0 * b) = (a1 * b0) * b := (Nat.mul_assoc _ _ _).symm
    have f6 : a0 * (a1 * a) = a1 * (a0 * a) := Nat.mul_left_comm _ _ _
    constructor <;> omega
  | false =>
    obtain ⟨h1, h2, h3⟩ := hf rfl
    have e1 : b1 * (R0 + a0 * a) = b1 * (b0 * b) := by rw [h2]
    have e2 : b0 * (R1 + b1 * b) = b0 * (a1 * a) := by rw [h3]
    have e3 : a1 * (R0 + a0 * a) = a1 * (b0 * b) := by rw [h2]
    have e4 : a0 * (R1 + b1 * b) = a0 * (a1 * a) := by rw [h3]
    have d1 : (a1 * b0) * a = (a0 * b1) * a + a := by rw [h1, Nat.add_mul, Nat.one_mul]
    have d2 : (a1 * b0) * b = (a0 * b1) * b + b := by rw [h1, Nat.add_mul, Nat.one_mul]
    rw [Nat.mul_add] at e1 e2 e3 e4
    have f1 : b1 * (a0 * a) = (a0 * b1) * a := by rw [Nat.mul_left_comm, ← Nat.mul_assoc]
    have f2 : b0 * (a1 * a) = (a1 * b0) * a := by rw [Nat.mul_left_comm, ← Nat.mul_assoc]
    have f3 : b1 * (b0 * b) = b0 * (b1 * b) := Nat.mul_left_comm _ _ _
    have f4 : a0 * (b1 * b) = (a0 * b1) * b := (Nat.mul_assoc _ _ _).symm
    have f5 : a1 * (b0 * b) = (a1 * b0) * b := (Nat.mul_assoc _ _ _).symm
    have f6 : a0 * (a1 * a) = a1 * (a0 * a) := Nat.mul_left_comm _ _ _
    constructor <;> omega
theorem dvd_of_add {d x y z : Nat} (h : x + y = z) (hy : d ∣ y) (hz : d ∣ z) : d ∣ x := by
  rw [← h] at hz
  exact (Nat.dvd_add_iff_left hy).2 hz
theorem Pkg.gcd {a b a0 b0 a1 b1 R0 R1 : Nat} {ev : Bool} (h : Pkg a b a0 b0 a1 b1 R0 R1 ev) : Nat.gcd R0 R1 = Nat.gcd a b := by
  have hc := h.combo
  obtain ⟨_, _, _, _, ht, hf⟩ := h
  apply Nat.dvd_antisymm
  · apply Nat.dvd_gcd
    · rw [hc.1]; exact Nat.dvd_add (Nat.dvd_mul_left_of_dvd (Nat.gcd_dvd_left _ _) _) (Nat.dvd_mul_left_of_dvd (Nat.gcd_dvd_right _ _) _)
    · rw [hc.2]; exact Nat.dvd_add (Nat.dvd_mul_left_of_dvd (Nat.gcd_dvd_left _ _) _) (Nat.dvd_mul_left_of_dvd (Nat.gcd_dvd_right _ _) _)
  · cases ev with
    | true =>
      obtain ⟨_, h2, h3⟩ := ht rfl
      exact Nat.dvd_gcd (dvd_of_add h2 (Nat.dvd_mul_left_of_dvd (Nat.gcd_dvd_right _ _) _) (Nat.dvd_mul_left_of_dvd (Nat.gcd_dvd_left _ _) _)) (dvd_of_add h3 (Nat.dvd_mul_left_of_dvd (Nat.gcd_dvd_left _ _) _) (Nat.dvd_mul_left_of_dvd (Nat.gcd_dvd_right _ _) _))
    | false =>
      obtain ⟨_, h2, h3⟩ := hf rfl
      exact Nat.dvd_gcd (dvd_of_add h2 (Nat.dvd_mul_left_of_dvd (Nat.gcd_dvd_left _ _) _) (Nat.dvd_mul_left_of_dvd (Nat.gcd_dvd_right _ _) _)) (dvd_of_add h3 (Nat.dvd_mul_left_of_dvd (Nat.gcd_dvd_right _ _) _) (Nat.dvd_mul_left_of_dvd (Nat.gcd_dvd_left _ _) _))
theorem Pkg.le {a b a0 b0 a1 b1 R0 R1 : Nat} {ev : Bool} (h : Pkg a b a0 b0 a1 b1 R0 R1 ev) (hb1 : 1 ≤ b1) : R0 ≤ a := by
  have := h.combo.1
  have h2 : 1 * R0 ≤ b1 * R0 := Nat.mul_le_mul_right _ hb1
  omega

/-- What the highest bits tell: x and y of X and Y, by the factors. -/
def Sim (X Y x y a1 b1 a2 b2 : Nat) (ev : Bool) : Prop :=
  b2 * x + b1 * y = X ∧ y ≤ x ∧ 1 ≤ b2 ∧ a2 ≤ b2 ∧ a1 + a2 ≤ b1 + b2 ∧
    (ev = false → x + b1 * Y = a1 * X ∧ y + a2 * X = b2 * Y ∧ a1 * b2 = a2 * b1 + 1) ∧
    (ev = true → x + a1 * X = b1 * Y ∧ y + b2 * Y = a2 * X ∧ a2 * b1 = a1 * b2 + 1)
theorem Sim.start {X Y : Nat} (h : Y ≤ X) : Sim X Y X Y 1 0 0 1 false :=
  ⟨by omega, h, by omega, by omega, by omega, fun _ => ⟨by omega, by omega, by omega⟩, fun e => by cases e⟩
theorem sim_bounds {X Y x y a1 b1 a2 b2 : Nat} {ev : Bool} (h : Sim X Y x y a1 b1 a2 b2 ev) (hX : X < 18446744073709551616) (h1 : b2 ≤ y) : b2 < 4294967296 ∧ a2 < 4294967296 ∧ 0 < y := by
  obtain ⟨e1, e2, e3, e4, _⟩ := h
  have h2 : b2 * b2 ≤ b2 * x := Nat.mul_le_mul_left _ (by omega)
  have h3 : b2 < 4294967296 := by
    rcases Nat.lt_or_ge b2 4294967296 with hh | hh
    · exact hh
    · have : 4294967296 * 4294967296 ≤ b2 * b2 := Nat.mul_le_mul hh hh
      omega
  omega
/-- One step more. -/
theorem Sim.next {X Y x y a1 b1 a2 b2 : Nat} {ev : Bool} (h : Sim X Y x y a1 b1 a2 b2 ev) (h1 : b2 ≤ y) : Sim X Y y (x % y) a2 b2 (a1 + x / y * a2) (b1 + x / y * b2) (!ev) := by
  obtain ⟨e1, e2, e3, e4, e5, hf, ht⟩ := h
  have hdm := Nat.div_add_mod x y
  have hml := Nat.mod_lt x (show 0 < y by omega)
  have hq : 1 ≤ x / y := by rw [Nat.le_div_iff_mul_le (by omega)]; omega
  generalize x / y = q at *
  generalize x % y = r at *
  have hx : x = y * q + r := by omega
  have e6 : q * a2 + (q - 1) * (b2 - a2) ≤ q * b2 := by
    have : q * b2 = q * a2 + q * (b2 - a2) := by rw [← Nat.mul_add]; congr 1; omega
    have h2 : (q - 1) * (b2 - a2) ≤ q * (b2 - a2) := Nat.mul_le_mul_right _ (by omega)
    omega
  have e7 : q * a2 + (b2 - a2) ≤ q * b2 := by
    have : q * b2 = q * a2 + q * (b2 - a2) := by rw [← Nat.mul_add]; congr 1; omega
    have h2 : 1 * (b2 - a2) ≤ q * (b2 - a2) := Nat.mul_le_mul_right _ hq
    omega
  refine ⟨?_, by omega, ?_, by omega, by omega, ?_, ?_⟩
  · rw [← e1, hx, Nat.add_mul, Nat.mul_add, Nat.mul_comm y q, ← Nat.mul_assoc, Nat.mul_comm b2 q]; omega
  · have : 1 * b2 ≤ q * b2 := Nat.mul_le_mul_right _ hq
    omega
  · intro hev
    have hev' : ev = true := by cases ev with | true => rfl | false => cases hev
    obtain ⟨g1, g2, g3⟩ := ht hev'
    refine ⟨g2, ?_, ?_⟩
    · have k1 : q * (y + b2 * Y) = q * (a2 * X) := by rw [g2]
      rw [Nat.mul_add] at k1
      rw [Nat.add_mul, Nat.add_mul, Nat.mul_assoc, Nat.mul_assoc]
      rw [hx, Nat.mul_comm y q] at g1
      omega
    · rw [Nat.mul_add, Nat.add_mul, Nat.mul_left_comm a2, Nat.mul_assoc]; omega
  · intro hev
    have hev' : ev = false := by cases ev with | true => cases hev | false => rfl
    obtain ⟨g1, g2, g3⟩ := hf hev'
    refine ⟨g2, ?_, ?_⟩
    · have k1 : q * (y + a2 * X) = q * (b2 * Y) := by rw [g2]
      rw [Nat.mul_add] at k1
      rw [Nat.add_mul, Nat.add_mul, Nat.mul_assoc, Nat.mul_assoc]
      rw [hx, Nat.mul_comm y q] at g1
      omega
    · rw [Nat.add_mul, Nat.mul_add, Nat.mul_left_comm a2, Nat.mul_assoc]; omega

/-- The steps that were made so far, of the whole numbers: none, or some with what they make. -/
def Fs (a b a0 b0 a1 b1 a2 b2 : Nat) (ev : Bool) : Prop :=
  (a0 = 0 ∧ b0 = 0 ∧ a1 = 1 ∧ b1 = 0 ∧ a2 = 0 ∧ b2 = 1 ∧ ev = false) ∨
    ∃ R0 R1, Pkg a b a0 b0 a1 b1 R0 R1 ev ∧ 1 ≤ b1 ∧ a0 < 4294967296 ∧ b0 < 4294967296 ∧ a1 < 4294967296 ∧ b1 < 4294967296
theorem pkg_next {a b S X Y P α β x y a1 b1 a2 b2 R1 : Nat} {ev : Bool} (ha : a * S = X * P + α) (hb : b * S = Y * P + β) (hα : α < P) (hβ : β < P) (h : Sim X Y x y a1 b1 a2 b2 ev) (h1 : b2 ≤ y) (h2 : b1 + b2 ≤ x - y)
    (hf : ev = false → R1 + b1 * b = a1 * a) (ht : ev = true → R1 + a1 * a = b1 * b) (hR : R1 ≤ b ∨ (b1 = 0 ∧ a2 = 0 ∧ b2 = 1 ∧ ev = false)) : ∃ R2, Pkg a b a1 b1 a2 b2 R1 R2 (!ev) := by
  obtain ⟨_, e2, e3, e4, e5, sf, st⟩ := h
  cases ev with
  | false =>
    obtain ⟨g1, g2, g3⟩ := sf rfl
    have k := hf rfl
    have E1 : a2 * a < b2 * b := top_lt ha hb hα g2 (by omega) (by omega)
    have E2 : (b1 + b2) * b < (a1 + a2) * a := by
      refine top_lt (D := x - y) hb ha hβ ?_ h2 (by omega)
      rw [Nat.add_mul, Nat.add_mul]; omega
    rw [Nat.add_mul, Nat.add_mul] at E2
    refine ⟨b2 * b - a2 * a, by omega, by omega, ?_, ?_, fun _ => ⟨g3, k, by omega⟩, fun e => by cases e⟩
    · rcases hR with hR | ⟨r1, r2, r3, _⟩
      · omega
      · subst r2 r3; omega
    · intro hb0
      rcases hR with hR | ⟨r1, _⟩
      · omega
      · exact absurd r1 hb0
  | true =>
    obtain ⟨g1, g2, g3⟩ := st rfl
    have k := ht rfl
    have E1 : b2 * b < a2 * a := top_lt hb ha hβ g2 (by omega) (by omega)
    have E2 : (a1 + a2) * a < (b1 + b2) * b := by
      refine top_lt (D := x - y) ha hb hα ?_ (by omega) (by omega)
      rw [Nat.add_mul, Nat.add_mul]; omega
    rw [Nat.add_mul, Nat.add_mul] at E2
    refine ⟨a2 * a - b2 * b, by omega, by omega, ?_, ?_, (fun e => by cases e), fun _ => ⟨g3, k, by omega⟩⟩
    · rcases hR with hR | ⟨_, _, _, r4⟩
      · omega
      · cases r4
    · intro hb0
      rcases hR with hR | ⟨_, _, _, r4⟩
      · omega
      · cases r4
theorem Fs.next {a b S X Y P α β x y a0 b0 a1 b1 a2 b2 : Nat} {ev : Bool} (ha : a * S = X * P + α) (hb : b * S = Y * P + β) (hα : α < P) (hβ : β < P) (hX : X < 18446744073709551616) (h : Sim X Y x y a1 b1 a2 b2 ev) (hF : Fs a b a0 b0 a1 b1 a2 b2 ev)
    (h1 : b2 ≤ y) (h2 : b1 + b2 ≤ x - y) : Fs a b a1 b1 a2 b2 (a1 + x / y * a2) (b1 + x / y * b2) (!ev) := by
  obtain ⟨c1, c2, _⟩ := sim_bounds h hX h1
  have hb2 : 1 ≤ b2 := h.2.2.1
  right
  rcases hF with ⟨r1, r2, r3, r4, r5, r6, r7⟩ | ⟨R0, R1, hP, p1, p2, p3, p4, p5⟩
  · obtain ⟨R2, hP⟩ := pkg_next (R1 := a) ha hb hα hβ h h1 h2 (by intro _; subst r3 r4; omega) (by intro e; rw [r7] at e; cases e) (.inr ⟨r4, r5, r6, r7⟩)
    exact ⟨a, R2, hP, hb2, by omega, by omega, c2, c1⟩
  · obtain ⟨_, _, q3, _, qt, qf⟩ := hP
    obtain ⟨R2, hP2⟩ := pkg_next (R1 := R1) ha hb hα hβ h h1 h2 (fun e => (qf e).2.2) (fun e => (qt e).2.2) (.inl q3)
    exact ⟨R1, R2, hP2, hb2, p4, p5, c2, c1⟩
end Go.Proofs.YtehekjlakegkpaaGreat
end
