/-
  What the reference's shifted and half do. For slices that can be read, of at most 400000 limbs, and shifts of at most 400000 limbs.
-/
import Derived.Test.YtcpeofgfppgooaaRbits
import Derived.Test.YtcpeofgfppgooaaRmul
import Derived.Test.YtcpeofgfppgooaaSub
namespace Go.Proofs.Ytcpeofgfppgooaa
open Go.RowKit

def RshRel (w : World) (n L t r : Nat) (xs : List Nat) (tv : Value) (wr : World) : Prop :=
  ∃ (i : Nat) (rs : List Nat), i ≤ n ∧ tv = .int .i64 i ∧ Blk wr w.heap.size rs ∧ rs.length = L ∧ Lim rs ∧ Below w.heap.size w wr ∧ el rs (i + t) < 2 ^ r ∧ (∀ j, i + t < j → el rs j = 0) ∧ val rs = val (xs.take i) * 2 ^ r * pw t

theorem low_mult {X r : Nat} (hr : r ≤ 31) (hX : X % 2 ^ r = 0) : X % 4294967296 % 2 ^ r = 0 ∧ X % 4294967296 + 2 ^ r ≤ 4294967296 := by
  have hp := Nat.two_pow_pos r
  have hB : 4294967296 = 2 ^ r * 2 ^ (32 - r) := by rw [← Nat.pow_add, show r + (32 - r) = 32 by omega]
  have h1 : X % 4294967296 % 2 ^ r = 0 := by
    rw [Nat.mod_mod_of_dvd X ⟨2 ^ (32 - r), hB⟩]; exact hX
  refine ⟨h1, ?_⟩
  obtain ⟨z, hz⟩ := Nat.dvd_of_mod_eq_zero h1
  have h2 : X % 4294967296 < 4294967296 := Nat.mod_lt _ (by omega)
  have h3 : z < 2 ^ (32 - r) := by
    have h4 : 2 ^ r * z < 2 ^ r * 2 ^ (32 - r) := by rw [← hz, ← hB]; exact h2
    exact Nat.lt_of_mul_lt_mul_left h4
  have h5 : 2 ^ r * (z + 1) ≤ 2 ^ r * 2 ^ (32 - r) := Nat.mul_le_mul_left _ h3
  rw [← hB, Nat.mul_add, ← hz] at h5
  omega
theorem or_low {E X r : Nat} (hr : r ≤ 31) (hE : E < 2 ^ r) (hX : X % 2 ^ r = 0) : bits .or .u32 (E : Int) ((X : Int) % 4294967296) = ((E + X % 4294967296 : Nat) : Int) ∧ E + X % 4294967296 < 4294967296 := by
  have h := low_mult hr hX
  have h2 : X % 4294967296 < 4294967296 := Nat.mod_lt _ (by omega)
  refine ⟨?_, by omega⟩
  rw [show ((X : Int) % 4294967296) = ((X % 4294967296 : Nat) : Int) by omega, u32_or_nat _ _ (by omega) h2, Nat.or_comm, nat_join r _ _ h.1 hE, Nat.add_comm]
theorem RshRel.step {w wr : World} {n L t r i : Nat} {xs rs : List Nat} (hr : r ≤ 31) (hx : el xs i < 4294967296) (hi : i < n) (hL : n + t + 1 ≤ L) (hB : Blk wr w.heap.size rs) (hrl : rs.length = L) (hrL : Lim rs) (hbel : Below w.heap.size w wr)
    (hlo : el rs (i + t) < 2 ^ r) (hz : ∀ j, i + t < j → el rs j = 0) (hv : val rs = val (xs.take i) * 2 ^ r * pw t) :
    RshRel w n L t r xs (.int .i64 ((i : Int) + 1))
      ((wr.setCell ⟨w.heap.size, i + t, none⟩ (.int .u32 (bits .or .u32 (el rs (i + t) : Nat) (IntKind.u64.wrap (((el xs i : Nat) : Int) * 2 ^ r) % 4294967296)))).setCell ⟨w.heap.size, i + t + 1, none⟩
        (.int .u32 (IntKind.u64.wrap (((el xs i : Nat) : Int) * 2 ^ r) / 4294967296 % 4294967296))) := by
  have hX := shl_lt hx hr
  have hXm : (el xs i * 2 ^ r) % 2 ^ r = 0 := Nat.mul_mod_left _ _
  have hXd : el xs i * 2 ^ r / 4294967296 < 2 ^ r := by
    rw [Nat.div_lt_iff_lt_mul (by omega)]
    have := Nat.mul_lt_mul_of_pos_right hx (Nat.two_pow_pos r)
    rw [Nat.mul_comm (2 ^ r)]; exact this
  have hp : 2 ^ r ≤ 2147483648 := Nat.le_trans (Nat.pow_le_pow_right (by omega) hr) (by decide)
  rw [shl_cast _ _ hx hr]
  generalize hXX : el xs i * 2 ^ r = X at *
  obtain ⟨o1, o2⟩ := or_low hr hlo hXm
  rw [o1, show ((X : Int) / 4294967296 % 4294967296) = ((X / 4294967296 : Nat) : Int) by omega]
  have hdm : 4294967296 * (X / 4294967296) + X % 4294967296 = X := Nat.div_add_mod X 4294967296
  have s1 := val_set rs (i + t) (el rs (i + t) + X % 4294967296) (by omega)
  have s2 := val_set (rs.set (i + t) (el rs (i + t) + X % 4294967296)) (i + t + 1) (X / 4294967296) (by rw [List.length_set]; omega)
  rw [el_set_other rs (i + t) (i + t + 1) _ (by omega), hz (i + t + 1) (by omega), Nat.mul_zero, Nat.add_zero, pw_succ] at s2
  refine ⟨i + 1, (rs.set (i + t) (el rs (i + t) + X % 4294967296)).set (i + t + 1) (X / 4294967296), by omega, rfl, (hB.set_ _ _).set_ _ _, by simp [hrl], Lim_set (Lim_set hrL _ _ o2) _ _ (by omega), (hbel.setCell (Nat.le_refl _) _).setCell (Nat.le_refl _) _, ?_, ?_, ?_⟩
  · rw [show i + 1 + t = i + t + 1 by omega, el_set_same _ _ _ (by rw [List.length_set]; omega)]; exact hXd
  · intro j hj
    rw [el_set_other _ _ _ _ (by omega), el_set_other _ _ _ _ (by omega)]
    exact hz j (by omega)
  · rw [val_take_step, Nat.add_mul, Nat.add_mul, ← hv, s2]
    have h5 : pw i * el xs i * 2 ^ r * pw t = pw (i + t) * X := by
      rw [pw_add, Nat.mul_assoc (pw i), hXX, Nat.mul_assoc, Nat.mul_comm X, ← Nat.mul_assoc]
    have h6 : pw (i + t) * (X % 4294967296) + 4294967296 * pw (i + t) * (X / 4294967296) = pw (i + t) * X := by
      rw [Nat.mul_comm 4294967296, Nat.mul_assoc, ← Nat.mul_add, Nat.add_comm (X % 4294967296), hdm]
    rw [h5]
    rw [Nat.mul_add] at s1
    omega

set_option maxHeartbeats 1600000 in
theorem rsh_any (A : Option Addr) (n c s : Nat) (xs : List Nat) (w : World) (ha : Rd w A n c xs) (hn : n ≤ 400000) (hs : s ≤ 12800000) :
    Calls Try.prog 35 #[.slice A n c, .int .i64 s] w (Out w (digs (val xs * 2 ^ s))) := by
  have hmk := fun W => mk34 ((n : Int) + (s : Int) / 32 + 1) (n + s / 32 + 1) (by omega) (by omega) W
  have HX := Lib.hid ha.len
  go_enter Try.func35, Try.ntmps35
  go_wp2
  go_loopw [17] (fun tv wr => RshRel w n (n + s / 32 + 1) (s / 32) (s % 32) xs tv wr) (fun tv _ => n - (intOf tv).toNat)
  case atStart => exact ⟨0, zeros (n + s / 32 + 1), Nat.zero_le _, rfl, Blk.new _ _, zeros_len _, Lim_zeros _, (Below.refl _ _).alloc (Nat.le_refl _) _, by rw [el_zeros]; exact Nat.two_pow_pos _, fun j _ => el_zeros _ _, by rw [val_zeros_]; simp [val]⟩
  case round =>
    obtain ⟨i, rs, hi, rfl, hB, hrl, hrL, hbel, hlo, hz, hv⟩ := hrel
    have HR := Lib.hid hrl
    have HZ := Lib.hid hz
    have HV := Lib.hid hv
    clear hmk hrl hz hv
    have hxi := el_lt ha.lim i
    have hri := el_lt hrL (i + s / 32)
    by_cases hin : i < n
    · obtain ⟨b, o, rfl, hbb, hcA⟩ := ha.at_ (by omega)
      have hcx := (hbel.cell (p := ⟨b, o + i, none⟩) hbb).trans (hcA i hin)
      clear hcA
      have hf0 := hB.frozen (i + s / 32)
      have hf1 := hB.frozen (i + s / 32 + 1)
      have hc0 := hB.cell (i := i + s / 32) (by rw [HR.out]; omega)
      have hc1 := hB.cell (i := i + s / 32 + 1) (by rw [HR.out]; omega)
      go_wp2
      go_roundw
      case rel => exact RshRel.step (by omega) hxi hin (by omega) hB HR.out hrL hbel hlo HZ.out HV.out
      case measure => simp [intOf]; omega
    · obtain rfl : i = n := by omega
      have HW := Lib.hid (show val rs = val xs * 2 ^ s by
        have := HV.out
        rwa [val_take_ge xs i (by rw [HX.out]; exact Nat.le_refl _), Nat.mul_assoc, pw_two, ← Nat.pow_add, show s % 32 + 32 * (s / 32) = s by omega] at this)
      have hsz := hbel.size
      go_wp2_with fail
      refine (rtrim_any _ _ _ rs _ (hB.nw hrL HR.out (by omega) (Nat.le_refl _)).1 (by omega)).mono ?_
      rw [HW.out]
      rintro e w2 ⟨R, j, cr, rfl, hN2, hb2⟩
      have HN := Lib.hid (hN2.mono (lo' := w.heap.size) hsz)
      have HB := Lib.hid (hbel.trans (hb2.mono hsz))
      clear hN2 hb2 hB hbel
      go_wp2
      go_ret
      exact ⟨_, _, _, rfl, HN.out, HB.out⟩

/-- A limb of the half. -/
def hlf (xs : List Nat) (j : Nat) : Nat := (el xs j + 4294967296 * el xs (j + 1)) / 2 % 4294967296
theorem half_val (xs rs : List Nat) (hL : Lim xs) (hl : rs.length = xs.length) (h : ∀ j, j < xs.length → el rs j = hlf xs j) : val rs = val xs / 2 := by
  have key : ∀ d k, k + d = xs.length → val (rs.drop k) = val (xs.drop k) / 2 := by
    intro d
    induction d with
    | zero => intro k hk; rw [List.drop_of_length_le (by omega), List.drop_of_length_le (by omega)]; rfl
    | succ d ih =>
      intro k hk
      rw [val_drop_any rs, val_drop_any xs, ih (k + 1) (by omega), h k (by omega)]
      exact (shr_num _ _ _ _ 2 2147483648 (el_lt hL k) (by omega) (by decide) (val_drop_any xs (k + 1))).symm
  have := key xs.length 0 (by omega)
  simpa using this
def HalfRel (w : World) (A1 : Option Addr) (n c1 : Nat) (xs : List Nat) (tv : Value) (wr : World) : Prop :=
  ∃ (k : Nat) (rs : List Nat), k ≤ n ∧ tv = .int .i64 k ∧ Nw wr w.heap.size A1 n c1 rs ∧ Below w.heap.size w wr ∧ rs.drop k = xs.drop k ∧ ∀ j, j < k → el rs j = hlf xs j

theorem or_half (x x1 : Nat) (hx : x < 4294967296) : bits .or .u32 ((x : Int) / 2) ((x1 : Int) * 2147483648 % 4294967296) = (((x + 4294967296 * x1) / 2 % 4294967296 : Nat) : Int) := by
  rw [show ((x : Int) / 2) = ((x / 2 : Nat) : Int) by omega, show ((x1 : Int) * 2147483648 % 4294967296) = ((x1 * 2147483648 % 4294967296 : Nat) : Int) by omega, u32_or_nat _ _ (by omega) (by omega), Nat.or_comm,
    nat_join 31 _ _ (by omega) (by omega)]
  congr 1; omega
theorem HalfRel.step {w wr : World} {n k b o c1 y : Nat} {xs rs : List Nat} (hk : k < n) (hN : Nw wr w.heap.size (some ⟨b, o, none⟩) n c1 rs) (hbel : Below w.heap.size w wr) (hd : rs.drop k = xs.drop k) (hh : ∀ j, j < k → el rs j = hlf xs j) {S : Int}
    (hS : S = (y : Int)) (hy : y = hlf xs k) :
    HalfRel w (some ⟨b, o, none⟩) n c1 xs (.int .i64 ((k : Int) + 1)) (wr.setCell ⟨b, o + k, none⟩ (.int .u32 S)) := by
  subst hS hy
  have hl : hlf xs k < 4294967296 := by unfold hlf; omega
  refine ⟨k + 1, rs.set k (hlf xs k), by omega, rfl, hN.store hk hl, hbel.setCell (hN.addr (by omega)).1 _, ?_, ?_⟩
  · rw [drop_set]; exact drop_succ_of hd
  · intro j hj
    rcases Nat.lt_or_ge j k with h | h
    · rw [el_set_other _ _ _ _ (by omega)]; exact hh j h
    · obtain rfl : j = k := by omega
      rw [el_set_same _ _ _ (by rw [hN.1.len]; exact hk)]
theorem HalfRel.step2 {w wr : World} {n k b o c1 x : Nat} {xs rs : List Nat} (hx : x < 4294967296) (hk : k < n) (hN : Nw wr w.heap.size (some ⟨b, o, none⟩) n c1 rs) (hbel : Below w.heap.size w wr) (hd : rs.drop k = xs.drop k) (hh : ∀ j, j < k → el rs j = hlf xs j) {S S0 : Int}
    (hS0 : S0 = (x : Int)) (hS : S = (hlf xs k : Nat)) :
    HalfRel w (some ⟨b, o, none⟩) n c1 xs (.int .i64 ((k : Int) + 1)) ((wr.setCell ⟨b, o + k, none⟩ (.int .u32 S0)).setCell ⟨b, o + k, none⟩ (.int .u32 S)).drew := by
  subst hS hS0
  have hl : hlf xs k < 4294967296 := by unfold hlf; omega
  have hlo := (hN.addr (by omega)).1
  refine ⟨k + 1, (rs.set k x).set k (hlf xs k), by omega, rfl, (hN.store hk hx).store hk hl, ((hbel.setCell hlo _).setCell hlo _).drew, ?_, ?_⟩
  · rw [drop_set, drop_set]; exact drop_succ_of hd
  · intro j hj
    rcases Nat.lt_or_ge j k with h | h
    · rw [el_set_other _ _ _ _ (by omega), el_set_other _ _ _ _ (by omega)]; exact hh j h
    · obtain rfl : j = k := by omega
      rw [el_set_same _ _ _ (by rw [List.length_set, hN.1.len]; exact hk)]

set_option maxHeartbeats 1600000 in
theorem half_any (A : Option Addr) (n c : Nat) (xs : List Nat) (w : World) (ha : Rd w A n c xs) (hn : n ≤ 900000) :
    Calls Try.prog 38 #[.slice A n c] w (Out w (digs (val xs / 2))) := by
  have HX := Lib.hid ha.len
  go_enter Try.func38, Try.ntmps38
  go_wp2_with (at_builtin; refine wpList_app0 _ rfl (.tmp 5) (.tmp 6) 41 rfl Try.underlying41 info50 _ _ _ xs rfl rfl ha (by omega) ?_; intro A1 c1 w1 hN1 hb1)
  go_loopw [10] (fun tv wr => HalfRel w A1 n c1 xs tv wr) (fun tv _ => n - (intOf tv).toNat)
  case atStart => exact ⟨0, xs, Nat.zero_le _, rfl, hN1, hb1, rfl, fun j hj => by omega⟩
  case round =>
    obtain ⟨k, rs, hk, rfl, hN, hbel, hd, hh⟩ := hrel
    have HD := Lib.hid hd
    have HH := Lib.hid hh
    have HR := Lib.hid hN.1.len
    clear hd hh hN1 hb1
    have hxk := el_lt ha.lim k
    have hxk1 := el_lt ha.lim (k + 1)
    have hsz := hbel.size
    by_cases hkn : k < n
    · obtain ⟨b, o, rfl, hjunk⟩ := hN.1.at_ (by omega)
      clear hjunk
      obtain ⟨hlob, hltb, hcc, hff⟩ := hN.addr (by omega)
      have hc0 : wr.cell? ⟨b, o + k, none⟩ = some (.int .u32 (el xs k)) := by
        rw [← el_of_drop HD.out]; exact hcc k hkn
      have hf := hff k hkn
      clear hcc hff
      by_cases hk1 : k + 1 < n
      · obtain ⟨b2, o2, rfl, hbb2, hcA⟩ := ha.at_ (by omega)
        have hcx := (hbel.cell (p := ⟨b2, o2 + (k + 1), none⟩) hbb2).trans (hcA (k + 1) hk1)
        have hcx' := (hbel.cell (p := ⟨b2, o2 + k + 1, none⟩) hbb2).trans (hcA (k + 1) hk1)
        clear hcA
        go_wp2
        go_region
        go_wp2
        go_roundw
        case rel => exact HalfRel.step2 (x := el xs k / 2) (by omega) hkn hN hbel HD.out HH.out (by omega) (or_half _ _ hxk)
        case measure => simp [intOf]; omega
      · have HZ := Lib.hid (el_ge xs (k + 1) (by rw [HX.out]; omega))
        go_wp2
        go_roundw
        case rel => exact HalfRel.step (y := el xs k / 2) hkn hN hbel HD.out HH.out (by omega) (by unfold hlf; rw [HZ.out]; omega)
        case measure => simp [intOf]; omega
    · obtain rfl : k = n := by omega
      have HV := Lib.hid (half_val xs rs ha.lim (by rw [HR.out, HX.out]) (by rw [HX.out]; exact HH.out))
      go_wp2_with fail
      refine (rtrim_any _ _ _ rs _ hN.1 (by omega)).mono ?_
      rw [HV.out]
      rintro e w2 ⟨R, j, cr, rfl, hN2, hb2⟩
      have HN := Lib.hid (hN2.mono (lo' := w.heap.size) hsz)
      have HB := Lib.hid (hbel.trans (hb2.mono hsz))
      clear hN2 hb2 hN hbel
      go_wp2
      go_ret
      exact ⟨_, _, _, rfl, HN.out, HB.out⟩
end Go.Proofs.Ytcpeofgfppgooaa
