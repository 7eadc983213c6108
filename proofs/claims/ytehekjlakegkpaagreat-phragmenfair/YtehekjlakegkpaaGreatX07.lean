/-
  What limb.shiftedLeft, limb.shiftedRight and limb.divideByLimb do. For slices that can be read, of at most 900000 limbs, and shifts below 32.
  append of one slice of limbs behind a row of the call's own, whatever its source (nil, empty or not): what is owned then, and that it reads as both lists. For at most a million limbs together.
  What the reference's Formed, bounded, trim, Of, Low, cmp, Same and the law's own same do. For slices that can be read, of at most 900000 limbs where memory is made.
  What the reference's cmp and Same and the law's own same do: they compare the numbers. For slices that can be read; for lists of different lengths the last limb of the longer one is not 0.
-/
import Derived.Test.YtehekjlakegkpaaGreatX06
import Derived.Maps.AppendAt
import Derived.OwnWalk
import Derived.Laws.CopyOwn
section
namespace Go.Proofs.YtehekjlakegkpaaGreat
open Go.RowKit

theorem shl_lt {x s : Nat} (hx : x < 4294967296) (hs : s ≤ 31) : x * 2 ^ s < 9223372036854775808 := by
  have hp : 2 ^ s ≤ 2147483648 := Nat.le_trans (Nat.pow_le_pow_right (by omega) hs) (by decide)
  exact Nat.lt_of_le_of_lt (Nat.mul_le_mul (show x ≤ 4294967295 by omega) hp) (by decide)
theorem shl_cast (x s : Nat) (hx : x < 4294967296) (hs : s ≤ 31) : IntKind.u64.wrap ((x : Int) * 2 ^ s) = ((x * 2 ^ s : Nat) : Int) := by
  have h := shl_lt hx hs
  have e : ((x : Int) * 2 ^ s) = ((x * 2 ^ s : Nat) : Int) := by rw [Int.natCast_mul, Int.natCast_pow]; rfl
  rw [e, IntKind.wrap_u64]
  omega
theorem or_shl (q x s : Nat) (hq : q < 2 ^ s) (hx : x < 4294967296) (hs : s ≤ 31) : bits .or .u64 (q : Int) (IntKind.u64.wrap ((x : Int) * 2 ^ s)) = ((q + x * 2 ^ s : Nat) : Int) := by
  have hp : 2 ^ s ≤ 2147483648 := Nat.le_trans (Nat.pow_le_pow_right (by omega) hs) (by decide)
  have h := shl_lt hx hs
  rw [shl_cast x s hx hs, u64_or_nat _ _ (by omega) (by omega), Nat.or_comm, nat_join s _ _ (by rw [Nat.mul_mod_left]) hq, Nat.add_comm]
/-- A row in the next block. -/
def OutB (w : World) (n : Nat) (P : List Nat → Prop) (e : Ending) (w' : World) : Prop :=
  ∃ es, e = .returned (.slice (some ⟨w.heap.size, 0, none⟩) n n) ∧ Blk w' w.heap.size es ∧ es.length = n ∧ Lim es ∧ P es ∧ Below w.heap.size w w'
def ShlRel (w : World) (n s : Nat) (xs : List Nat) (cv tv : Value) (wr : World) : Prop :=
  ∃ (k q : Nat) (rs : List Nat), k ≤ n ∧ tv = .int .i64 k ∧ cv = .int .u64 q ∧ q < 2 ^ s ∧ Blk wr w.heap.size rs ∧ rs.length = n + 1 ∧ Lim rs ∧ Below w.heap.size w wr ∧
    val (rs.take k) + pw k * q = val (xs.take k) * 2 ^ s
theorem ShlRel.step {w wr : World} {n k q s : Nat} {xs rs : List Nat} (hs : s ≤ 31) (hx : el xs k < 4294967296) (hk : k < n) (hq : q < 2 ^ s) (hB : Blk wr w.heap.size rs) (hrl : rs.length = n + 1) (hrL : Lim rs) (hbel : Below w.heap.size w wr)
    (heq : val (rs.take k) + pw k * q = val (xs.take k) * 2 ^ s) :
    ShlRel w n s xs (.int .u64 (bits .or .u64 (q : Int) (IntKind.u64.wrap (((el xs k : Nat) : Int) * 2 ^ s)) / 4294967296)) (.int .i64 ((k : Int) + 1))
      (wr.setCell ⟨w.heap.size, k, none⟩ (.int .u32 (bits .or .u64 (q : Int) (IntKind.u64.wrap (((el xs k : Nat) : Int) * 2 ^ s)) % 4294967296))) := by
  rw [or_shl q (el xs k) s hq hx hs]
  have e1 : ((q + el xs k * 2 ^ s : Nat) : Int) / 4294967296 = (((q + el xs k * 2 ^ s) / 4294967296 : Nat) : Int) := by omega
  have e2 : ((q + el xs k * 2 ^ s : Nat) : Int) % 4294967296 = (((q + el xs k * 2 ^ s) % 4294967296 : Nat) : Int) := by omega
  rw [e1, e2]
  refine ⟨k + 1, (q + el xs k * 2 ^ s) / 4294967296, rs.set k ((q + el xs k * 2 ^ s) % 4294967296), by omega, rfl, rfl, ?_, hB.set_ _ _, by simp [hrl], Lim_set hrL _ _ (by omega), hbel.setCell (Nat.le_refl _) _, ?_⟩
  · rw [Nat.div_lt_iff_lt_mul (by omega)]
    have : (el xs k + 1) * 2 ^ s ≤ 4294967296 * 2 ^ s := Nat.mul_le_mul_right _ (by omega)
    rw [Nat.add_mul] at this
    rw [Nat.mul_comm (2 ^ s)]
    omega
  · rw [carry_step rs k _ (by omega), val_take_step xs, Nat.mul_add, Nat.add_mul, Nat.mul_assoc]
    omega
theorem ShlRel.last {w wr : World} {n q s : Nat} {xs rs : List Nat} (hs : s ≤ 31) (hxl : xs.length ≤ n) (hq : q < 2 ^ s) (hB : Blk wr w.heap.size rs) (hrl : rs.length = n + 1) (hrL : Lim rs) (hbel : Below w.heap.size w wr)
    (heq : val (rs.take n) + pw n * q = val (xs.take n) * 2 ^ s) :
    OutB w (n + 1) (fun es => val es = val xs * 2 ^ s) (.returned (.slice (some ⟨w.heap.size, 0, none⟩) (n + 1) (n + 1))) (wr.setCell ⟨w.heap.size, n, none⟩ (.int .u32 (q : Int))) := by
  have hp : 2 ^ s ≤ 2147483648 := Nat.le_trans (Nat.pow_le_pow_right (by omega) hs) (by decide)
  refine ⟨rs.set n q, rfl, hB.set_ _ _, by simp [hrl], Lim_set hrL _ _ (by omega), ?_, hbel.setCell (Nat.le_refl _) _⟩
  have h := val_take_set rs n q (by omega)
  rw [val_take_ge _ _ (by simp [hrl])] at h
  rw [val_take_ge xs n hxl] at heq
  omega

set_option maxHeartbeats 800000 in
theorem shl_any (A : Option Addr) (n c s : Nat) (xs : List Nat) (w : World) (ha : Rd w A n c xs) (hn : n ≤ 900000) (hs : s ≤ 31) :
    Calls Tryz.prog 219 #[.slice A n c, .int .i64 s] w (OutB w (n + 1) fun es => val es = val xs * 2 ^ s) := by
  have hmk := fun W => mk32 ((n : Int) + 1) (n + 1) (by omega) (by omega) W
  have HX := Lib.hid ha.len
  have hp : 2 ^ s ≤ 2147483648 := Nat.le_trans (Nat.pow_le_pow_right (by omega) hs) (by decide)
  have hp0 : 0 < 2 ^ s := Nat.two_pow_pos s
  go_enter Tryz.func219, Tryz.ntmps219
  go_wp2
  go_loopw [6, 15] (fun cv tv wr => ShlRel w n s xs cv tv wr) (fun _ tv _ => n - (intOf tv).toNat)
  case atStart => exact ⟨0, 0, zeros (n + 1), Nat.zero_le _, rfl, rfl, hp0, Blk.new _ _, zeros_len _, Lim_zeros _, (Below.refl _ _).alloc (Nat.le_refl _) _, by simp [val]⟩
  case round =>
    obtain ⟨k, q, rs, hk, rfl, rfl, hq, hB, hrl, hrL, hbel, heq⟩ := hrel
    have HE := Lib.hid heq
    have HR := Lib.hid hrl
    clear heq hmk
    have hxk := el_lt ha.lim k
    have hf := hB.frozen k
    have hc0 := hB.cell (i := k) (by omega)
    clear hrl
    by_cases hkn : k < n
    · obtain ⟨b, o, rfl, hbb, hcA⟩ := ha.at_ (by omega)
      have hcx := (hbel.cell (p := ⟨b, o + k, none⟩) hbb).trans (hcA k hkn)
      clear hcA
      go_wp2
      go_roundw
      case rel => exact ShlRel.step hs hxk hkn hq hB HR.out hrL hbel HE.out
      case measure => simp [intOf]; omega
    · obtain rfl : k = n := by omega
      have HL := Lib.hid (ShlRel.last hs (by rw [HX.out]; exact Nat.le_refl _) hq hB HR.out hrL hbel HE.out)
      have hq2 : q < 2147483648 := by omega
      go_wp2
      go_ret
      exact HL.out

def ShrRel (w : World) (n s : Nat) (xs : List Nat) (cv tv : Value) (wr : World) : Prop :=
  ∃ (k : Nat) (rs : List Nat), k ≤ n ∧ tv = .int .i64 ((k : Int) - 1) ∧ cv = .int .u64 ((el xs k + 4294967296 * el xs (k + 1) : Nat) : Int) ∧ Blk wr w.heap.size rs ∧ rs.length = n ∧ Lim rs ∧ Below w.heap.size w wr ∧
    val (rs.drop k) = val (xs.drop k) / 2 ^ s
theorem val_drop_any (xs : List Nat) (k : Nat) : val (xs.drop k) = el xs k + 4294967296 * val (xs.drop (k + 1)) := by
  rcases Nat.lt_or_ge k xs.length with h | h
  · exact val_drop xs k h
  · rw [el_ge xs k h, List.drop_of_length_le h, List.drop_of_length_le (by omega)]; rfl
theorem drop_set_at (rs : List Nat) (k x : Nat) (h : k < rs.length) : val ((rs.set k x).drop k) = x + 4294967296 * val (rs.drop (k + 1)) := by
  rw [val_drop_any, el_set_same _ _ _ h]
  congr 3
  apply ext_el
  · simp
  · intro j _
    rw [el_drop, el_drop, el_set_other _ _ _ _ (by omega)]
/-- One limb of a shift to the right. -/
theorem shr_num (x y0 Y Y' p m : Nat) (hx : x < 4294967296) (hp : 0 < p) (hB : p * m = 4294967296) (hY : Y = y0 + 4294967296 * Y') :
    (x + 4294967296 * Y) / p = (x + 4294967296 * y0) / p % 4294967296 + 4294967296 * (Y / p) := by
  have e1 : (x + 4294967296 * Y) / p = x / p + m * Y := by
    rw [← hB, Nat.mul_assoc, Nat.add_mul_div_left _ _ hp]
  have e2 : (x + 4294967296 * y0) / p = x / p + m * y0 := by
    rw [← hB, Nat.mul_assoc, Nat.add_mul_div_left _ _ hp]
  have e3 : Y % p = y0 % p := by rw [hY, ← hB, Nat.mul_assoc, Nat.add_mul_mod_self_left]
  have e4 : m * Y = 4294967296 * (Y / p) + m * (Y % p) := by
    have := Nat.div_add_mod Y p
    calc m * Y = m * (p * (Y / p) + Y % p) := by rw [this]
      _ = _ := by rw [Nat.mul_add, ← Nat.mul_assoc, Nat.mul_comm m p, hB]
  have e5 : m * y0 = 4294967296 * (y0 / p) + m * (Y % p) := by
    have := Nat.div_add_mod y0 p
    rw [e3]
    calc m * y0 = m * (p * (y0 / p) + y0 % p) := by rw [this]
      _ = _ := by rw [Nat.mul_add, ← Nat.mul_assoc, Nat.mul_comm m p, hB]
  have h6 : x / p < m := by rw [Nat.div_lt_iff_lt_mul hp, Nat.mul_comm, hB]; exact hx
  have h7 : Y % p + 1 ≤ p := Nat.mod_lt Y hp
  have h8 := Nat.mul_le_mul_left m h7
  rw [Nat.mul_add, Nat.mul_comm m p, hB] at h8
  rw [e1, e2, e4, e5]
  generalize m * (Y % p) = z at *
  have : (x / p + (4294967296 * (y0 / p) + z)) % 4294967296 = x / p + z := by
    rw [show x / p + (4294967296 * (y0 / p) + z) = (x / p + z) + 4294967296 * (y0 / p) by omega, Nat.add_mul_mod_self_left]
    exact Nat.mod_eq_of_lt (by omega)
  omega
theorem pow_split {s : Nat} (hs : s ≤ 31) : 2 ^ s * 2 ^ (32 - s) = 4294967296 := by
  rw [← Nat.pow_add, show s + (32 - s) = 32 by omega]
theorem ShrRel.step {w wr : World} {n k ov s : Nat} {xs rs : List Nat} (hs : s ≤ 31) (hl : Lim xs) (hk : k ≤ n) (hk0 : k ≠ 0) (hov : el xs k + 4294967296 * el xs (k + 1) = ov) (hB : Blk wr w.heap.size rs) (hrl : rs.length = n) (hrL : Lim rs) (hbel : Below w.heap.size w wr)
    (heq : val (rs.drop k) = val (xs.drop k) / 2 ^ s) :
    ShrRel w n s xs (.int .u64 (bits .or .u64 (IntKind.u64.wrap ((ov : Int) * 4294967296)) (el xs (k - 1) : Nat))) (.int .i64 ((k : Int) - 1 - 1))
      (wr.setCell ⟨w.heap.size, k - 1, none⟩ (.int .u32 (bits .or .u64 (IntKind.u64.wrap ((ov : Int) * 4294967296)) (el xs (k - 1) : Nat) / 2 ^ s % 4294967296))) := by
  have h0 := el_lt hl k
  have h1 := el_lt hl (k + 1)
  have h2 := el_lt hl (k - 1)
  have e1 : IntKind.u64.wrap ((ov : Int) * 4294967296) = ((el xs k : Nat) : Int) * 4294967296 := by
    rw [IntKind.wrap_u64]; omega
  rw [e1, or_lo _ _ h2 h0]
  have e2 : (((el xs (k - 1) + 4294967296 * el xs k : Nat) : Int) / 2 ^ s % 4294967296) = (((el xs (k - 1) + 4294967296 * el xs k) / 2 ^ s % 4294967296 : Nat) : Int) := by
    rw [Int.natCast_emod, Int.natCast_ediv, Int.natCast_pow]; rfl
  rw [e2]
  have hkk : k - 1 + 1 = k := by omega
  refine ⟨k - 1, rs.set (k - 1) ((el xs (k - 1) + 4294967296 * el xs k) / 2 ^ s % 4294967296), by omega, by congr 1; omega, by rw [hkk], hB.set_ _ _, by simp [hrl], Lim_set hrL _ _ (by omega), hbel.setCell (Nat.le_refl _) _, ?_⟩
  rw [drop_set_at _ _ _ (by omega), hkk, heq, val_drop_any xs (k - 1), hkk]
  exact (shr_num _ _ _ _ _ _ h2 (Nat.two_pow_pos s) (pow_split hs) (val_drop_any xs k)).symm

set_option maxHeartbeats 800000 in
theorem shr_any (A : Option Addr) (n c s : Nat) (xs : List Nat) (w : World) (ha : Rd w A n c xs) (hn : n ≤ 900000) (hs : s ≤ 31) :
    Calls Tryz.prog 223 #[.slice A n c, .int .i64 s] w (OutB w n fun es => val es = val xs / 2 ^ s) := by
  have hmk := fun W => mk32 (n : Int) n rfl (by omega) W
  have HX := Lib.hid ha.len
  go_enter Tryz.func223, Tryz.ntmps223
  go_wp2
  go_loopw [6, 7] (fun cv tv wr => ShrRel w n s xs cv tv wr) (fun _ tv _ => (intOf tv + 1).toNat)
  case atStart => exact ⟨n, zeros n, Nat.le_refl _, rfl, by rw [el_ge xs n (by rw [HX.out]; exact Nat.le_refl _), el_ge xs (n + 1) (by rw [HX.out]; omega)]; rfl, Blk.new _ _, zeros_len _, Lim_zeros _, (Below.refl _ _).alloc (Nat.le_refl _) _, by rw [List.drop_of_length_le (l := zeros n) (by rw [zeros_len]; exact Nat.le_refl _), List.drop_of_length_le (l := xs) (by rw [HX.out]; exact Nat.le_refl _)]; simp [val]⟩
  case round =>
    obtain ⟨k, rs, hk, rfl, rfl, hB, hrl, hrL, hbel, heq⟩ := hrel
    have HE := Lib.hid heq
    have HR := Lib.hid hrl
    clear heq hmk hrl
    have hx0 := el_lt ha.lim k
    have hx1 := el_lt ha.lim (k + 1)
    obtain ⟨ov, hov⟩ : ∃ ov, el xs k + 4294967296 * el xs (k + 1) = ov := ⟨_, rfl⟩
    have hovl : ov < 18446744073709551616 := by omega
    rw [hov]
    have HO := Lib.hid hov
    clear hov
    by_cases hk0 : k = 0
    · subst hk0
      go_wp2
      go_ret
      exact ⟨rs, rfl, hB, HR.out, hrL, HE.out, hbel⟩
    · obtain ⟨b, o, rfl, hbb, hcA⟩ := ha.at_ (by omega)
      have hcx := (hbel.cell (p := ⟨b, o + (k - 1), none⟩) hbb).trans (hcA (k - 1) (by omega))
      have hf := hB.frozen (k - 1)
      have hc0 := hB.cell (i := k - 1) (by rw [HR.out]; omega)
      have hxk := el_lt ha.lim (k - 1)
      clear hcA
      go_wp2
      go_roundw
      case rel => exact ShrRel.step hs ha.lim hk hk0 HO.out hB HR.out hrL hbel HE.out
      case measure => simp [intOf]; omega

def DblRel (w : World) (n d : Nat) (xs : List Nat) (cv tv : Value) (wr : World) : Prop :=
  ∃ (k r : Nat) (rs : List Nat), k ≤ n ∧ tv = .int .i64 ((k : Int) - 1) ∧ cv = .int .u64 r ∧ r < d ∧ Blk wr w.heap.size rs ∧ rs.length = n ∧ Lim rs ∧ Below w.heap.size w wr ∧
    val (xs.drop k) = d * val (rs.drop k) + r
/-- The end of limb.divideByLimb. -/
def OutD (w : World) (q r : Nat) (e : Ending) (w' : World) : Prop :=
  ∃ A n c, e = .returned (.tuple #[.slice A n c, .int .u64 r]) ∧ Nw w' w.heap.size A n c (digs q) ∧ Below w.heap.size w w'

theorem DblRel.step {w wr : World} {n k r d : Nat} {xs rs : List Nat} (hl : Lim xs) (hd : d < 4294967296) (hk : k ≤ n) (hk0 : k ≠ 0) (hr : r < d) (hB : Blk wr w.heap.size rs) (hrl : rs.length = n) (hrL : Lim rs) (hbel : Below w.heap.size w wr)
    (heq : val (xs.drop k) = d * val (rs.drop k) + r) :
    DblRel w n d xs (.int .u64 ((bits .or .u64 ((r : Int) * 4294967296) (el xs (k - 1) : Nat)).tmod (d : Int))) (.int .i64 ((k : Int) - 1 - 1))
      (wr.setCell ⟨w.heap.size, k - 1, none⟩ (.int .u32 (IntKind.u64.wrap ((bits .or .u64 ((r : Int) * 4294967296) (el xs (k - 1) : Nat)).tdiv (d : Int)) % 4294967296))) := by
  have h2 := el_lt hl (k - 1)
  rw [or_lo _ _ h2 (by omega)]
  generalize hN : el xs (k - 1) + 4294967296 * r = N
  have hNd : N / d < 4294967296 := by
    rw [Nat.div_lt_iff_lt_mul (by omega)]
    have : 4294967296 * (r + 1) ≤ 4294967296 * d := Nat.mul_le_mul_left _ hr
    omega
  have e1 : ((N : Int)).tmod (d : Int) = ((N % d : Nat) : Int) := by
    rw [Int.tmod_eq_emod_of_nonneg (by omega), Int.natCast_emod]
  have e2 : IntKind.u64.wrap ((N : Int).tdiv (d : Int)) % 4294967296 = ((N / d : Nat) : Int) := by
    rw [Int.tdiv_eq_ediv_of_nonneg (by omega), ← Int.natCast_ediv, IntKind.wrap_u64]
    generalize N / d = Q at *
    omega
  rw [e1, e2]
  have hkk : k - 1 + 1 = k := by omega
  refine ⟨k - 1, N % d, rs.set (k - 1) (N / d), by omega, by congr 1; omega, rfl, Nat.mod_lt _ (by omega), hB.set_ _ _, by simp [hrl], Lim_set hrL _ _ hNd, hbel.setCell (Nat.le_refl _) _, ?_⟩
  rw [drop_set_at _ _ _ (by omega), hkk, val_drop_any xs (k - 1), hkk, heq, Nat.mul_add d (N / d)]
  have h3 := Nat.div_add_mod N d
  rw [Nat.mul_left_comm d]
  omega
theorem DblRel.last {w wr : World} {n r d k : Nat} {xs rs : List Nat} (hr : r < d) (hn : n ≤ 900000) (hB : Blk wr w.heap.size rs) (hrl : rs.length = n) (hrL : Lim rs) (hbel : Below w.heap.size w wr)
    (heq : val (xs.drop 0) = d * val (rs.drop 0) + r) (hk : k ≤ n) (ht : rs.take k = digs (val rs)) :
    OutD w (val xs / d) (val xs % d) (.returned (.tuple #[.slice (some ⟨w.heap.size, 0, none⟩) k n, .int .u64 (r : Int)])) wr := by
  simp only [List.drop_zero] at heq
  have e1 : val xs / d = val rs := by rw [heq, Nat.mul_add_div (by omega), Nat.div_eq_of_lt hr, Nat.add_zero]
  have e2 : val xs % d = r := by rw [heq, Nat.mul_add_mod, Nat.mod_eq_of_lt hr]
  rw [e1, e2]
  refine ⟨_, _, _, rfl, ?_, hbel⟩
  rw [← ht]
  exact (hB.nw hrL hrl (by omega) (Nat.le_refl _)).take hk

set_option maxHeartbeats 800000 in
theorem dbl_any (A : Option Addr) (n c d : Nat) (xs : List Nat) (w : World) (ha : Rd w A n c xs) (hn : n ≤ 900000) (hd0 : 0 < d) (hd : d < 4294967296) :
    Calls Tryz.prog 192 #[.slice A n c, .int .u64 d] w (OutD w (val xs / d) (val xs % d)) := by
  have hmk := fun W => mk32 (n : Int) n rfl (by omega) W
  have HX := Lib.hid ha.len
  go_enter Tryz.func192, Tryz.ntmps192
  go_wp2
  go_loopw [7, 8] (fun cv tv wr => DblRel w n d xs cv tv wr) (fun _ tv _ => (intOf tv + 1).toNat)
  case atStart => exact ⟨n, 0, zeros n, Nat.le_refl _, rfl, rfl, hd0, Blk.new _ _, zeros_len _, Lim_zeros _, (Below.refl _ _).alloc (Nat.le_refl _) _, by rw [List.drop_of_length_le (l := zeros n) (by rw [zeros_len]; exact Nat.le_refl _), List.drop_of_length_le (l := xs) (by rw [HX.out]; exact Nat.le_refl _)]; simp [val]⟩
  case round =>
    obtain ⟨k, r, rs, hk, rfl, rfl, hr, hB, hrl, hrL, hbel, heq⟩ := hrel
    have HE := Lib.hid heq
    have HR := Lib.hid hrl
    clear heq hmk hrl
    by_cases hk0 : k = 0
    · subst hk0
      go_wp2_with fail
      refine (trimmed_any _ n n rs _ (hB.nw hrL HR.out (by omega) (Nat.le_refl _)).1).mono ?_
      rintro e w' ⟨j, rfl, hj, ht, rfl⟩
      have HL := Lib.hid (DblRel.last hr hn hB HR.out hrL hbel HE.out hj ht)
      clear ht
      go_wp2
      go_ret2
      exact HL.out
    · obtain ⟨b, o, rfl, hbb, hcA⟩ := ha.at_ (by omega)
      have hcx := (hbel.cell (p := ⟨b, o + (k - 1), none⟩) hbb).trans (hcA (k - 1) (by omega))
      have hf := hB.frozen (k - 1)
      have hc0 := hB.cell (i := k - 1) (by rw [HR.out]; omega)
      have hxk := el_lt ha.lim (k - 1)
      clear hcA
      have hde : ((d : Int) == 0) = false := by simp; omega
      go_wp2
      go_roundw
      case rel => exact DblRel.step ha.lim hd hk hk0 hr hB HR.out hrL hbel HE.out
      case measure => simp [intOf]; omega
end Go.Proofs.YtehekjlakegkpaaGreat
end
section
namespace Go.Proofs.YtehekjlakegkpaaGreat
open Go.RowKit

def lits32 (xs : List Nat) : List Value := xs.map fun (x : Nat) => Value.int .u32 (x : Int)
/-- The slice is a row of the call's own, from block base on, and holds xs. -/
def Ow (w : World) (base : Nat) (A : Option Addr) (n c : Nat) (xs : List Nat) : Prop := w.ownsRow base 69 1 (.slice A n c) n (lits32 xs) ∧ Lim xs
theorem lits32_len (xs : List Nat) : (lits32 xs).length = xs.length := by simp [lits32]
theorem lits32_at (xs : List Nat) (j : Nat) (u : Value) (h : (lits32 xs)[j]? = some u) : j < xs.length ∧ u = .int .u32 (el xs j) := by
  have hj : j < xs.length := by
    rcases Nat.lt_or_ge j xs.length with hj | hj
    · exact hj
    · rw [List.getElem?_eq_none (by rw [lits32_len]; exact hj)] at h; cases h
  refine ⟨hj, ?_⟩
  rw [el_get xs j hj]
  simp [lits32, hj] at h
  exact h.symm
theorem lits32_get (xs : List Nat) (j : Nat) (h : j < xs.length) : (lits32 xs)[j]? = some (.int .u32 (el xs j)) := by
  rw [el_get xs j h]; simp [lits32, h]
theorem lits32_one (xs : List Nat) : ∀ u ∈ lits32 xs, u.oneCell' = true := by
  intro u hu
  simp only [lits32, List.mem_map] at hu
  obtain ⟨x, _, rfl⟩ := hu
  rfl

section
variable {w w' : World} {base n c : Nat} {A : Option Addr} {xs : List Nat}
theorem Ow.len (h : Ow w base A n c xs) : xs.length = n := by have := h.1.1; rw [lits32_len] at this; omega
theorem Ow.nil (w : World) (base : Nat) : Ow w base none 0 0 [] := ⟨World.ownsRow_nil _ _ _ _, Lim_nil⟩
/-- An empty row that was just made. -/
theorem Ow.empty (w : World) : Ow (w.alloc (.cells #[] 69)) w.heap.size (some ⟨w.heap.size, 0, none⟩) 0 0 [] :=
  ⟨World.ownsRow_lit w #[] 0 (Nat.le_refl _) (by unfold maxLen; omega) rfl, Lim_nil⟩
theorem Ow.nw (h : Ow w base A n c xs) : Nw w base A n c xs := by
  have hl := h.len
  rcases h.1.2 with ⟨hv, hn⟩ | ⟨g, cap, cur, hv, hb, hg, hnc, hcm, _, _⟩
  · injection hv with h1 h2 h3
    subst h1 h2 h3
    obtain rfl := List.eq_nil_of_length_eq_zero hl
    exact Nw.nil _ _
  · injection hv with h1 h2 h3
    subst h1 h3
    have hlt : g < w.heap.size := by
      rcases Nat.lt_or_ge g w.heap.size with hlt | hge
      · exact hlt
      · rw [Array.getElem?_eq_none hge] at hg; cases hg
    refine ⟨⟨hl, hnc, by unfold maxLen at hcm; exact hcm, h.2, fun _ => ⟨g, 0, rfl, hlt, fun j hj => ?_⟩⟩, fun _ => ⟨g, 0, rfl, hb, hlt, fun j _ => ?_⟩⟩
    · rw [Nat.zero_add]
      exact (h.1.cellAt j (by omega)).trans (lits32_get xs j (by omega))
    · rw [Nat.zero_add]; exact h.1.frozenAt j
end

theorem Ow.alloc {w : World} {base n c : Nat} {A : Option Addr} {xs : List Nat} (h : Ow w base A n c xs) (o : Obj) : Ow (w.alloc o) base A n c xs := ⟨h.1.alloc o, h.2⟩
theorem Ow.lt {w : World} {base n c : Nat} {A : Option Addr} {xs : List Nat} (h : Ow w base A n c xs) : ∀ g, (Value.slice A n c).ownBlock = some g → base ≤ g := fun g hg => (h.1.lt g hg).1
/-- One limb that was just laid in a block of its own. -/
theorem rd_one (w : World) (v : Int) (N : Nat) (h : v = N) (hN : N < 4294967296) : Rd (w.alloc (.cells #[.int .u32 v] 69)) (some ⟨w.heap.size, 0, none⟩) 1 1 [N] := by
  subst h
  have hB : Blk (w.alloc (.cells #[.int .u32 (N : Int)] 69)) w.heap.size [N] := Blk.new w [N]
  exact (hB.nw (n := 1) (Lim_cons hN Lim_nil) rfl (by omega) (Nat.le_refl _)).1

section
variable {P : Program} (w : World)
theorem run_app (base : Nat) (t ty : TypeId) (ht : P.underlying t = some (.slice 69)) (hinfo : (P.info? 69).map (fun i => (i.zero, i.size, i.bytes)) = some (some (.int .u32 0), 1, 4))
    (A B : Option Addr) (n c m d : Nat) (xs ys : List Nat) (hown : Ow w base A n c xs) (hr : Rd w B m d ys) (hs : n + m ≤ 1000000) (hbase : base ≤ w.heap.size) :
    ∃ A' c' w', (Builtin.append_ #[t, t] ty #[.slice A n c, .slice B m d]).run P w = .ok (.slice A' (n + m) c') w' ∧ Ow w' base A' (n + m) c' (xs ++ ys) ∧ w.grownBy w' (Value.ownBlock (.slice A n c)) ∧
      ((Value.slice A' (n + m) c').ownBlock = (Value.slice A n c).ownBlock ∨ (Value.slice A' (n + m) c').ownBlock = some w.heap.size) := by
  obtain ⟨i0, hi, hz0, hz1, hz2⟩ := info_parts hinfo
  have happ : lits32 xs ++ lits32 ys = lits32 (xs ++ ys) := by simp [lits32]
  rcases B with _ | ad
  · have hm : m = 0 := by
      rcases Nat.eq_zero_or_pos m with h0 | h0
      · exact h0
      · obtain ⟨b, o, h, _⟩ := hr.at_ h0
        cases h
    subst hm
    obtain rfl := List.eq_nil_of_length_eq_zero hr.len
    refine ⟨A, c, w, ?_, by simpa using hown, World.grownBy.refl w _, .inl rfl⟩
    rcases hown.1.2 with ⟨hv, rfl⟩ | ⟨g, cap, cur, hv, _, _, hnc, _⟩
    · injection hv with h1 h2 h3
      subst h1 h3
      simp [Builtin.append_, run_underlying ht, sizeOf, typeInfo, hi, Builtin.lenOf, Builtin.firstCells]
    · injection hv with h1 h2 h3
      subst h1 h3
      simp [Builtin.append_, run_underlying ht, sizeOf, typeInfo, hi, Builtin.lenOf, Builtin.firstCells, hnc, storeCells]
  · have hcells : ∀ j u, (lits32 ys)[j]? = some u → w.cell? (ad.add j) = some u := by
      intro j u hu
      obtain ⟨hj, rfl⟩ := lits32_at ys j u hu
      rw [hr.len] at hj
      obtain ⟨b, o, h, _, hc⟩ := hr.at_ (by omega)
      injection h with h
      subst h
      have := hc j hj
      unfold Addr.add
      by_cases h0 : j = 0
      · subst h0; simpa using this
      · simpa [h0] using this
    obtain ⟨v', w', hrun, h2, h3, _, h5⟩ := run_append_own_at (P := P) w base t ty 69 i0 (.int .u32 0) 1 4 ht hi hz0 hz1 hz2 rfl (by decide) (.slice A n c) n (lits32 xs) hown.1 ad m d (lits32 ys)
      (by rw [lits32_len, hr.len]; omega) hcells (lits32_one ys) (by unfold maxLen; omega) (by omega) hbase
    rw [happ] at h2
    rcases h2.2 with ⟨rfl, hn⟩ | ⟨g, cap, cur, rfl, _⟩
    · have hn' : n + m = 0 := hn
      refine ⟨none, 0, w', by rw [hn']; exact hrun, ⟨by rw [hn'] at h2 ⊢; exact h2, Lim_append hown.2 hr.lim⟩, h3, ?_⟩
      rw [hn']; exact h5
    · exact ⟨_, _, w', hrun, ⟨h2, Lim_append hown.2 hr.lim⟩, h3, h5⟩

theorem wpList_app {ops : Array Oper} {rest : List Oper} {o : Oper} {a : Act} {Q : Exit → Act → World → Prop} (hgd : o.guard = none) (s x : Operand) (t : TypeId)
    (ho : o.op = .call { callee := .builtin .append, args := #[s, x], argTypes := #[t, t] })
    (base : Nat) (ht : P.underlying t = some (.slice 69)) (hinfo : (P.info? 69).map (fun i => (i.zero, i.size, i.bytes)) = some (some (.int .u32 0), 1, 4))
    (A B : Option Addr) (n c m d : Nat) (xs ys : List Nat) (hs : a.eval s = .slice A n c) (hx : a.eval x = .slice B m d) (hown : Ow w base A n c xs) (hr : Rd w B m d ys) (hsz : n + m ≤ 1000000) (hbase : base ≤ w.heap.size)
    (h : ∀ A' c' w', Ow w' base A' (n + m) c' (xs ++ ys) → w.grownBy w' (Value.ownBlock (.slice A n c)) → wpList P ops Q rest (a.put o.dst (.slice A' (n + m) c')) w') : wpList P ops Q (o :: rest) a w := by
  refine wpList_plain hgd fun K hK => ?_
  obtain ⟨A', c', w', hrun, h2, h3, _⟩ := run_app (P := P) w base t o.type ht hinfo A B n c m d xs ys hown hr hsz hbase
  unfold Oper.wp execOp
  simp only [ho, resolve, invoke, builtin, Sem.run_bind, Sem.run_pure, Result.andThen_ok, List.map_toArray, List.map_cons, List.map_nil, hs, hx, hrun]
  exact hK _ _ (h A' c' w' h2 h3)
/-- append(Nat{}, x...): the natural x in new memory. -/
theorem wpList_app0 {ops : Array Oper} {rest : List Oper} {o : Oper} {a : Act} {Q : Exit → Act → World → Prop} (hgd : o.guard = none) (s x : Operand) (t : TypeId)
    (ho : o.op = .call { callee := .builtin .append, args := #[s, x], argTypes := #[t, t] })
    (ht : P.underlying t = some (.slice 69)) (hinfo : (P.info? 69).map (fun i => (i.zero, i.size, i.bytes)) = some (some (.int .u32 0), 1, 4))
    (B : Option Addr) (m d : Nat) (ys : List Nat) (hs : a.eval s = .slice (some ⟨w.heap.size, 0, none⟩) 0 0) (hx : a.eval x = .slice B m d) (hr : Rd w B m d ys) (hsz : m ≤ 1000000)
    (h : ∀ A' c' w', Nw w' w.heap.size A' m c' ys → Below w.heap.size w w' → wpList P ops Q rest (a.put o.dst (.slice A' m c')) w') : wpList P ops Q (o :: rest) a (w.alloc (.cells #[] 69)) := by
  refine wpList_app _ hgd s x t ho w.heap.size ht hinfo _ B 0 0 m d [] ys hs hx (Ow.empty w) (hr.alloc _) (by omega) (by simp) fun A' c' w' h1 h2 => ?_
  have hn := h1.nw
  simp only [Nat.zero_add, List.nil_append] at hn ⊢
  refine h A' c' w' hn (((Below.refl _ _).alloc (Nat.le_refl _) _).grown h2 (by simp) fun g hgg => ?_)
  simp [Value.ownBlock] at hgg
  omega
/-- copy of a whole slice over the beginning of a row of the call's own. -/
theorem wpList_cp {w : World} {ops : Array Oper} {rest : List Oper} {o : Oper} {a : Act} {Q : Exit → Act → World → Prop} (hgd : o.guard = none) (d s : Operand) (dT sT : TypeId)
    (ho : o.op = .call { callee := .builtin .copy, args := #[d, s], argTypes := #[dT, sT] }) (hu : P.underlying dT = some (.slice 69))
    (hinfo : (P.info? 69).map (fun i => (i.zero, i.size, i.bytes)) = some (some (.int .u32 0), 1, 4))
    (B : Option Addr) (g n c dCap : Nat) (xs zs : List Nat) (hd : a.eval d = .slice (some ⟨g, 0, none⟩) n dCap) (hs : a.eval s = .slice B n c)
    (hB : Blk w g zs) (hl : n ≤ zs.length) (hr : Rd w B n c xs) (L : Nat) (w0 : World) (hb : Below L w0 w) (hLg : L ≤ g)
    (h : ∀ w', Blk w' g (xs ++ zs.drop n) → Below L w0 w' → wpList P ops Q rest (a.put o.dst (goInt n)) w') : wpList P ops Q (o :: rest) a w := by
  obtain ⟨i0, hi, hz0, hz1, hz2⟩ := info_parts hinfo
  have hlen : (lits32 xs).length = n := by rw [lits32_len, hr.len]
  refine wpList_copy_splice hgd d s dT sT ho 69 hu (by rw [hi]; simp [hz1]) _ B n dCap n c hd hs g 0 (lits32 zs) 69 hB (lits32 xs) (by rw [hlen]; simp) (fun hp => ⟨rfl, ?_⟩)
    (by rw [hlen, lits32_len]; omega) (lits32_one xs) L w0 hb hLg fun w' hw' hbel => ?_
  · rw [hlen] at hp
    obtain ⟨b, off, e, _, hc⟩ := hr.at_ hp
    refine ⟨_, e, fun j v hv => ?_⟩
    obtain ⟨hj, rfl⟩ := lits32_at xs j v hv
    rw [hr.len] at hj
    have := hc j hj
    unfold Addr.add
    by_cases h0 : j = 0
    · subst h0; simpa using this
    · simpa [h0] using this
  · rw [hlen]
    refine h w' ?_ hbel
    have h1 := hw'.out
    unfold Blk
    rw [h1]
    congr 2
    unfold splice vals
    rw [hlen]
    simp [lits32]
end
end Go.Proofs.YtehekjlakegkpaaGreat
end
section
namespace Go.Proofs.YtehekjlakegkpaaGreat
open Go.RowKit

set_option maxHeartbeats 400000 in
/-- The reference's Formed. -/
theorem rformed_any (A : Option Addr) (n c : Nat) (xs : List Nat) (w : World) (h : Rd w A n c xs) :
    Calls Tryz.prog 109 #[.slice A n c] w fun e w' => e = .returned (.bool (fmB xs)) ∧ w = w' := by
  have HL := Lib.hid h.len
  have hcap := h.cap
  have hmax := h.max
  by_cases h4 : n ≤ 400
  · by_cases h0 : n = 0
    · subst h0
      have HV := Lib.hid (show true = fmB xs by
        have : xs = [] := List.eq_nil_of_length_eq_zero HL.out
        rw [this]; rfl)
      go_enter Tryz.func109, Tryz.ntmps109
      go_wp2
      go_ret
      exact ⟨ret_b HV.out, rfl⟩
    · obtain ⟨b, o, rfl, hb, hc⟩ := h.at_ (by omega)
      have hcell := hc (n - 1) (by omega)
      clear hc
      have h00 : ((n : Int) == 0) = false := by simp; omega
      have h44 : (n : Int) ≤ 400 := by omega
      have HV := Lib.hid (show (((el xs (n - 1) : Nat) : Int) != 0) = fmB xs by
        unfold fmB
        have e1 : decide (xs.length ≤ 400) = true := by rw [HL.out]; simpa using h4
        have e2 : xs.isEmpty = false := by
          cases xs with
          | nil => exact absurd HL.out (by simp; omega)
          | cons x xs => rfl
        rw [e1, e2, HL.out, Bool.eq_iff_iff]; simp)
      go_enter Tryz.func109, Tryz.ntmps109
      go_wp2
      go_ret
      exact ⟨ret_b HV.out, rfl⟩
  · have h44 : ¬ ((n : Int) ≤ 400) := by omega
    have hd : decide ((n : Int) ≤ 400) = false := by simp; omega
    have HV := Lib.hid (show false = fmB xs by
      unfold fmB
      have e1 : decide (xs.length ≤ 400) = false := by rw [HL.out]; simpa using h4
      rw [e1]; rfl)
    go_enter Tryz.func109, Tryz.ntmps109
    go_wp2
    go_ret
    exact ⟨ret_b HV.out, rfl⟩

set_option maxHeartbeats 400000 in
/-- The reference's bounded. -/
theorem bounded_yes (A : Option Addr) (n c : Nat) (w : World) (h : n ≤ 400) :
    Calls Tryz.prog 110 #[.slice A n c] w fun e w' => e = .returned (.tuple #[.slice A n c, .int .i64 0]) ∧ w = w' := by
  have h1 : ¬ (400 < (n : Int)) := by omega
  go_enter Tryz.func110, Tryz.ntmps110
  go_wp2
  go_ret2
  exact ⟨rfl, rfl⟩
set_option maxHeartbeats 400000 in
theorem bounded_no (A : Option Addr) (n c : Nat) (w : World) (h : 400 < n) :
    Calls Tryz.prog 110 #[.slice A n c] w fun e w' => e = .returned (.tuple #[.slice none 0 0, .int .i64 4]) ∧ w = w' := by
  have h1 : (400 < (n : Int)) := by omega
  go_enter Tryz.func110, Tryz.ntmps110
  go_wp2
  go_ret2
  exact ⟨rfl, rfl⟩

set_option maxHeartbeats 400000 in
theorem rtrim_any (A : Option Addr) (n c : Nat) (xs : List Nat) (w : World) (h : Rd w A n c xs) (hn : n ≤ 900000) :
    Calls Tryz.prog 108 #[.slice A n c] w (Out w (digs (val xs))) := by
  have hlen := Lib.hid h.len
  have hcap := h.cap
  have hmax := h.max
  have HL := Lib.hid h.lim
  go_enter Tryz.func108, Tryz.ntmps108
  go_wp2
  go_loop [3] (fun t => ∃ k : Nat, k ≤ n ∧ t = .int .i64 k ∧ Hid (∀ j, k ≤ j → el xs j = 0)) (fun t => (intOf t).toNat)
  case atStart => exact ⟨n, Nat.le_refl _, rfl, fun j hj => el_ge xs j (by rw [hlen.out]; exact hj)⟩
  case round =>
    obtain ⟨k, hk, rfl, hz⟩ := hrel
    by_cases hk0 : k = 0
    · subst hk0
      have HT := take_trim HL.out (Nat.zero_le _) (hz.out) (Or.inl rfl)
      have hR := h.take (Nat.zero_le n)
      rw [HT] at hR
      clear HT
      go_wp2_with (at_builtin; refine wpList_app0 _ rfl (.tmp 18) (.tmp 21) 50 rfl Tryz.underlying50 info50 _ _ _ (digs (val xs)) rfl rfl hR (by omega) ?_; intro A1 c1 w1 ho hbel)
      go_ret
      exact ⟨_, _, _, rfl, ho, hbel⟩
    · obtain ⟨b, o, rfl, hb, hc⟩ := h.at_ (by omega)
      have hcell := hc (k - 1) (by omega)
      have hpos : (0 : Int) < (k : Int) := by omega
      clear hc
      by_cases he : el xs (k - 1) = 0
      · have hq : (((el xs (k - 1) : Nat) : Int) == 0) = true := by rw [he]; rfl
        have HE := Lib.hid he
        clear he
        go_wp2
        go_round
        case rel => exact ⟨k - 1, by omega, by go_num, fun j hj => by
          rcases Nat.eq_or_lt_of_le hj with hj | hj
          · rw [← hj]; exact HE.out
          · exact hz.out j (by omega)⟩
        case measure => simp [intOf]; omega
      · have hq : (((el xs (k - 1) : Nat) : Int) == 0) = false := by simp; exact he
        have HE := Lib.hid he
        clear he
        have HT := take_trim HL.out (by rw [hlen.out]; exact hk) hz.out (Or.inr HE.out)
        have hR := h.take hk
        rw [HT] at hR
        clear HT
        go_wp2_with (at_builtin; refine wpList_app0 _ rfl (.tmp 18) (.tmp 21) 50 rfl Tryz.underlying50 info50 _ _ _ (digs (val xs)) rfl rfl hR (by omega) ?_; intro A1 c1 w1 ho hbel)
        go_ret
        exact ⟨_, _, _, rfl, ho, hbel⟩
end Go.Proofs.YtehekjlakegkpaaGreat
end
section
namespace Go.Proofs.YtehekjlakegkpaaGreat
open Go.RowKit

/-- -1, 0 or 1. -/
def cmpN (a b : Nat) : Int := if a < b then -1 else if a = b then 0 else 1
theorem cmpN_lt {a b : Nat} (h : a < b) : cmpN a b = -1 := by unfold cmpN; rw [if_pos h]
theorem cmpN_gt {a b : Nat} (h : b < a) : cmpN a b = 1 := by unfold cmpN; rw [if_neg (by omega), if_neg (by omega)]
theorem cmpN_eq (a : Nat) : cmpN a a = 0 := by unfold cmpN; rw [if_neg (by omega), if_pos rfl]
/-- It returns v, and has only read. -/
def Quiet (w : World) (v : Value) (e : Ending) (w' : World) : Prop := e = .returned v ∧ ∃ q, w' = w.drewN q
theorem ret_i {a b : Int} (h : a = b) : Ending.returned (.int .i64 a) = .returned (.int .i64 b) := by rw [h]

theorem drew2 (w : World) (a b : Nat) : ∃ q, (w.drewN a).drewN b = w.drewN q := ⟨_, World.drewN_drewN ..⟩
theorem drew3 (w : World) (a b c : Nat) : ∃ q, ((w.drewN a).drewN b).drewN c = w.drewN q := ⟨_, by rw [World.drewN_drewN, World.drewN_drewN]⟩

def CmpRel (w : World) (n : Nat) (xs ys : List Nat) (t : Value) (wr : World) : Prop :=
  ∃ k q : Nat, k ≤ n ∧ t = .int .i64 ((k : Int) - 1) ∧ xs.drop k = ys.drop k ∧ wr = w.drewN q

set_option maxHeartbeats 800000 in
theorem rcmp_eq (A B : Option Addr) (n c d : Nat) (xs ys : List Nat) (w : World) (ha : Rd w A n c xs) (hb : Rd w B n d ys) :
    Calls Tryz.prog 112 #[.slice A n c, .slice B n d] w (Quiet w (.int .i64 (cmpN (val xs) (val ys)))) := by
  have HX := Lib.hid ha.len
  have HY := Lib.hid hb.len
  have hcap := ha.cap
  have hmax := ha.max
  go_enter Tryz.func112, Tryz.ntmps112
  go_wp2
  go_loopw [5] (fun t wr => CmpRel w n xs ys t wr) (fun t _ => (intOf t + 1).toNat)
  case atStart => exact ⟨n, 0, Nat.le_refl _, rfl, by rw [List.drop_of_length_le (by rw [HX.out]; exact Nat.le_refl _), List.drop_of_length_le (by rw [HY.out]; exact Nat.le_refl _)], rfl⟩
  case round =>
    obtain ⟨k, q, hk, rfl, hd, rfl⟩ := hrel
    have HD := Lib.hid hd
    clear hd
    by_cases hk0 : k = 0
    · subst hk0
      have HV := Lib.hid (show (0 : Int) = cmpN (val xs) (val ys) by
        have := HD.out
        simp only [List.drop_zero] at this
        rw [this, cmpN_eq])
      go_wp2
      go_ret
      exact ⟨ret_i HV.out, q, rfl⟩
    · obtain ⟨b, o, rfl, hbb, hcA⟩ := ha.at_ (by omega)
      obtain ⟨b2, o2, rfl, hbb2, hcB⟩ := hb.at_ (by omega)
      have hcx := hcA (k - 1) (by omega)
      have hcy := hcB (k - 1) (by omega)
      clear hcA hcB
      have hp : (0 : Int) ≤ (k : Int) - 1 := by omega
      have hp1 : (1 : Int) ≤ (k : Int) := by omega
      have hlt : (k : Int) - 1 < (n : Int) := by omega
      have hkk : Hid (k - 1 + 1 = k) := by show k - 1 + 1 = k; omega
      have hnat : ((k : Int) - 1).toNat = k - 1 := by omega
      rcases Nat.lt_trichotomy (el xs (k - 1)) (el ys (k - 1)) with h | h | h
      · have h1 : ((el xs (k - 1) : Nat) : Int) < ((el ys (k - 1) : Nat) : Int) := by omega
        have HV := Lib.hid (show (-1 : Int) = cmpN (val xs) (val ys) by
          rw [cmpN_lt (val_lt_at ha.lim (by rw [HX.out, HY.out]) (i := k - 1) (by rw [HX.out]; omega) (by rw [hkk.out]; exact HD.out) h)])
        go_wp2
        go_quiet (fail)
        go_wp2
        go_ret
        exact ⟨ret_i HV.out, drew2 _ _ _⟩
      · have h1 : ¬ (((el xs (k - 1) : Nat) : Int) < ((el ys (k - 1) : Nat) : Int)) := by omega
        have h2 : ¬ (((el ys (k - 1) : Nat) : Int) < ((el xs (k - 1) : Nat) : Int)) := by omega
        have HS := Lib.hid (drop_eq_step (by rw [HX.out, HY.out]) (i := k - 1) (by rw [HX.out]; omega) (by rw [hkk.out]; exact HD.out) h)
        clear h
        go_wp2
        go_quiet (fail)
        go_wp2
        go_quiet (fail)
        go_wp2
        go_roundw
        case rel => exact ⟨k - 1, _, by omega, by go_num, HS.out, rfl⟩
        case measure => simp [intOf]; omega
      · have h1 : ¬ (((el xs (k - 1) : Nat) : Int) < ((el ys (k - 1) : Nat) : Int)) := by omega
        have h2 : ((el ys (k - 1) : Nat) : Int) < ((el xs (k - 1) : Nat) : Int) := by omega
        have HV := Lib.hid (show (1 : Int) = cmpN (val xs) (val ys) by
          rw [cmpN_gt (val_lt_at hb.lim (by rw [HX.out, HY.out]) (i := k - 1) (by rw [HY.out]; omega) (by rw [hkk.out]; exact HD.out.symm) h)])
        go_wp2
        go_quiet (fail)
        go_wp2
        go_quiet (fail)
        go_wp2
        go_ret
        exact ⟨ret_i HV.out, drew3 _ _ _ _⟩

set_option maxHeartbeats 400000 in
theorem rcmp_ne (A B : Option Addr) (n c m d : Nat) (xs ys : List Nat) (w : World) (ha : Rd w A n c xs) (hb : Rd w B m d ys) (nx : Nrm xs) (ny : Nrm ys) (hne : n ≠ m) :
    Calls Tryz.prog 112 #[.slice A n c, .slice B m d] w (Quiet w (.int .i64 (cmpN (val xs) (val ys)))) := by
  have hn : ((n : Int) != (m : Int)) = true := by simp; omega
  rcases Nat.lt_or_ge n m with h | h
  · have h1 : (n : Int) < (m : Int) := by omega
    have HV := Lib.hid (show (-1 : Int) = cmpN (val xs) (val ys) by rw [cmpN_lt (val_lt_of_len ha.lim hb.lim ny (by rw [ha.len, hb.len]; exact h))])
    go_enter Tryz.func112, Tryz.ntmps112
    go_wp2
    go_ret
    exact ⟨ret_i HV.out, 0, rfl⟩
  · have h1 : ¬ ((n : Int) < (m : Int)) := by omega
    have HV := Lib.hid (show (1 : Int) = cmpN (val xs) (val ys) by rw [cmpN_gt (val_lt_of_len hb.lim ha.lim nx (by rw [ha.len, hb.len]; omega))])
    go_enter Tryz.func112, Tryz.ntmps112
    go_wp2
    go_ret
    exact ⟨ret_i HV.out, 0, rfl⟩
/-- The reference's cmp. -/
theorem rcmp_any (A B : Option Addr) (n c m d : Nat) (xs ys : List Nat) (w : World) (ha : Rd w A n c xs) (hb : Rd w B m d ys) (nx : Nrm xs) (ny : Nrm ys) :
    Calls Tryz.prog 112 #[.slice A n c, .slice B m d] w (Quiet w (.int .i64 (cmpN (val xs) (val ys)))) := by
  by_cases h : n = m
  · subst h; exact rcmp_eq A B n c d xs ys w ha hb
  · exact rcmp_ne A B n c m d xs ys w ha hb nx ny h

set_option maxHeartbeats 400000 in
/-- The reference's Same, of one list twice. -/
theorem rSame_yes (A B : Option Addr) (n c m d : Nat) (xs : List Nat) (w : World) (ha : Rd w A n c xs) (hb : Rd w B m d xs) :
    Calls Tryz.prog 105 #[.slice A n c, .slice B m d] w (Quiet w (.bool true)) := by
  obtain rfl : n = m := by rw [← ha.len, hb.len]
  go_enter Tryz.func105, Tryz.ntmps105
  go_wp2_with fail
  refine (rcmp_eq _ _ _ _ _ xs xs _ ha hb).mono ?_
  rw [cmpN_eq]
  rintro e w' ⟨rfl, q, rfl⟩
  go_wp2
  go_ret
  exact ⟨rfl, q, rfl⟩
set_option maxHeartbeats 400000 in
/-- The reference's Of. -/
theorem rof_any (N : Nat) (w : World) (h : N < 18446744073709551616) :
    Calls Tryz.prog 53 #[.int .u64 N] w (Out w (digs N)) := by
  go_enter Tryz.func53, Tryz.ntmps53
  go_wp2_with fail
  have hB := blk2 w (N % 4294967296) (N / 4294967296) ((N : Int) % 4294967296) ((N : Int) / 4294967296) (by omega) (by omega)
  refine (rtrim_any _ 2 2 [N % 4294967296, N / 4294967296] _ (hB.nw (n := 2) (lim2 N h) rfl (by omega) (Nat.le_refl _)).1 (by omega)).mono ?_
  rw [val2]
  rintro e w1 ⟨A, n, c, rfl, hN, hb1⟩
  have HN := Lib.hid (hN.mono (lo' := w.heap.size) (by simp))
  have HB := Lib.hid (((Below.refl w.heap.size w).alloc (Nat.le_refl _) _).trans (hb1.mono (by simp)))
  clear hN hb1 hB
  go_wp2
  go_ret
  exact ⟨_, _, _, rfl, HN.out, HB.out⟩

end Go.Proofs.YtehekjlakegkpaaGreat
end
