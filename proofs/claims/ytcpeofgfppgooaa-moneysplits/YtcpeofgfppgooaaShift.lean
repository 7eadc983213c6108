/-
  What limb.shiftedLeft, limb.shiftedRight and limb.divideByLimb do. For slices that can be read, of at most 900000 limbs, and shifts below 32.
-/
import Derived.Test.YtcpeofgfppgooaaLow
import Derived.Test.YtcpeofgfppgooaaLz
namespace Go.Proofs.Ytcpeofgfppgooaa
open Go.RowKit

theorem shl_lt {x s : Nat} (hx : x < 4294967296) (hs : s ≤ 31) : x * 2 ^ s < 9223372036854775808 := by
  have hp : 2 ^ s ≤ 2147483648 := Nat.le_trans (Nat.pow_le_pow_right (by omega) hs) (by decide)
  exact Nat.lt_of_le_of_lt (Nat.mul_le_mul (show x ≤ 4294967295 by omega) hp) (by decide)
theorem shl_cast (x s : Nat) (hx : x < 4294967296) (hs : s ≤ 31) : IntKind.u64.wrap ((x : Int) * 2 ^ s) = ((x * 2 ^ s : Nat) : Int) := by
  have h := shl_lt hx hs
  have e : ((x : Int) * 2 ^ s) = ((x * 2 ^ s : Nat) : Int) := by rw [Int.natCast_mul, Int.natCast_pow]; rfl
  rw [e, IntKind.wrap_u64]
  omega
theorem or_shl (q x s : Nat) (hq : q < 2 ^ s) (hx : x < 4294967296) (hs : s ≤ 31) : bits .or .u64 (q : Int) (IntKind.u64.wrap ((x : Int) * 2 ^ s)) = ((q + x * 2 ^ s : Nat) : Int) := by
  have hp : 2 ^ s ≤ 2147483648 := Nat.le_trans (Nat.pow_le_pow_right (by omega) hs) (by decide)
  have h := shl_lt hx hs
  rw [shl_cast x s hx hs, u64_or_nat _ _ (by omega) (by omega), Nat.or_comm, nat_join s _ _ (by rw [Nat.mul_mod_left]) hq, Nat.add_comm]
/-- A row in the next block. -/
def OutB (w : World) (n : Nat) (P : List Nat → Prop) (e : Ending) (w' : World) : Prop :=
  ∃ es, e = .returned (.slice (some ⟨w.heap.size, 0, none⟩) n n) ∧ Blk w' w.heap.size es ∧ es.length = n ∧ Lim es ∧ P es ∧ Below w.heap.size w w'
def ShlRel (w : World) (n s : Nat) (xs : List Nat) (cv tv : Value) (wr : World) : Prop :=
  ∃ (k q : Nat) (rs : List Nat), k ≤ n ∧ tv = .int .i64 k ∧ cv = .int .u64 q ∧ q < 2 ^ s ∧ Blk wr w.heap.size rs ∧ rs.length = n + 1 ∧ Lim rs ∧ Below w.heap.size w wr ∧
    val (rs.take k) + pw k * q = val (xs.take k) * 2 ^ s
theorem ShlRel.step {w wr : World} {n k q s : Nat} {xs rs : List Nat} (hs : s ≤ 31) (hx : el xs k < 4294967296) (hk : k < n) (hq : q < 2 ^ s) (hB : Blk wr w.heap.size rs) (hrl : rs.length = n + 1) (hrL : Lim rs) (hbel : Below w.heap.size w wr)
    (heq : val (rs.take k) + pw k * q = val (xs.take k) * 2 ^ s) :
    ShlRel w n s xs (.int .u64 (bits .or .u64 (q : Int) (IntKind.u64.wrap (((el xs k : Nat) : Int) * 2 ^ s)) / 4294967296)) (.int .i64 ((k : Int) + 1))
      (wr.setCell ⟨w.heap.size, k, none⟩ (.int .u32 (bits .or .u64 (q : Int) (IntKind.u64.wrap (((el xs k : Nat) : Int) * 2 ^ s)) % 4294967296))) := by
  rw [or_shl q (el xs k) s hq hx hs]
  have e1 : ((q + el xs k * 2 ^ s : Nat) : Int) / 4294967296 = (((q + el xs k * 2 ^ s) / 4294967296 : Nat) : Int) := by omega
  have e2 : ((q + el xs k * 2 ^ s : Nat) : Int) % 4294967296 = (((q + el xs k * 2 ^ s) % 4294967296 : Nat) : Int) := by omega
  rw [e1, e2]
  refine ⟨k + 1, (q + el xs k * 2 ^ s) / 4294967296, rs.set k ((q + el xs k * 2 ^ s) % 4294967296), by omega, rfl, rfl, ?_, hB.set_ _ _, by simp [hrl], Lim_set hrL _ _ (by omega), hbel.setCell (Nat.le_refl _) _, ?_⟩
  · rw [Nat.div_lt_iff_lt_mul (by omega)]
    have : (el xs k + 1) * 2 ^ s ≤ 4294967296 * 2 ^ s := Nat.mul_le_mul_right _ (by omega)
    rw [Nat.add_mul] at this
    rw [Nat.mul_comm (2 ^ s)]
    omega
  · rw [carry_step rs k _ (by omega), val_take_step xs, Nat.mul_add, Nat.add_mul, Nat.mul_assoc]
    omega
theorem ShlRel.last {w wr : World} {n q s : Nat} {xs rs : List Nat} (hs : s ≤ 31) (hxl : xs.length ≤ n) (hq : q < 2 ^ s) (hB : Blk wr w.heap.size rs) (hrl : rs.length = n + 1) (hrL : Lim rs) (hbel : Below w.heap.size w wr)
    (heq : val (rs.take n) + pw n * q = val (xs.take n) * 2 ^ s) :
    OutB w (n + 1) (fun es => val es = val xs * 2 ^ s) (.returned (.slice (some ⟨w.heap.size, 0, none⟩) (n + 1) (n + 1))) (wr.setCell ⟨w.heap.size, n, none⟩ (.int .u32 (q : Int))) := by
  have hp : 2 ^ s ≤ 2147483648 := Nat.le_trans (Nat.pow_le_pow_right (by omega) hs) (by decide)
  refine ⟨rs.set n q, rfl, hB.set_ _ _, by simp [hrl], Lim_set hrL _ _ (by omega), ?_, hbel.setCell (Nat.le_refl _) _⟩
  have h := val_take_set rs n q (by omega)
  rw [val_take_ge _ _ (by simp [hrl])] at h
  rw [val_take_ge xs n hxl] at heq
  omega

def ShrRel (w : World) (n s : Nat) (xs : List Nat) (cv tv : Value) (wr : World) : Prop :=
  ∃ (k : Nat) (rs : List Nat), k ≤ n ∧ tv = .int .i64 ((k : Int) - 1) ∧ cv = .int .u64 ((el xs k + 4294967296 * el xs (k + 1) : Nat) : Int) ∧ Blk wr w.heap.size rs ∧ rs.length = n ∧ Lim rs ∧ Below w.heap.size w wr ∧
    val (rs.drop k) = val (xs.drop k) / 2 ^ s
theorem val_drop_any (xs : List Nat) (k : Nat) : val (xs.drop k) = el xs k + 4294967296 * val (xs.drop (k + 1)) := by
  rcases Nat.lt_or_ge k xs.length with h | h
  · exact val_drop xs k h
  · rw [el_ge xs k h, List.drop_of_length_le h, List.drop_of_length_le (by omega)]; rfl
theorem drop_set_at (rs : List Nat) (k x : Nat) (h : k < rs.length) : val ((rs.set k x).drop k) = x + 4294967296 * val (rs.drop (k + 1)) := by
  rw [val_drop_any, el_set_same _ _ _ h]
  congr 3
  apply ext_el
  · simp
  · intro j _
    rw [el_drop, el_drop, el_set_other _ _ _ _ (by omega)]
/-- One limb of a shift to the right. -/
theorem shr_num (x y0 Y Y' p m : Nat) (hx : x < 4294967296) (hp : 0 < p) (hB : p * m = 4294967296) (hY : Y = y0 + 4294967296 * Y') :
    (x + 4294967296 * Y) / p = (x + 4294967296 * y0) / p % 4294967296 + 4294967296 * (Y / p) := by
  have e1 : (x + 4294967296 * Y) / p = x / p + m * Y := by
    rw [← hB, Nat.mul_assoc, Nat.add_mul_div_left _ _ hp]
  have e2 : (x + 4294967296 * y0) / p = x / p + m * y0 := by
    rw [← hB, Nat.mul_assoc, Nat.add_mul_div_left _ _ hp]
  have e3 : Y % p = y0 % p := by rw [hY, ← hB, Nat.mul_assoc, Nat.add_mul_mod_self_left]
  have e4 : m * Y = 4294967296 * (Y / p) + m * (Y % p) := by
    have := Nat.div_add_mod Y p
    calc m * Y = m * (p * (Y / p) + Y % p) := by rw [this]
      _ = _ := by rw [Nat.mul_add, ← Nat.mul_assoc, Nat.mul_comm m p, hB]
  have e5 : m * y0 = 4294967296 * (y0 / p) + m * (Y % p) := by
    have := Nat.div_add_mod y0 p
    rw [e3]
    calc m * y0 = m * (p * (y0 / p) + y0 % p) := by rw [this]
      _ = _ := by rw [Nat.mul_add, ← Nat.mul_assoc, Nat.mul_comm m p, hB]
  have h6 : x / p < m := by rw [Nat.div_lt_iff_lt_mul hp, Nat.mul_comm, hB]; exact hx
  have h7 : Y % p + 1 ≤ p := Nat.mod_lt Y hp
  have h8 := Nat.mul_le_mul_left m h7
  rw [Nat.mul_add, Nat.mul_comm m p, hB] at h8
  rw [e1, e2, e4, e5]
  generalize m * (Y % p) = z at *
  have : (x / p + (4294967296 * (y0 / p) + z)) % 4294967296 = x / p + z := by
    rw [show x / p + (4294967296 * (y0 / p) + z) = (x / p + z) + 4294967296 * (y0 / p) by omega, Nat.add_mul_mod_self_left]
    exact Nat.mod_eq_of_lt (by omega)
  omega
theorem pow_split {s : Nat} (hs : s ≤ 31) : 2 ^ s * 2 ^ (32 - s) = 4294967296 := by
  rw [← Nat.pow_add, show s + (32 - s) = 32 by omega]
theorem ShrRel.step {w wr : World} {n k ov s : Nat} {xs rs : List Nat} (hs : s ≤ 31) (hl : Lim xs) (hk : k ≤ n) (hk0 : k ≠ 0) (hov : el xs k + 4294967296 * el xs (k + 1) = ov) (hB : Blk wr w.heap.size rs) (hrl : rs.length = n) (hrL : Lim rs) (hbel : Below w.heap.size w wr)
    (heq : val (rs.drop k) = val (xs.drop k) / 2 ^ s) :
    ShrRel w n s xs (.int .u64 (bits .or .u64 (IntKind.u64.wrap ((ov : Int) * 4294967296)) (el xs (k - 1) : Nat))) (.int .i64 ((k : Int) - 1 - 1))
      (wr.setCell ⟨w.heap.size, k - 1, none⟩ (.int .u32 (bits .or .u64 (IntKind.u64.wrap ((ov : Int) * 4294967296)) (el xs (k - 1) : Nat) / 2 ^ s % 4294967296))) := by
  have h0 := el_lt hl k
  have h1 := el_lt hl (k + 1)
  have h2 := el_lt hl (k - 1)
  have e1 : IntKind.u64.wrap ((ov : Int) * 4294967296) = ((el xs k : Nat) : Int) * 4294967296 := by
    rw [IntKind.wrap_u64]; omega
  rw [e1, or_lo _ _ h2 h0]
  have e2 : (((el xs (k - 1) + 4294967296 * el xs k : Nat) : Int) / 2 ^ s % 4294967296) = (((el xs (k - 1) + 4294967296 * el xs k) / 2 ^ s % 4294967296 : Nat) : Int) := by
    rw [Int.natCast_emod, Int.natCast_ediv, Int.natCast_pow]; rfl
  rw [e2]
  have hkk : k - 1 + 1 = k := by omega
  refine ⟨k - 1, rs.set (k - 1) ((el xs (k - 1) + 4294967296 * el xs k) / 2 ^ s % 4294967296), by omega, by congr 1; omega, by rw [hkk], hB.set_ _ _, by simp [hrl], Lim_set hrL _ _ (by omega), hbel.setCell (Nat.le_refl _) _, ?_⟩
  rw [drop_set_at _ _ _ (by omega), hkk, heq, val_drop_any xs (k - 1), hkk]
  exact (shr_num _ _ _ _ _ _ h2 (Nat.two_pow_pos s) (pow_split hs) (val_drop_any xs k)).symm

def DblRel (w : World) (n d : Nat) (xs : List Nat) (cv tv : Value) (wr : World) : Prop :=
  ∃ (k r : Nat) (rs : List Nat), k ≤ n ∧ tv = .int .i64 ((k : Int) - 1) ∧ cv = .int .u64 r ∧ r < d ∧ Blk wr w.heap.size rs ∧ rs.length = n ∧ Lim rs ∧ Below w.heap.size w wr ∧
    val (xs.drop k) = d * val (rs.drop k) + r
/-- The end of limb.divideByLimb. -/
def OutD (w : World) (q r : Nat) (e : Ending) (w' : World) : Prop :=
  ∃ A n c, e = .returned (.tuple #[.slice A n c, .int .u64 r]) ∧ Nw w' w.heap.size A n c (digs q) ∧ Below w.heap.size w w'

theorem DblRel.step {w wr : World} {n k r d : Nat} {xs rs : List Nat} (hl : Lim xs) (hd : d < 4294967296) (hk : k ≤ n) (hk0 : k ≠ 0) (hr : r < d) (hB : Blk wr w.heap.size rs) (hrl : rs.length = n) (hrL : Lim rs) (hbel : Below w.heap.size w wr)
    (heq : val (xs.drop k) = d * val (rs.drop k) + r) :
    DblRel w n d xs (.int .u64 ((bits .or .u64 ((r : Int) * 4294967296) (el xs (k - 1) : Nat)).tmod (d : Int))) (.int .i64 ((k : Int) - 1 - 1))
      (wr.setCell ⟨w.heap.size, k - 1, none⟩ (.int .u32 (IntKind.u64.wrap ((bits .or .u64 ((r : Int) * 4294967296) (el xs (k - 1) : Nat)).tdiv (d : Int)) % 4294967296))) := by
  have h2 := el_lt hl (k - 1)
  rw [or_lo _ _ h2 (by omega)]
  generalize hN : el xs (k - 1) + 4294967296 * r = N
  have hNd : N / d < 4294967296 := by
    rw [Nat.div_lt_iff_lt_mul (by omega)]
    have : 4294967296 * (r + 1) ≤ 4294967296 * d := Nat.mul_le_mul_left _ hr
    omega
  have e1 : ((N : Int)).tmod (d : Int) = ((N % d : Nat) : Int) := by
    rw [Int.tmod_eq_emod_of_nonneg (by omega), Int.natCast_emod]
  have e2 : IntKind.u64.wrap ((N : Int).tdiv (d : Int)) % 4294967296 = ((N / d : Nat) : Int) := by
    rw [Int.tdiv_eq_ediv_of_nonneg (by omega), ← Int.natCast_ediv, IntKind.wrap_u64]
    generalize N / d = Q at *
    omega
  rw [e1, e2]
  have hkk : k - 1 + 1 = k := by omega
  refine ⟨k - 1, N % d, rs.set (k - 1) (N / d), by omega, by congr 1; omega, rfl, Nat.mod_lt _ (by omega), hB.set_ _ _, by simp [hrl], Lim_set hrL _ _ hNd, hbel.setCell (Nat.le_refl _) _, ?_⟩
  rw [drop_set_at _ _ _ (by omega), hkk, val_drop_any xs (k - 1), hkk, heq, Nat.mul_add d (N / d)]
  have h3 := Nat.div_add_mod N d
  rw [Nat.mul_left_comm d]
  omega
theorem DblRel.last {w wr : World} {n r d k : Nat} {xs rs : List Nat} (hr : r < d) (hn : n ≤ 900000) (hB : Blk wr w.heap.size rs) (hrl : rs.length = n) (hrL : Lim rs) (hbel : Below w.heap.size w wr)
    (heq : val (xs.drop 0) = d * val (rs.drop 0) + r) (hk : k ≤ n) (ht : rs.take k = digs (val rs)) :
    OutD w (val xs / d) (val xs % d) (.returned (.tuple #[.slice (some ⟨w.heap.size, 0, none⟩) k n, .int .u64 (r : Int)])) wr := by
  simp only [List.drop_zero] at heq
  have e1 : val xs / d = val rs := by rw [heq, Nat.mul_add_div (by omega), Nat.div_eq_of_lt hr, Nat.add_zero]
  have e2 : val xs % d = r := by rw [heq, Nat.mul_add_mod, Nat.mod_eq_of_lt hr]
  rw [e1, e2]
  refine ⟨_, _, _, rfl, ?_, hbel⟩
  rw [← ht]
  exact (hB.nw hrL hrl (by omega) (Nat.le_refl _)).take hk

end Go.Proofs.Ytcpeofgfppgooaa
