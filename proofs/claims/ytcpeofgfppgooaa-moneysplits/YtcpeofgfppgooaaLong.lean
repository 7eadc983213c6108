/-
  What limb.divideLong does: the quotient and the rest, in new memory. For slices that can be read, of at most 400000 limbs, the divisor's last limb not 0, of two limbs or more and no longer than what is divided.
-/
import Derived.Test.YtcpeofgfppgooaaGuess
import Derived.Test.YtcpeofgfppgooaaTake
import Derived.Test.YtcpeofgfppgooaaKnuth
import Derived.Deep.RegionWith
namespace Go.Proofs.Ytcpeofgfppgooaa
open Go.RowKit

/-- The end of a call that gives two naturals. -/
def OutQ (w : World) (q r : Nat) (e : Ending) (w' : World) : Prop :=
  ∃ A n c B m d, e = .returned (.tuple #[.slice A n c, .slice B m d]) ∧ Nw w' w.heap.size A n c (digs q) ∧ Nw w' w.heap.size B m d (digs r) ∧ Below w.heap.size w w'
/-- The loop: k windows are left. -/
def LongRel (w : World) (g2 g3 m L V N : Nat) (es : List Nat) (tv : Value) (wr : World) : Prop :=
  ∃ (k : Nat) (rs qs : List Nat), k ≤ m ∧ tv = .int .i64 ((k : Int) - 1) ∧ Blk wr w.heap.size rs ∧ rs.length = L ∧ Lim rs ∧ Blk wr g2 es ∧ Blk wr g3 qs ∧ qs.length = m ∧ Lim qs ∧ (∀ j, j < k → el qs j = 0) ∧
    val rs + V * val qs = N ∧ val rs < V * pw k ∧ Below w.heap.size w wr

/-- The window at place i. -/
def win (rs : List Nat) (i n : Nat) : List Nat := (rs.drop i).take (n + 1)
theorem win_len {rs : List Nat} {i n : Nat} (h : i + n + 1 ≤ rs.length) : (win rs i n).length = n + 1 := by
  unfold win; rw [List.length_take, List.length_drop]; omega
theorem win_lim {rs : List Nat} (hL : Lim rs) (i n : Nat) : Lim (win rs i n) := Lim_take (Lim_drop hL i) _
theorem win_el (rs : List Nat) (i n j : Nat) (hj : j ≤ n) : el (win rs i n) j = el rs (i + j) := by
  unfold win; rw [el_take _ _ _ (by omega), el_drop]
theorem win_split (rs : List Nat) (i n : Nat) : rs.take i ++ (win rs i n ++ rs.drop (i + n + 1)) = rs := by
  unfold win
  rw [show i + n + 1 = i + (n + 1) by omega, ← List.drop_drop, List.take_append_drop, List.take_append_drop]
theorem win_val {rs : List Nat} {i n V : Nat} (hl : i + n + 1 ≤ rs.length) (hV : V < pw n) (hlt : val rs < V * pw (i + 1)) :
    val (rs.drop (i + n + 1)) = 0 ∧ val rs = val (rs.take i) + pw i * val (win rs i n) ∧ val (win rs i n) < V * 4294967296 := by
  have h0 : val rs < pw (i + n + 1) := by
    have : V * pw (i + 1) ≤ pw n * pw (i + 1) := Nat.mul_le_mul_right _ (by omega)
    rw [← pw_add, show n + (i + 1) = i + n + 1 by omega] at this
    omega
  have h1 := (el_zero_of_lt h0).2
  have h2 : val rs = val (rs.take i) + pw i * val (win rs i n) := by
    have h3 : val (rs.take i ++ (win rs i n ++ rs.drop (i + n + 1))) = val rs := by rw [win_split]
    rw [val_append, val_append, h1, Nat.mul_zero, Nat.add_zero, List.length_take, Nat.min_eq_left (by omega)] at h3
    exact h3.symm
  refine ⟨h1, h2, ?_⟩
  have h4 : pw i * val (win rs i n) < pw i * (V * 4294967296) := by
    rw [pw_succ] at hlt
    have : V * (4294967296 * pw i) = pw i * (V * 4294967296) := by rw [Nat.mul_comm, Nat.mul_comm 4294967296, Nat.mul_assoc, Nat.mul_comm 4294967296]
    omega
  exact Nat.lt_of_mul_lt_mul_left h4
theorem LongRel.step {w wx : World} {g2 g3 m L V N n k : Nat} {es rs qs ws : List Nat} {S : Int} (hg2 : w.heap.size < g2) (hg3 : g2 < g3) (hk : k ≤ m) (hk0 : k ≠ 0) (hl : rs.length = L) (hiL : k - 1 + n + 1 ≤ L) (hrL : Lim rs) (hVn : V < pw n) (hV0 : 0 < V)
    (hB : Blk wx w.heap.size (rs.take (k - 1) ++ (ws ++ rs.drop (k - 1 + n + 1)))) (hwl : ws.length = n + 1) (hwL : Lim ws) (hE : Blk wx g2 es) (hQ : Blk wx g3 qs) (hql : qs.length = m) (hqL : Lim qs) (hqz : ∀ j, j < k → el qs j = 0)
    (heq : val rs + V * val qs = N) (hlt : val rs < V * pw k) (hbel : Below w.heap.size w wx) (hw : val ws = val (win rs (k - 1) n) % V) (hQl : val (win rs (k - 1) n) / V < 4294967296) (hS : S = ((val (win rs (k - 1) n) / V : Nat) : Int)) :
    LongRel w g2 g3 m L V N es (.int .i64 ((k : Int) - 1 - 1)) (wx.setCell ⟨g3, k - 1, none⟩ (.int .u32 S)) := by
  subst hS
  have hkk : k - 1 + 1 = k := by omega
  obtain ⟨h1, h2, h3⟩ := win_val (rs := rs) (i := k - 1) (n := n) (V := V) (by omega) hVn (by rw [hkk]; exact hlt)
  have hv : val (rs.take (k - 1) ++ (ws ++ rs.drop (k - 1 + n + 1))) = val (rs.take (k - 1)) + pw (k - 1) * (val (win rs (k - 1) n) % V) := by
    rw [val_append, val_append, h1, Nat.mul_zero, Nat.add_zero, List.length_take, Nat.min_eq_left (by omega), hw]
  have hset := val_set qs (k - 1) (val (win rs (k - 1) n) / V) (by omega)
  rw [hqz (k - 1) (by omega), Nat.mul_zero, Nat.add_zero] at hset
  have hdm := Nat.div_add_mod (val (win rs (k - 1) n)) V
  have hml := Nat.mod_lt (val (win rs (k - 1) n)) hV0
  have htl := val_take_lt hrL (k - 1)
  refine ⟨k - 1, rs.take (k - 1) ++ (ws ++ rs.drop (k - 1 + n + 1)), qs.set (k - 1) (val (win rs (k - 1) n) / V), by omega, by congr 1; omega, hB.far (by show _ ≠ g3; omega) _, ?_, Lim_append (Lim_take hrL _) (Lim_append hwL (Lim_drop hrL _)), hE.far (by show _ ≠ g3; omega) _, hQ.set_ _ _, by simp [hql], Lim_set hqL _ _ hQl, ?_, ?_, ?_, hbel.setCell (by show _ ≤ g3; omega) _⟩
  · rw [List.length_append, List.length_append, List.length_take, List.length_drop, hwl]; omega
  · intro j hj
    rw [el_set_other _ _ _ _ (by omega)]
    exact hqz j (by omega)
  · rw [hv, hset]
    generalize val (win rs (k - 1) n) / V = Q at *
    generalize val (win rs (k - 1) n) % V = R at *
    rw [h2, ← hdm] at heq
    rw [Nat.mul_add V, Nat.mul_left_comm V]
    rw [Nat.mul_add] at heq
    omega
  · rw [hv]
    generalize val (win rs (k - 1) n) % V = R at *
    have h5 : pw (k - 1) * (R + 1) ≤ pw (k - 1) * V := Nat.mul_le_mul_left _ hml
    rw [Nat.mul_add, Nat.mul_comm _ V] at h5
    omega

theorem long_end {x y s V N q r : Nat} (hV : V = y * 2 ^ s) (hN : N = x * 2 ^ s) (hr : r < V) (h : r + V * q = N) : q = x / y ∧ r / 2 ^ s = x % y := by
  have hp := Nat.two_pow_pos s
  have hy : 0 < y := by
    rcases Nat.eq_zero_or_pos y with e | e
    · subst e; rw [Nat.zero_mul] at hV; omega
    · exact e
  have h1 : N / V = q := by
    rw [← h, Nat.add_mul_div_left _ _ (by omega), Nat.div_eq_of_lt hr, Nat.zero_add]
  have h2 : N % V = r := by rw [← h, Nat.add_mul_mod_self_left, Nat.mod_eq_of_lt hr]
  constructor
  · rw [← h1, hV, hN, Nat.mul_div_mul_right _ _ hp]
  · rw [← h2, hV, hN, Nat.mul_mod_mul_right, Nat.mul_div_cancel _ hp]

theorem long_out {w wr w6 : World} {g3 m k1 k2 n q r : Nat} {qs es6 : List Nat} (hbel : Below w.heap.size w wr) (hN : Nw wr w.heap.size (some ⟨g3, 0, none⟩) m m qs) (hk1 : k1 ≤ m) (ht1 : qs.take k1 = digs q)
    (hB6 : Blk w6 wr.heap.size es6) (hL6 : Lim es6) (hl6 : es6.length = n) (hn : n ≤ 900000) (hv6 : val es6 = r) (hb6 : Below wr.heap.size wr.drew w6) (hk2 : k2 ≤ n) (ht2 : es6.take k2 = digs (val es6)) :
    OutQ w q r (.returned (.tuple #[.slice (some ⟨g3, 0, none⟩) k1 m, .slice (some ⟨wr.heap.size, 0, none⟩) k2 n])) w6 := by
  have hb6' : Below wr.heap.size wr w6 := ⟨hb6.os, hb6.tape, hb6.output, hb6.size, hb6.block⟩
  refine ⟨_, _, _, _, _, _, rfl, ?_, ?_, hbel.trans (hb6'.mono hbel.size)⟩
  · rw [← ht1]; exact (hN.take hk1).below hb6'
  · rw [← hv6, ← ht2]; exact (hB6.nw hL6 hl6 (by omega) hbel.size).take hk2

end Go.Proofs.Ytcpeofgfppgooaa
