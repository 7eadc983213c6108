/-
  What limb.product does: the natural of the product, in new memory. For slices that can be read, of at most 400000 limbs.
-/
import Derived.Test.YteicihaigkgbnaaSmall
namespace Go.Proofs.Yteicihaigkgbnaa
open Go.RowKit

theorem val_set (ts : List Nat) (p x : Nat) (h : p < ts.length) : val (ts.set p x) + pw p * el ts p = val ts + pw p * x := by
  have h1 := val_take_drop (ts.set p x) (p + 1) (by rw [List.length_set]; omega)
  have h2 := val_take_drop ts (p + 1) (by omega)
  have h3 : (ts.set p x).drop (p + 1) = ts.drop (p + 1) := by
    apply ext_el
    · simp
    · intro j _
      rw [el_drop, el_drop, el_set_other _ _ _ _ (by omega)]
  rw [val_take_set ts p x h, h3] at h1
  rw [val_take_step] at h2
  omega
theorem mul_le (x y : Nat) (hx : x < 4294967296) (hy : y < 4294967296) : x * y ≤ 18446744065119617025 := by
  have := Nat.mul_le_mul (show x ≤ 4294967295 by omega) (show y ≤ 4294967295 by omega)
  omega

/-- The outer loop: i limbs of xs are done. -/
def MulRel (w : World) (L n m : Nat) (xs ys : List Nat) (tv : Value) (wr : World) : Prop :=
  ∃ (i : Nat) (rs : List Nat), i ≤ n ∧ tv = .int .i64 i ∧ Blk wr w.heap.size rs ∧ rs.length = L ∧ Lim rs ∧ Below w.heap.size w wr ∧ (∀ j, i + m ≤ j → el rs j = 0) ∧ val rs = val (xs.take i) * val ys
/-- The inner loop: j limbs of ys are done. -/
def MulIn (w : World) (L m i x : Nat) (rs ys : List Nat) (cv tv : Value) (wr : World) : Prop :=
  ∃ (j q : Nat) (ts : List Nat), j ≤ m ∧ tv = .int .i64 j ∧ cv = .int .u64 q ∧ q < 4294967296 ∧ Blk wr w.heap.size ts ∧ ts.length = L ∧ Lim ts ∧ Below w.heap.size w wr ∧ (∀ p, i + j ≤ p → el ts p = el rs p) ∧
    val ts + pw (i + j) * q = val rs + pw i * (x * val (ys.take j))
theorem MulIn.step {w wr : World} {L m i j x q : Nat} {rs ys ts : List Nat} (hx : x < 4294967296) (hy : el ys j < 4294967296) (hj : j < m) (hiL : i + m ≤ L) (hq : q < 4294967296) (hB : Blk wr w.heap.size ts) (hl : ts.length = L) (hL : Lim ts)
    (hbel : Below w.heap.size w wr) (he : ∀ p, i + j ≤ p → el ts p = el rs p) (heq : val ts + pw (i + j) * q = val rs + pw i * (x * val (ys.take j))) {S1 S2 : Int}
    (h1 : S1 = (((q + (x * el ys j + el ts (i + j))) / 4294967296 : Nat) : Int)) (h2 : S2 = (((q + (x * el ys j + el ts (i + j))) % 4294967296 : Nat) : Int)) :
    MulIn w L m i x rs ys (.int .u64 S1) (.int .i64 ((j : Int) + 1)) (wr.setCell ⟨w.heap.size, i + j, none⟩ (.int .u32 S2)) := by
  subst h1 h2
  have hm := mul_le x (el ys j) hx hy
  have ht := el_lt hL (i + j)
  refine ⟨j + 1, (q + (x * el ys j + el ts (i + j))) / 4294967296, ts.set (i + j) ((q + (x * el ys j + el ts (i + j))) % 4294967296), by omega, rfl, rfl, by omega, hB.set_ _ _, by simp [hl], Lim_set hL _ _ (by omega), hbel.setCell (Nat.le_refl _) _, ?_, ?_⟩
  · intro p hp
    rw [el_set_other _ _ _ _ (by omega)]
    exact he p (by omega)
  · have h3 := val_set ts (i + j) ((q + (x * el ys j + el ts (i + j))) % 4294967296) (by omega)
    rw [← Nat.add_assoc i j 1, pw_succ, val_take_step]
    have h4 : pw (i + j) * ((q + (x * el ys j + el ts (i + j))) % 4294967296) + 4294967296 * pw (i + j) * ((q + (x * el ys j + el ts (i + j))) / 4294967296) = pw (i + j) * (q + (x * el ys j + el ts (i + j))) := by
      rw [Nat.mul_comm 4294967296, Nat.mul_assoc, ← Nat.mul_add, Nat.mod_add_div]
    have h5 : pw i * (x * (val (ys.take j) + pw j * el ys j)) = pw i * (x * val (ys.take j)) + pw (i + j) * (x * el ys j) := by
      rw [Nat.mul_add, Nat.mul_add, pw_add, Nat.mul_assoc, Nat.mul_left_comm x (pw j)]
    rw [h5]
    rw [Nat.mul_add, Nat.mul_add] at h4
    omega
/-- The outer loop's step. -/
theorem MulRel.step {w wr : World} {L n m i q : Nat} {xs ys rs ts : List Nat} (hi : i < n) (hiL : n + m ≤ L) (hyl : ys.length ≤ m) (hq : q < 4294967296) (hB : Blk wr w.heap.size ts) (hl : ts.length = L) (hL : Lim ts)
    (hbel : Below w.heap.size w wr) (hz : ∀ j, i + m ≤ j → el rs j = 0) (hv : val rs = val (xs.take i) * val ys) (he : ∀ p, i + m ≤ p → el ts p = el rs p) (heq : val ts + pw (i + m) * q = val rs + pw i * (el xs i * val (ys.take m))) {S2 : Int} (h2 : S2 = (q : Int)) :
    MulRel w L n m xs ys (.int .i64 ((i : Int) + 1)) (wr.setCell ⟨w.heap.size, i + m, none⟩ (.int .u32 S2)) := by
  subst h2
  refine ⟨i + 1, ts.set (i + m) q, by omega, rfl, hB.set_ _ _, by simp [hl], Lim_set hL _ _ hq, hbel.setCell (Nat.le_refl _) _, ?_, ?_⟩
  · intro j hj
    rw [el_set_other _ _ _ _ (by omega), he j (by omega)]
    exact hz j (by omega)
  · have h3 := val_set ts (i + m) q (by omega)
    rw [he (i + m) (Nat.le_refl _), hz (i + m) (Nat.le_refl _), Nat.mul_zero, Nat.add_zero] at h3
    rw [h3, heq, val_take_ge ys m hyl, hv, val_take_step, Nat.add_mul, Nat.mul_assoc]

set_option maxHeartbeats 1600000 in
/-- limb.product. -/
theorem prod_any (A B : Option Addr) (n c m d : Nat) (xs ys : List Nat) (w : World) (ha : Rd w A n c xs) (hb : Rd w B m d ys) (hn : n ≤ 400000) (hm : m ≤ 400000) :
    Calls Try.prog 78 #[.slice A n c, .slice B m d] w (Out w (digs (val xs * val ys))) := by
  have hmk := fun W => mk32 ((n : Int) + (m : Int)) (n + m) (by omega) (by omega) W
  have HX := Lib.hid ha.len
  have HY := Lib.hid hb.len
  go_enter Try.func78, Try.ntmps78
  go_wp2
  go_loopw [19] (fun tv wr => MulRel w (n + m) n m xs ys tv wr) (fun tv _ => n - (intOf tv).toNat)
  case atStart => exact ⟨0, zeros (n + m), Nat.zero_le _, rfl, Blk.new _ _, zeros_len _, Lim_zeros _, (Below.refl _ _).alloc (Nat.le_refl _) _, fun j _ => el_zeros _ _, by rw [val_zeros_]; simp [val]⟩
  case round =>
    obtain ⟨i, rs, hi, rfl, hB, hrl, hrL, hbel, hz, hv⟩ := hrel
    have HR := Lib.hid hrl
    have HZ := Lib.hid hz
    have HV := Lib.hid hv
    clear hmk hrl hz hv
    have hxi := el_lt ha.lim i
    by_cases hin : i < n
    · obtain ⟨b, o, rfl, hbb, hcA⟩ := ha.at_ (by omega)
      have hcx := (hbel.cell (p := ⟨b, o + i, none⟩) hbb).trans (hcA i hin)
      clear hcA
      go_wp2
      go_loopw [8, 26] (fun cv tv wr => MulIn w (n + m) m i (el xs i) rs ys cv tv wr) (fun _ tv _ => m - (intOf tv).toNat)
      case atStart => exact ⟨0, 0, rs, Nat.zero_le _, rfl, rfl, by omega, hB, HR.out, hrL, hbel, fun _ _ => rfl, by simp [val]⟩
      case round =>
        obtain ⟨j, q, ts, hj, rfl, rfl, hq, hB2, htl, htL, hbel2, he, heq⟩ := hrel
        have HT := Lib.hid htl
        have HE := Lib.hid he
        have HQ := Lib.hid heq
        clear htl he heq hcx hB hbel
        have hyj := el_lt hb.lim j
        have htj := el_lt htL (i + j)
        have hxy := mul_le _ _ hxi hyj
        by_cases hjm : j < m
        · obtain ⟨b2, o2, rfl, hbb2, hcB⟩ := hb.at_ (by omega)
          have hcy := (hbel2.cell (p := ⟨b2, o2 + j, none⟩) hbb2).trans (hcB j hjm)
          clear hcB
          have hf := hB2.frozen (i + j)
          have hc0 := hB2.cell (i := i + j) (by rw [HT.out]; omega)
          go_wp2
          go_roundw
          case rel => exact MulIn.step hxi hyj hjm (by omega) hq hB2 HT.out htL hbel2 HE.out HQ.out (by omega) (by omega)
          case measure => simp [intOf]; omega
        · obtain rfl : j = m := by omega
          have hf := hB2.frozen (i + j)
          have hc0 := hB2.cell (i := i + j) (by rw [HT.out]; omega)
          go_wp2
          go_roundw
          case rel => exact MulRel.step hin (Nat.le_refl _) (by rw [HY.out]; exact Nat.le_refl _) hq hB2 HT.out htL hbel2 HZ.out HV.out HE.out HQ.out (by omega)
          case measure => simp [intOf]; omega
    · obtain rfl : i = n := by omega
      have HW := Lib.hid (show val rs = val xs * val ys by
        have := HV.out
        rwa [val_take_ge xs i (by rw [HX.out]; exact Nat.le_refl _)] at this)
      go_wp2_with fail
      refine (trimmed_any _ (i + m) (i + m) rs _ (hB.nw hrL HR.out (by omega) (Nat.le_refl _)).1).mono ?_
      rintro e w' ⟨j, rfl, hj, ht, rfl⟩
      have HT := Lib.hid ht
      clear ht
      go_wp2
      go_ret
      exact out_trim hB hrL HR.out (by omega) (Nat.le_refl _) hbel HW.out hj HT.out
end Go.Proofs.Yteicihaigkgbnaa
