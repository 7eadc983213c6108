/-
  What limb.product does: the natural of the product, in new memory. For slices that can be read, of at most 400000 limbs.
  What limb.sign, limb.compare, limb.lessen and limb.difference do. For slices that can be read, of at most 900000 limbs where memory is made; difference for a not less than b.
  What limb.takeTimes and limb.putBack do to a window that lies in a row known whole. For a factor below 2^32, and a divisor that lies in another row.
  Plain mathematics of the long division: what a guess from the highest limbs is worth, and what one step leaves. No program is in sight here.
-/
import Derived.Test.YtehekjlakegkpaaGreatX06
import Derived.Test.YtehekjlakegkpaaGreatX07
import Derived.Test.YtehekjlakegkpaaGreatX01
section
namespace Go.Proofs.YtehekjlakegkpaaGreat
open Go.RowKit

theorem val_set (ts : List Nat) (p x : Nat) (h : p < ts.length) : val (ts.set p x) + pw p * el ts p = val ts + pw p * x := by
  have h1 := val_take_drop (ts.set p x) (p + 1) (by rw [List.length_set]; omega)
  have h2 := val_take_drop ts (p + 1) (by omega)
  have h3 : (ts.set p x).drop (p + 1) = ts.drop (p + 1) := by
    apply ext_el
    · simp
    · intro j _
      rw [el_drop, el_drop, el_set_other _ _ _ _ (by omega)]
  rw [val_take_set ts p x h, h3] at h1
  rw [val_take_step] at h2
  omega
theorem mul_le (x y : Nat) (hx : x < 4294967296) (hy : y < 4294967296) : x * y ≤ 18446744065119617025 := by
  have := Nat.mul_le_mul (show x ≤ 4294967295 by omega) (show y ≤ 4294967295 by omega)
  omega

/-- The outer loop: i limbs of xs are done. -/
def MulRel (w : World) (L n m : Nat) (xs ys : List Nat) (tv : Value) (wr : World) : Prop :=
  ∃ (i : Nat) (rs : List Nat), i ≤ n ∧ tv = .int .i64 i ∧ Blk wr w.heap.size rs ∧ rs.length = L ∧ Lim rs ∧ Below w.heap.size w wr ∧ (∀ j, i + m ≤ j → el rs j = 0) ∧ val rs = val (xs.take i) * val ys
/-- The inner loop: j limbs of ys are done. -/
def MulIn (w : World) (L m i x : Nat) (rs ys : List Nat) (cv tv : Value) (wr : World) : Prop :=
  ∃ (j q : Nat) (ts : List Nat), j ≤ m ∧ tv = .int .i64 j ∧ cv = .int .u64 q ∧ q < 4294967296 ∧ Blk wr w.heap.size ts ∧ ts.length = L ∧ Lim ts ∧ Below w.heap.size w wr ∧ (∀ p, i + j ≤ p → el ts p = el rs p) ∧
    val ts + pw (i + j) * q = val rs + pw i * (x * val (ys.take j))
theorem MulIn.step {w wr : World} {L m i j x q : Nat} {rs ys ts : List Nat} (hx : x < 4294967296) (hy : el ys j < 4294967296) (hj : j < m) (hiL : i + m ≤ L) (hq : q < 4294967296) (hB : Blk wr w.heap.size ts) (hl : ts.length = L) (hL : Lim ts)
    (hbel : Below w.heap.size w wr) (he : ∀ p, i + j ≤ p → el ts p = el rs p) (heq : val ts + pw (i + j) * q = val rs + pw i * (x * val (ys.take j))) {S1 S2 : Int}
    (h1 : S1 = (((q + (x * el ys j + el ts (i + j))) / 4294967296 : Nat) : Int)) (h2 : S2 = (((q + (x * el ys j + el ts (i + j))) % 4294967296 : Nat) : Int)) :
    MulIn w L m i x rs ys (.int .u64 S1) (.int .i64 ((j : Int) + 1)) (wr.setCell ⟨w.heap.size, i + j, none⟩ (.int .u32 S2)) := by
  subst h1 h2
  have hm := mul_le x (el ys j) hx hy
  have ht := el_lt hL (i + j)
  refine ⟨j + 1, (q + (x * el ys j + el ts (i + j))) / 4294967296, ts.set (i + j) ((q + (x * el ys j + el ts (i + j))) % 4294967296), by omega, rfl, rfl, by omega, hB.set_ _ _, by simp [hl], Lim_set hL _ _ (by omega), hbel.setCell (Nat.le_refl _) _, ?_, ?_⟩
  · intro p hp
    rw [el_set_other _ _ _ _ (by omega)]
    exact he p (by omega)
  · have h3 := val_set ts (i + j) ((q + (x * el ys j + el ts (i + j))) % 4294967296) (by omega)
    rw [← Nat.add_assoc i j 1, pw_succ, val_take_step]
    have h4 : pw (i + j) * ((q + (x * el ys j + el ts (i + j))) % 4294967296) + 4294967296 * pw (i + j) * ((q + (x * el ys j + el ts (i + j))) / 4294967296) = pw (i + j) * (q + (x * el ys j + el ts (i + j))) := by
      rw [Nat.mul_comm 4294967296, Nat.mul_assoc, ← Nat.mul_add, Nat.mod_add_div]
    have h5 : pw i * (x * (val (ys.take j) + pw j * el ys j)) = pw i * (x * val (ys.take j)) + pw (i + j) * (x * el ys j) := by
      rw [Nat.mul_add, Nat.mul_add, pw_add, Nat.mul_assoc, Nat.mul_left_comm x (pw j)]
    rw [h5]
    rw [Nat.mul_add, Nat.mul_add] at h4
    omega
/-- The outer loop's step. -/
theorem MulRel.step {w wr : World} {L n m i q : Nat} {xs ys rs ts : List Nat} (hi : i < n) (hiL : n + m ≤ L) (hyl : ys.length ≤ m) (hq : q < 4294967296) (hB : Blk wr w.heap.size ts) (hl : ts.length = L) (hL : Lim ts)
    (hbel : Below w.heap.size w wr) (hz : ∀ j, i + m ≤ j → el rs j = 0) (hv : val rs = val (xs.take i) * val ys) (he : ∀ p, i + m ≤ p → el ts p = el rs p) (heq : val ts + pw (i + m) * q = val rs + pw i * (el xs i * val (ys.take m))) {S2 : Int} (h2 : S2 = (q : Int)) :
    MulRel w L n m xs ys (.int .i64 ((i : Int) + 1)) (wr.setCell ⟨w.heap.size, i + m, none⟩ (.int .u32 S2)) := by
  subst h2
  refine ⟨i + 1, ts.set (i + m) q, by omega, rfl, hB.set_ _ _, by simp [hl], Lim_set hL _ _ hq, hbel.setCell (Nat.le_refl _) _, ?_, ?_⟩
  · intro j hj
    rw [el_set_other _ _ _ _ (by omega), he j (by omega)]
    exact hz j (by omega)
  · have h3 := val_set ts (i + m) q (by omega)
    rw [he (i + m) (Nat.le_refl _), hz (i + m) (Nat.le_refl _), Nat.mul_zero, Nat.add_zero] at h3
    rw [h3, heq, val_take_ge ys m hyl, hv, val_take_step, Nat.add_mul, Nat.mul_assoc]

set_option maxHeartbeats 1600000 in
/-- limb.product. -/
theorem prod_any (A B : Option Addr) (n c m d : Nat) (xs ys : List Nat) (w : World) (ha : Rd w A n c xs) (hb : Rd w B m d ys) (hn : n ≤ 400000) (hm : m ≤ 400000) :
    Calls Tryz.prog 149 #[.slice A n c, .slice B m d] w (Out w (digs (val xs * val ys))) := by
  have hmk := fun W => mk32 ((n : Int) + (m : Int)) (n + m) (by omega) (by omega) W
  have HX := Lib.hid ha.len
  have HY := Lib.hid hb.len
  go_enter Tryz.func149, Tryz.ntmps149
  go_wp2
  go_loopw [19] (fun tv wr => MulRel w (n + m) n m xs ys tv wr) (fun tv _ => n - (intOf tv).toNat)
  case atStart => exact ⟨0, zeros (n + m), Nat.zero_le _, rfl, Blk.new _ _, zeros_len _, Lim_zeros _, (Below.refl _ _).alloc (Nat.le_refl _) _, fun j _ => el_zeros _ _, by rw [val_zeros_]; simp [val]⟩
  case round =>
    obtain ⟨i, rs, hi, rfl, hB, hrl, hrL, hbel, hz, hv⟩ := hrel
    have HR := Lib.hid hrl
    have HZ := Lib.hid hz
    have HV := Lib.hid hv
    clear hmk hrl hz hv
    have hxi := el_lt ha.lim i
    by_cases hin : i < n
    · obtain ⟨b, o, rfl, hbb, hcA⟩ := ha.at_ (by omega)
      have hcx := (hbel.cell (p := ⟨b, o + i, none⟩) hbb).trans (hcA i hin)
      clear hcA
      go_wp2
      go_loopw [8, 26] (fun cv tv wr => MulIn w (n + m) m i (el xs i) rs ys cv tv wr) (fun _ tv _ => m - (intOf tv).toNat)
      case atStart => exact ⟨0, 0, rs, Nat.zero_le _, rfl, rfl, by omega, hB, HR.out, hrL, hbel, fun _ _ => rfl, by simp [val]⟩
      case round =>
        obtain ⟨j, q, ts, hj, rfl, rfl, hq, hB2, htl, htL, hbel2, he, heq⟩ := hrel
        have HT := Lib.hid htl
        have HE := Lib.hid he
        have HQ := Lib.hid heq
        clear htl he heq hcx hB hbel
        have hyj := el_lt hb.lim j
        have htj := el_lt htL (i + j)
        have hxy := mul_le _ _ hxi hyj
        by_cases hjm : j < m
        · obtain ⟨b2, o2, rfl, hbb2, hcB⟩ := hb.at_ (by omega)
          have hcy := (hbel2.cell (p := ⟨b2, o2 + j, none⟩) hbb2).trans (hcB j hjm)
          clear hcB
          have hf := hB2.frozen (i + j)
          have hc0 := hB2.cell (i := i + j) (by rw [HT.out]; omega)
          go_wp2
          go_roundw
          case rel => exact MulIn.step hxi hyj hjm (by omega) hq hB2 HT.out htL hbel2 HE.out HQ.out (by omega) (by omega)
          case measure => simp [intOf]; omega
        · obtain rfl : j = m := by omega
          have hf := hB2.frozen (i + j)
          have hc0 := hB2.cell (i := i + j) (by rw [HT.out]; omega)
          go_wp2
          go_roundw
          case rel => exact MulRel.step hin (Nat.le_refl _) (by rw [HY.out]; exact Nat.le_refl _) hq hB2 HT.out htL hbel2 HZ.out HV.out HE.out HQ.out (by omega)
          case measure => simp [intOf]; omega
    · obtain rfl : i = n := by omega
      have HW := Lib.hid (show val rs = val xs * val ys by
        have := HV.out
        rwa [val_take_ge xs i (by rw [HX.out]; exact Nat.le_refl _)] at this)
      go_wp2_with fail
      refine (trimmed_any _ (i + m) (i + m) rs _ (hB.nw hrL HR.out (by omega) (Nat.le_refl _)).1).mono ?_
      rintro e w' ⟨j, rfl, hj, ht, rfl⟩
      have HT := Lib.hid ht
      clear ht
      go_wp2
      go_ret
      exact out_trim hB hrL HR.out (by omega) (Nat.le_refl _) hbel HW.out hj HT.out
end Go.Proofs.YtehekjlakegkpaaGreat
end
section
namespace Go.Proofs.YtehekjlakegkpaaGreat
open Go.RowKit

theorem sign_t (w : World) : Calls Tryz.prog 148 #[.bool true] w fun e w' => e = .returned (.int .i64 1) ∧ w' = w := by
  go_enter Tryz.func148, Tryz.ntmps148
  go_wp2
  go_ret
  exact ⟨rfl, rfl⟩
theorem sign_f (w : World) : Calls Tryz.prog 148 #[.bool false] w fun e w' => e = .returned (.int .i64 (-1)) ∧ w' = w := by
  go_enter Tryz.func148, Tryz.ntmps148
  go_wp2
  go_ret
  exact ⟨rfl, rfl⟩

set_option maxHeartbeats 800000 in
theorem cmp_eq (A B : Option Addr) (n c d : Nat) (xs ys : List Nat) (w : World) (ha : Rd w A n c xs) (hb : Rd w B n d ys) :
    Calls Tryz.prog 98 #[.slice A n c, .slice B n d] w (Quiet w (.int .i64 (cmpN (val xs) (val ys)))) := by
  have HX := Lib.hid ha.len
  have HY := Lib.hid hb.len
  have hcap := ha.cap
  have hmax := ha.max
  go_enter Tryz.func98, Tryz.ntmps98
  go_wp2
  go_loopw [5] (fun t wr => CmpRel w n xs ys t wr) (fun t _ => (intOf t + 1).toNat)
  case atStart => exact ⟨n, 0, Nat.le_refl _, rfl, by rw [List.drop_of_length_le (by rw [HX.out]; exact Nat.le_refl _), List.drop_of_length_le (by rw [HY.out]; exact Nat.le_refl _)], rfl⟩
  case round =>
    obtain ⟨k, q, hk, rfl, hd, rfl⟩ := hrel
    have HD := Lib.hid hd
    clear hd
    by_cases hk0 : k = 0
    · subst hk0
      have HV := Lib.hid (show (0 : Int) = cmpN (val xs) (val ys) by
        have := HD.out
        simp only [List.drop_zero] at this
        rw [this, cmpN_eq])
      go_wp2
      go_ret
      exact ⟨ret_i HV.out, q, rfl⟩
    · obtain ⟨b, o, rfl, hbb, hcA⟩ := ha.at_ (by omega)
      obtain ⟨b2, o2, rfl, hbb2, hcB⟩ := hb.at_ (by omega)
      have hcx := hcA (k - 1) (by omega)
      have hcy := hcB (k - 1) (by omega)
      clear hcA hcB
      have hp : (0 : Int) ≤ (k : Int) - 1 := by omega
      have hp1 : (1 : Int) ≤ (k : Int) := by omega
      have hlt : (k : Int) - 1 < (n : Int) := by omega
      have hkk : Hid (k - 1 + 1 = k) := by show k - 1 + 1 = k; omega
      have hnat : ((k : Int) - 1).toNat = k - 1 := by omega
      rcases Nat.lt_trichotomy (el xs (k - 1)) (el ys (k - 1)) with h | h | h
      · have h1 : (((el xs (k - 1) : Nat) : Int) != ((el ys (k - 1) : Nat) : Int)) = true := by simp; omega
        have h2 : decide (el ys (k - 1) < el xs (k - 1)) = false := by simp; omega
        have HV := Lib.hid (show (-1 : Int) = cmpN (val xs) (val ys) by
          rw [cmpN_lt (val_lt_at ha.lim (by rw [HX.out, HY.out]) (i := k - 1) (by rw [HX.out]; omega) (by rw [hkk.out]; exact HD.out) h)])
        go_wp2
        go_quiet (fail)
        go_wp2
        obtain ⟨w2, hw2, hcx2, hcy2⟩ : ∃ w2 : World, Hid ((w.drewN q).drewN nq = w2) ∧ w2.cell? ⟨b, o + (k - 1), none⟩ = some (.int .u32 (el xs (k - 1))) ∧ w2.cell? ⟨b2, o2 + (k - 1), none⟩ = some (.int .u32 (el ys (k - 1))) := ⟨_, rfl, hcx, hcy⟩
        rw [hw2.out]
        go_quiet ((go_at_call 148; exact Calls.quiet_of_same (sign_f _)))
        go_wp2
        go_ret
        exact ⟨ret_i HV.out, by rw [← hw2.out]; exact drew3 _ _ _ _⟩
      · have h1 : (((el xs (k - 1) : Nat) : Int) != ((el ys (k - 1) : Nat) : Int)) = false := by simp; omega
        have HS := Lib.hid (drop_eq_step (by rw [HX.out, HY.out]) (i := k - 1) (by rw [HX.out]; omega) (by rw [hkk.out]; exact HD.out) h)
        clear h
        go_wp2
        go_quiet (fail)
        go_wp2
        go_roundw
        case rel => exact ⟨k - 1, _, by omega, by go_num, HS.out, rfl⟩
        case measure => simp [intOf]; omega
      · have h1 : (((el xs (k - 1) : Nat) : Int) != ((el ys (k - 1) : Nat) : Int)) = true := by simp; omega
        have h2 : decide (el ys (k - 1) < el xs (k - 1)) = true := by simp; omega
        have HV := Lib.hid (show (1 : Int) = cmpN (val xs) (val ys) by
          rw [cmpN_gt (val_lt_at hb.lim (by rw [HX.out, HY.out]) (i := k - 1) (by rw [HY.out]; omega) (by rw [hkk.out]; exact HD.out.symm) h)])
        go_wp2
        go_quiet (fail)
        go_wp2
        obtain ⟨w2, hw2, hcx2, hcy2⟩ : ∃ w2 : World, Hid ((w.drewN q).drewN nq = w2) ∧ w2.cell? ⟨b, o + (k - 1), none⟩ = some (.int .u32 (el xs (k - 1))) ∧ w2.cell? ⟨b2, o2 + (k - 1), none⟩ = some (.int .u32 (el ys (k - 1))) := ⟨_, rfl, hcx, hcy⟩
        rw [hw2.out]
        go_quiet ((go_at_call 148; exact Calls.quiet_of_same (sign_t _)))
        go_wp2
        go_ret
        exact ⟨ret_i HV.out, by rw [← hw2.out]; exact drew3 _ _ _ _⟩

set_option maxHeartbeats 400000 in
theorem cmp_ne (A B : Option Addr) (n c m d : Nat) (xs ys : List Nat) (w : World) (ha : Rd w A n c xs) (hb : Rd w B m d ys) (nx : Nrm xs) (ny : Nrm ys) (hne : n ≠ m) :
    Calls Tryz.prog 98 #[.slice A n c, .slice B m d] w (Quiet w (.int .i64 (cmpN (val xs) (val ys)))) := by
  have hn : ((n : Int) != (m : Int)) = true := by simp; omega
  rcases Nat.lt_or_ge n m with h | h
  · have h1 : decide (m < n) = false := by simp; omega
    have HV := Lib.hid (show (-1 : Int) = cmpN (val xs) (val ys) by rw [cmpN_lt (val_lt_of_len ha.lim hb.lim ny (by rw [ha.len, hb.len]; exact h))])
    go_enter Tryz.func98, Tryz.ntmps98
    go_wp2_with fail
    refine (sign_f _).mono ?_
    rintro e w' ⟨rfl, rfl⟩
    go_wp2
    go_ret
    exact ⟨ret_i HV.out, 0, rfl⟩
  · have h1 : decide (m < n) = true := by simp; omega
    have HV := Lib.hid (show (1 : Int) = cmpN (val xs) (val ys) by rw [cmpN_gt (val_lt_of_len hb.lim ha.lim nx (by rw [ha.len, hb.len]; omega))])
    go_enter Tryz.func98, Tryz.ntmps98
    go_wp2_with fail
    refine (sign_t _).mono ?_
    rintro e w' ⟨rfl, rfl⟩
    go_wp2
    go_ret
    exact ⟨ret_i HV.out, 0, rfl⟩
/-- limb.compare. -/
theorem cmp_any (A B : Option Addr) (n c m d : Nat) (xs ys : List Nat) (w : World) (ha : Rd w A n c xs) (hb : Rd w B m d ys) (nx : Nrm xs) (ny : Nrm ys) :
    Calls Tryz.prog 98 #[.slice A n c, .slice B m d] w (Quiet w (.int .i64 (cmpN (val xs) (val ys)))) := by
  by_cases h : n = m
  · subst h; exact cmp_eq A B n c d xs ys w ha hb
  · exact cmp_ne A B n c m d xs ys w ha hb nx ny h

/-- A limb less what is taken, modulo 2^32; and how often 2^32 was borrowed. -/
def lesR (x t : Nat) : Nat := (x + 4294967296 - t % 4294967296) % 4294967296
def lesB (x t : Nat) : Nat := t / 4294967296 + if x < t % 4294967296 then 1 else 0
theorem les_eq (x t : Nat) (hx : x < 4294967296) : x + 4294967296 * lesB x t = lesR x t + t := by
  unfold lesB lesR; split <;> omega
theorem lesR_lt (x t : Nat) : lesR x t < 4294967296 := by unfold lesR; omega
theorem ret_t {j k : IntKind} {a b a' b' : Int} (h1 : a = a') (h2 : b = b') : Ending.returned (.tuple #[.int j a, .int k b]) = .returned (.tuple #[.int j a', .int k b']) := by rw [h1, h2]
theorem les_t {x t : Nat} (h : x < t % 4294967296) (hx : x < 4294967296) : ((x : Int) - (t : Int) % 4294967296) % 4294967296 = (lesR x t : Nat) ∧ (t : Int) / 4294967296 + 1 = (lesB x t : Nat) := by
  unfold lesR lesB; rw [if_pos h]; omega
theorem les_f {x t : Nat} (h : ¬ x < t % 4294967296) (hx : x < 4294967296) : (x : Int) - (t : Int) % 4294967296 = (lesR x t : Nat) ∧ (t : Int) / 4294967296 = (lesB x t : Nat) := by
  unfold lesR lesB; rw [if_neg h]; omega
set_option maxHeartbeats 400000 in
/-- limb.lessen. -/
theorem lessen_any (x t : Nat) (w : World) (hx : x < 4294967296) (ht : t < 18446744073709551616) :
    Calls Tryz.prog 194 #[.int .u32 x, .int .u64 t] w fun e w' => e = .returned (.tuple #[.int .u32 (lesR x t), .int .u64 (lesB x t)]) ∧ w = w' := by
  by_cases h : x < t % 4294967296
  · have h1 : (x : Int) < (t : Int) % 4294967296 := by omega
    go_enter Tryz.func194, Tryz.ntmps194
    go_wp2
    go_ret2
    exact ⟨ret_t (les_t h hx).1 (les_t h hx).2, rfl⟩
  · have h1 : ¬ ((x : Int) < (t : Int) % 4294967296) := by omega
    go_enter Tryz.func194, Tryz.ntmps194
    go_wp2
    go_ret2
    exact ⟨ret_t (les_f h hx).1 (les_f h hx).2, rfl⟩

/-- The state of a subtraction: k limbs are done, q is borrowed. -/
def DifRel (w : World) (n : Nat) (us vs : List Nat) (cv tv : Value) (wr : World) : Prop :=
  ∃ (k q : Nat) (rs : List Nat), k ≤ n ∧ tv = .int .i64 k ∧ cv = .int .u64 q ∧ q ≤ 1 ∧ Blk wr w.heap.size rs ∧ rs.length = n ∧ Lim rs ∧ Below w.heap.size w wr ∧ rs.drop k = us.drop k ∧
    val (rs.take k) + val (vs.take k) = val (us.take k) + pw k * q
theorem drop_set (rs : List Nat) (k x : Nat) : (rs.set k x).drop (k + 1) = rs.drop (k + 1) := by
  apply ext_el
  · simp
  · intro j _
    rw [el_drop, el_drop, el_set_other _ _ _ _ (by omega)]
theorem drop_succ_of {rs us : List Nat} {k : Nat} (h : rs.drop k = us.drop k) : rs.drop (k + 1) = us.drop (k + 1) := by
  have := congrArg (List.drop 1) h
  rwa [List.drop_drop, List.drop_drop] at this
theorem el_of_drop {rs us : List Nat} {k : Nat} (h : rs.drop k = us.drop k) : el rs k = el us k := by
  have := congrArg (fun l => el l 0) h
  simpa [el_drop] using this
/-- One limb of a subtraction. -/
theorem dif_step (rs us vs : List Nat) (k q t : Nat) (hk : k < rs.length) (hx : el us k < 4294967296) (ht : t = q + el vs k)
    (heq : val (rs.take k) + val (vs.take k) = val (us.take k) + pw k * q) :
    val ((rs.set k (lesR (el us k) t)).take (k + 1)) + val (vs.take (k + 1)) = val (us.take (k + 1)) + pw (k + 1) * lesB (el us k) t := by
  rw [val_take_set rs k _ hk, val_take_step us, val_take_step vs]
  have h1 := les_eq (el us k) t hx
  have h2 : pw k * (el us k + 4294967296 * lesB (el us k) t) = pw k * (lesR (el us k) t + t) := by rw [h1]
  rw [ht] at h2 ⊢
  rw [Nat.mul_add, Nat.mul_add, Nat.mul_add] at h2
  rw [pw_succ, Nat.mul_comm 4294967296 (pw k), Nat.mul_assoc]
  omega
theorem DifRel.step {w wr : World} {n k q t : Nat} {us vs rs : List Nat} (hx : el us k < 4294967296) (hy : el vs k < 4294967296) (hk : k < n) (hq : q ≤ 1) (hB : Blk wr w.heap.size rs) (hrl : rs.length = n) (hrL : Lim rs) (hbel : Below w.heap.size w wr)
    (hd : rs.drop k = us.drop k) (heq : val (rs.take k) + val (vs.take k) = val (us.take k) + pw k * q) (ht : t = q + el vs k) :
    DifRel w n us vs (.int .u64 (lesB (el us k) t : Nat)) (.int .i64 ((k : Int) + 1)) (wr.setCell ⟨w.heap.size, k, none⟩ (.int .u32 (lesR (el us k) t : Nat))) := by
  refine ⟨k + 1, lesB (el us k) t, rs.set k (lesR (el us k) t), by omega, rfl, rfl, ?_, hB.set_ _ _, by simp [hrl], Lim_set hrL _ _ (lesR_lt _ _), hbel.setCell (Nat.le_refl _) _, ?_, dif_step rs us vs k q t (by omega) hx ht heq⟩
  · unfold lesB; split <;> omega
  · rw [drop_set]; exact drop_succ_of hd

set_option maxHeartbeats 800000 in
/-- limb.difference. -/
theorem dif_any (A B : Option Addr) (n c m d : Nat) (xs ys : List Nat) (w : World) (ha : Rd w A n c xs) (hb : Rd w B m d ys) (hn : n ≤ 900000) (hmn : m ≤ n) (hle : val ys ≤ val xs) :
    Calls Tryz.prog 158 #[.slice A n c, .slice B m d] w (Out w (digs (val xs - val ys))) := by
  have hmk := fun W => mk32 (n : Int) n rfl (by omega) W
  have HX := Lib.hid ha.len
  have HY := Lib.hid hb.len
  have HLE := Lib.hid hle
  clear hle
  go_enter Tryz.func158, Tryz.ntmps158
  go_wp2_with (with_reducible refine wpList_cp rfl (.tmp 12) (.tmp 13) 36 36 rfl Tryz.underlying36 info50 A w.heap.size n c n xs (zeros n) rfl rfl (Blk.new _ _) (by rw [zeros_len]; exact Nat.le_refl _) (ha.alloc _) w.heap.size w ((Below.refl _ _).alloc (Nat.le_refl _) _) (Nat.le_refl _) ?_; intro w1 hB1 hb1)
  have hB2 : Blk w1 w.heap.size xs := by
    have e : xs ++ (zeros n).drop n = xs := by rw [List.drop_of_length_le (by rw [zeros_len]; exact Nat.le_refl _), List.append_nil]
    rw [e] at hB1; exact hB1
  clear hB1 hmk
  go_loopw [6, 17] (fun cv tv wr => DifRel w n xs ys cv tv wr) (fun _ tv _ => n - (intOf tv).toNat)
  case atStart => exact ⟨0, 0, xs, Nat.zero_le _, rfl, rfl, Nat.zero_le _, hB2, HX.out, ha.lim, hb1, rfl, rfl⟩
  case round =>
    obtain ⟨k, q, rs, hk, rfl, rfl, hq, hB, hrl, hrL, hbel, hd, heq⟩ := hrel
    have HE := Lib.hid heq
    have HR := Lib.hid hrl
    have HD := Lib.hid hd
    clear heq hrl hd hB2 hb1
    have hxk := el_lt ha.lim k
    have hyk := el_lt hb.lim k
    have hf := hB.frozen k
    by_cases hkn : k < n
    · have hc0 : wr.cell? ⟨w.heap.size, k, none⟩ = some (.int .u32 (el xs k)) := by
        rw [← el_of_drop HD.out]; exact hB.cell (by rw [HR.out]; exact hkn)
      by_cases hkm : k < m
      · obtain ⟨b2, o2, rfl, hbb2, hcB⟩ := hb.at_ (by omega)
        have hcy := (hbel.cell (p := ⟨b2, o2 + k, none⟩) hbb2).trans (hcB k hkm)
        clear hcB
        go_wp2_with fail
        rw [show ((q : Int) + (el ys k : Nat)) = ((q + el ys k : Nat) : Int) by omega]
        refine (lessen_any (el xs k) (q + el ys k) _ hxk (by omega)).mono ?_
        rintro e w' ⟨rfl, rfl⟩
        have R := DifRel.step hxk hyk hkn hq hB HR.out hrL hbel HD.out HE.out rfl
        go_wp2
        go_roundw
        case rel => exact R
        case measure => simp [intOf]; omega
      · have HZ := Lib.hid (el_ge ys k (by rw [HY.out]; omega))
        go_wp2_with fail
        refine (lessen_any (el xs k) q _ hxk (by omega)).mono ?_
        rintro e w' ⟨rfl, rfl⟩
        have R := DifRel.step (t := q) hxk hyk hkn hq hB HR.out hrL hbel HD.out HE.out (by rw [HZ.out]; rfl)
        go_wp2
        go_roundw
        case rel => exact R
        case measure => simp [intOf]; omega
    · obtain rfl : k = n := by omega
      have HV := Lib.hid (show val rs = val xs - val ys by
        have h0 := HE.out
        rw [val_take_ge rs k (by rw [HR.out]; exact Nat.le_refl _), val_take_ge xs k (by rw [HX.out]; exact Nat.le_refl _), val_take_ge ys k (by rw [HY.out]; exact hmn)] at h0
        have h1 := val_lt hrL
        rw [HR.out] at h1
        have h2 := HLE.out
        rcases Nat.eq_zero_or_pos q with e | e
        · subst e; omega
        · obtain rfl : q = 1 := by omega
          omega)
      go_wp2_with fail
      refine (trimmed_any _ k k rs _ (hB.nw hrL HR.out (by omega) (Nat.le_refl _)).1).mono ?_
      rintro e w' ⟨j, rfl, hj, ht, rfl⟩
      have HT := Lib.hid ht
      clear ht
      go_wp2
      go_ret
      exact out_trim hB hrL HR.out (by omega) (Nat.le_refl _) hbel HV.out hj HT.out
end Go.Proofs.YtehekjlakegkpaaGreat
end
section
namespace Go.Proofs.YtehekjlakegkpaaGreat
open Go.RowKit

theorem el_mid (pre ws post : List Nat) (j : Nat) (h : j < ws.length) : el (pre ++ (ws ++ post)) (pre.length + j) = el ws j := by
  rw [el_append_right _ _ _ (by omega), show pre.length + j - pre.length = j by omega, el_append_left _ _ _ h]
theorem set_mid (pre ws post : List Nat) (j x : Nat) (h : j < ws.length) : (pre ++ (ws ++ post)).set (pre.length + j) x = pre ++ (ws.set j x ++ post) := by
  rw [List.set_append_right _ _ (by omega), show pre.length + j - pre.length = j by omega, List.set_append_left _ _ h]
theorem only_setCell {a w : World} {g : Nat} (h : a.grownBy w (some g)) (o : Nat) (u : Value) : a.grownBy (w.setCell ⟨g, o, none⟩ u) (some g) :=
  ⟨h.os, h.tape, h.output, by simpa [World.setCell] using h.size, fun i hi hne => (Below.heap_setCell w ⟨g, o, none⟩ u i (by
    rintro rfl
    exact hne rfl)).trans (h.block i hi hne)⟩
theorem Blk.other {w w' : World} {g g2 : Nat} {xs : List Nat} (h : Blk w g2 xs) (hg : w.grownBy w' (some g)) (hne : g2 ≠ g) : Blk w' g2 xs :=
  (hg.block g2 h.lt (fun e => by injection e with e; exact hne e)).trans h
theorem dif_step2 (rs us : List Nat) (k q t y Vk : Nat) (hk : k < rs.length) (hx : el us k < 4294967296) (ht : t = q + y) (heq : val (rs.take k) + Vk = val (us.take k) + pw k * q) :
    val ((rs.set k (lesR (el us k) t)).take (k + 1)) + (Vk + pw k * y) = val (us.take (k + 1)) + pw (k + 1) * lesB (el us k) t := by
  rw [val_take_set rs k _ hk, val_take_step us]
  have h1 := les_eq (el us k) t hx
  have h2 : pw k * (el us k + 4294967296 * lesB (el us k) t) = pw k * (lesR (el us k) t + t) := by rw [h1]
  rw [ht] at h2 ⊢
  rw [Nat.mul_add, Nat.mul_add, Nat.mul_add] at h2
  rw [pw_succ, Nat.mul_comm 4294967296 (pw k), Nat.mul_assoc]
  omega
theorem lesB_lt {x t : Nat} (ht : t ≤ 18446744069414584320) : lesB x t ≤ 4294967295 := by
  unfold lesB
  split <;> omega

def TakeRel (w : World) (g n G : Nat) (pre us post es : List Nat) (cv tv : Value) (wr : World) : Prop :=
  ∃ (k q : Nat) (ws : List Nat), k ≤ n ∧ tv = .int .i64 k ∧ cv = .int .u64 q ∧ q ≤ 4294967295 ∧ Blk wr g (pre ++ (ws ++ post)) ∧ ws.length = n + 1 ∧ Lim ws ∧ ws.drop k = us.drop k ∧ w.grownBy wr (some g) ∧
    val (ws.take k) + G * val (es.take k) = val (us.take k) + pw k * q
theorem TakeRel.step {w wr : World} {g n G k q t : Nat} {pre us post es ws : List Nat} (hG : G < 4294967296) (huL : Lim us) (heL : Lim es) (hk : k < n) (hq : q ≤ 4294967295) (hB : Blk wr g (pre ++ (ws ++ post))) (hl : ws.length = n + 1) (hL : Lim ws)
    (hd : ws.drop k = us.drop k) (hg : w.grownBy wr (some g)) (heq : val (ws.take k) + G * val (es.take k) = val (us.take k) + pw k * q) (ht : t = q + G * el es k) :
    TakeRel w g n G pre us post es (.int .u64 (lesB (el us k) t : Nat)) (.int .i64 ((k : Int) + 1)) (wr.setCell ⟨g, pre.length + k, none⟩ (.int .u32 (lesR (el us k) t : Nat))) := by
  have hm := mul_le G (el es k) hG (el_lt heL k)
  refine ⟨k + 1, lesB (el us k) t, ws.set k (lesR (el us k) t), by omega, rfl, rfl, lesB_lt (by omega), ?_, by simp [hl], Lim_set hL _ _ (lesR_lt _ _), ?_, only_setCell hg _ _, ?_⟩
  · rw [← set_mid _ _ _ _ _ (by omega)]; exact hB.set_ _ _
  · rw [drop_set]; exact drop_succ_of hd
  · rw [val_take_step es, Nat.mul_add, Nat.mul_left_comm G]
    exact dif_step2 ws us k q t (G * el es k) _ (by omega) (el_lt huL k) ht heq
/-- The end of limb.takeTimes. -/
def TakeP (w : World) (g n G : Nat) (pre us post es : List Nat) (e : Ending) (w' : World) : Prop :=
  ∃ (ws : List Nat) (bo : Nat), bo ≤ 1 ∧ e = .returned (.bool (decide (0 < bo))) ∧ Blk w' g (pre ++ (ws ++ post)) ∧ ws.length = n + 1 ∧ Lim ws ∧ w.grownBy w' (some g) ∧ val ws + G * val (es.take n) = val us + pw (n + 1) * bo
theorem TakeRel.last {w wr : World} {g n G q : Nat} {pre us post es ws : List Nat} (huL : Lim us) (hul : us.length = n + 1) (hq : q ≤ 4294967295) (hB : Blk wr g (pre ++ (ws ++ post))) (hl : ws.length = n + 1) (hL : Lim ws)
    (hg : w.grownBy wr (some g)) (heq : val (ws.take n) + G * val (es.take n) = val (us.take n) + pw n * q) :
    TakeP w g n G pre us post es (.returned (.bool (decide (0 < lesB (el us n) q)))) (wr.setCell ⟨g, pre.length + n, none⟩ (.int .u32 (lesR (el us n) q : Nat))) := by
  refine ⟨ws.set n (lesR (el us n) q), lesB (el us n) q, ?_, rfl, ?_, by simp [hl], Lim_set hL _ _ (lesR_lt _ _), only_setCell hg _ _, ?_⟩
  · unfold lesB; split <;> omega
  · rw [← set_mid _ _ _ _ _ (by omega)]; exact hB.set_ _ _
  · have h := dif_step2 ws us n q q 0 _ (by omega) (el_lt huL n) (by omega) heq
    rw [val_take_ge _ _ (by simp [hl]), val_take_ge us _ (by omega)] at h
    omega

set_option maxHeartbeats 1600000 in
/-- limb.takeTimes. -/
theorem take_any (g g2 n cw cd G : Nat) (pre us post es : List Nat) (w : World) (hB : Blk w g (pre ++ (us ++ post))) (hE : Blk w g2 es) (hne : g2 ≠ g) (hul : us.length = n + 1) (huL : Lim us) (heL : Lim es) (hen : n ≤ es.length) (hG : G < 4294967296) (hn : n ≤ 900000) :
    Calls Tryz.prog 221 #[.slice (some ⟨g, pre.length, none⟩) (n + 1) cw, .slice (some ⟨g2, 0, none⟩) n cd, .int .u64 G] w (TakeP w g n G pre us post es) := by
  obtain ⟨i, hi⟩ : ∃ i, pre.length = i := ⟨_, rfl⟩
  have HI := Lib.hid hi
  have HU := Lib.hid hul
  rw [hi]
  clear hi hul
  go_enter Tryz.func221, Tryz.ntmps221
  go_wp2
  go_loopw [8, 15] (fun cv tv wr => TakeRel w g n G pre us post es cv tv wr) (fun _ tv _ => n - (intOf tv).toNat)
  case atStart => exact ⟨0, 0, us, Nat.zero_le _, rfl, rfl, by omega, hB, HU.out, huL, rfl, World.grownBy.refl _ _, by simp [val]⟩
  case round =>
    obtain ⟨k, q, ws, hk, rfl, rfl, hq, hB1, hwl, hwL, hd, hg, heq⟩ := hrel
    have HW := Lib.hid hwl
    have HD := Lib.hid hd
    have HE := Lib.hid heq
    clear hwl hd heq
    have hxk := el_lt huL k
    have hf := hB1.frozen (i + k)
    have hc0 : wr.cell? ⟨g, i + k, none⟩ = some (.int .u32 (el us k)) := by
      have hkl : k < ws.length := by rw [HW.out]; omega
      rw [← el_of_drop HD.out, ← HI.out, ← el_mid pre ws post k hkl]
      exact hB1.cell (by simp [HI.out]; omega)
    have hE1 := hE.other hg hne
    by_cases hkn : k < n
    · have hce := hE1.cell (i := k) (by omega)
      have hek := el_lt heL k
      have hm := mul_le G (el es k) hG hek
      go_wp2_with fail
      rw [show ((q : Int) + (G : Int) * (el es k : Nat)) = ((q + G * el es k : Nat) : Int) by rw [Int.natCast_add, Int.natCast_mul]]
      refine (lessen_any (el us k) (q + G * el es k) _ hxk (by omega)).mono ?_
      rintro e w' ⟨rfl, rfl⟩
      have R := TakeRel.step (t := q + G * el es k) hG huL heL hkn hq hB1 HW.out hwL HD.out hg HE.out rfl
      rw [HI.out] at R
      go_wp2
      go_roundw
      case rel => exact R
      case measure => simp [intOf]; omega
    · obtain rfl : k = n := by omega
      go_wp2_with fail
      refine (lessen_any (el us k) q _ hxk (by omega)).mono ?_
      rintro e w' ⟨rfl, rfl⟩
      have R := TakeRel.last huL HU.out hq hB1 HW.out hwL hg HE.out
      rw [HI.out] at R
      have HR := Lib.hid R
      clear R
      have hlb : lesB (el us k) q ≤ 1 := by unfold lesB; split <;> omega
      go_wp2
      go_ret
      exact HR.out

def PutRel (w : World) (g n : Nat) (pre us post es : List Nat) (cv tv : Value) (wr : World) : Prop :=
  ∃ (k q : Nat) (ws : List Nat), k ≤ n ∧ tv = .int .i64 k ∧ cv = .int .u64 q ∧ q ≤ 1 ∧ Blk wr g (pre ++ (ws ++ post)) ∧ ws.length = n + 1 ∧ Lim ws ∧ ws.drop k = us.drop k ∧ w.grownBy wr (some g) ∧
    val (ws.take k) + pw k * q = val (us.take k) + val (es.take k)
theorem PutRel.step {w wr : World} {g n k q : Nat} {pre us post es ws : List Nat} (huL : Lim us) (heL : Lim es) (hk : k < n) (hq : q ≤ 1) (hB : Blk wr g (pre ++ (ws ++ post))) (hl : ws.length = n + 1) (hL : Lim ws)
    (hd : ws.drop k = us.drop k) (hg : w.grownBy wr (some g)) (heq : val (ws.take k) + pw k * q = val (us.take k) + val (es.take k)) {S1 S2 : Int}
    (h1 : S1 = (((q + (el us k + el es k)) / 4294967296 : Nat) : Int)) (h2 : S2 = (((q + (el us k + el es k)) % 4294967296 : Nat) : Int)) :
    PutRel w g n pre us post es (.int .u64 S1) (.int .i64 ((k : Int) + 1)) (wr.setCell ⟨g, pre.length + k, none⟩ (.int .u32 S2)) := by
  subst h1 h2
  have hx := el_lt huL k
  have hy := el_lt heL k
  refine ⟨k + 1, (q + (el us k + el es k)) / 4294967296, ws.set k ((q + (el us k + el es k)) % 4294967296), by omega, rfl, rfl, by omega, ?_, by simp [hl], Lim_set hL _ _ (by omega), ?_, only_setCell hg _ _, ?_⟩
  · rw [← set_mid _ _ _ _ _ (by omega)]; exact hB.set_ _ _
  · rw [drop_set]; exact drop_succ_of hd
  · rw [carry_step ws k _ (by omega), val_take_step us, val_take_step es, Nat.mul_add, Nat.mul_add]
    omega
/-- The end of limb.putBack. -/
def PutP (w : World) (g n : Nat) (pre us post es : List Nat) (e : Ending) (w' : World) : Prop :=
  ∃ (ws : List Nat) (k : Nat), e = .returned (.tuple #[]) ∧ Blk w' g (pre ++ (ws ++ post)) ∧ ws.length = n + 1 ∧ Lim ws ∧ w.grownBy w' (some g) ∧ val ws + pw (n + 1) * k = val us + val (es.take n)
theorem PutRel.last {w wr : World} {g n q : Nat} {pre us post es ws : List Nat} (hul : us.length = n + 1) (hB : Blk wr g (pre ++ (ws ++ post))) (hl : ws.length = n + 1) (hL : Lim ws)
    (hg : w.grownBy wr (some g)) (heq : val (ws.take n) + pw n * q = val (us.take n) + val (es.take n)) {S2 : Int} (h2 : S2 = (((el us n + q) % 4294967296 : Nat) : Int)) :
    PutP w g n pre us post es (.returned (.tuple #[])) (wr.setCell ⟨g, pre.length + n, none⟩ (.int .u32 S2)) := by
  subst h2
  refine ⟨ws.set n ((el us n + q) % 4294967296), (el us n + q) / 4294967296, rfl, ?_, by simp [hl], Lim_set hL _ _ (by omega), only_setCell hg _ _, ?_⟩
  · rw [← set_mid _ _ _ _ _ (by omega)]; exact hB.set_ _ _
  · have h := carry_step ws n (el us n + q) (by omega)
    rw [val_take_ge _ _ (by simp [hl]), Nat.mul_add] at h
    have h3 := val_take_step us n
    rw [val_take_ge us _ (by omega)] at h3
    omega

set_option maxHeartbeats 1600000 in
/-- limb.putBack. -/
theorem put_any (g g2 n cw cd : Nat) (pre us post es : List Nat) (w : World) (hB : Blk w g (pre ++ (us ++ post))) (hE : Blk w g2 es) (hne : g2 ≠ g) (hul : us.length = n + 1) (huL : Lim us) (heL : Lim es) (hen : n ≤ es.length) (hn : n ≤ 900000) :
    Calls Tryz.prog 222 #[.slice (some ⟨g, pre.length, none⟩) (n + 1) cw, .slice (some ⟨g2, 0, none⟩) n cd] w (PutP w g n pre us post es) := by
  obtain ⟨i, hi⟩ : ∃ i, pre.length = i := ⟨_, rfl⟩
  have HI := Lib.hid hi
  have HU := Lib.hid hul
  rw [hi]
  clear hi hul
  go_enter Tryz.func222, Tryz.ntmps222
  go_wp2
  go_loopw [4, 9] (fun cv tv wr => PutRel w g n pre us post es cv tv wr) (fun _ tv _ => n - (intOf tv).toNat)
  case atStart => exact ⟨0, 0, us, Nat.zero_le _, rfl, rfl, by omega, hB, HU.out, huL, rfl, World.grownBy.refl _ _, by simp [val]⟩
  case round =>
    obtain ⟨k, q, ws, hk, rfl, rfl, hq, hB1, hwl, hwL, hd, hg, heq⟩ := hrel
    have HW := Lib.hid hwl
    have HD := Lib.hid hd
    have HE := Lib.hid heq
    clear hwl hd heq
    have hxk := el_lt huL k
    have hf := hB1.frozen (i + k)
    have hc0 : wr.cell? ⟨g, i + k, none⟩ = some (.int .u32 (el us k)) := by
      have hkl : k < ws.length := by rw [HW.out]; omega
      rw [← el_of_drop HD.out, ← HI.out, ← el_mid pre ws post k hkl]
      exact hB1.cell (by simp [HI.out]; omega)
    have hE1 := hE.other hg hne
    by_cases hkn : k < n
    · have hce := hE1.cell (i := k) (by omega)
      have hek := el_lt heL k
      have R := fun S1 S2 h1 h2 => PutRel.step (S1 := S1) (S2 := S2) huL heL hkn hq hB1 HW.out hwL HD.out hg HE.out h1 h2
      rw [HI.out] at R
      have HR := Lib.hid R
      clear R
      go_wp2
      go_roundw
      case rel => exact HR.out _ _ (by omega) (by omega)
      case measure => simp [intOf]; omega
    · obtain rfl : k = n := by omega
      have R := fun S2 h2 => PutRel.last (S2 := S2) HU.out hB1 HW.out hwL hg HE.out h2
      rw [HI.out] at R
      have HR := Lib.hid R
      clear R
      go_wp2
      go_end0
      exact HR.out _ (by omega)
end Go.Proofs.YtehekjlakegkpaaGreat
end
section
namespace Go.Proofs.YtehekjlakegkpaaGreat

theorem knuth_lo {p U V T D ul vl Q : Nat} (hU : U = ul + p * T) (hul : ul < p) (hV : V = vl + p * D) (hQ : Q * V ≤ U) : Q * D ≤ T := by
  have h1 : p * (Q * D) ≤ Q * V := by rw [hV, Nat.mul_add, Nat.mul_left_comm]; omega
  have h2 : p * (Q * D) < p * (T + 1) := by rw [Nat.mul_add]; omega
  have := Nat.lt_of_mul_lt_mul_left h2
  omega
theorem knuth_hi {p U V T D ul vl G : Nat} (hU : U = ul + p * T) (hV : V = vl + p * D) (hvl : vl < p) (hG : G ≤ D) (hGD : G * D ≤ T) : G * V ≤ U + V := by
  have h1 : G * V = G * vl + p * (G * D) := by rw [hV, Nat.mul_add, Nat.mul_left_comm p]
  have h2 : p * (G * D) ≤ p * T := Nat.mul_le_mul_left _ hGD
  have h3 : G * vl ≤ D * p := Nat.mul_le_mul hG (by omega)
  rw [Nat.mul_comm D p] at h3
  omega
theorem knuth_top {p U V u2 v1 r vl v2 : Nat} (hU : U = r + p * (4294967296 * 4294967296) * u2) (hV : V = vl + p * (v1 * 4294967296 + v2)) (hvl : vl < p) (hv2 : v2 < 4294967296) (h : U < V * 4294967296) : u2 ≤ v1 := by
  rcases Nat.lt_or_ge v1 u2 with hh | hh
  · exfalso
    have h1 : p * (4294967296 * 4294967296) * (v1 + 1) ≤ p * (4294967296 * 4294967296) * u2 := Nat.mul_le_mul_left _ hh
    have h2 : V + 1 ≤ p * ((v1 + 1) * 4294967296) := by
      have : p * (v1 * 4294967296 + v2 + 1) ≤ p * ((v1 + 1) * 4294967296) := Nat.mul_le_mul_left _ (by omega)
      rw [Nat.mul_add p _ 1] at this
      omega
    have h3 : p * ((v1 + 1) * 4294967296) * 4294967296 = p * (4294967296 * 4294967296) * (v1 + 1) := by
      rw [Nat.mul_assoc, Nat.mul_assoc, Nat.mul_assoc p, Nat.mul_comm (v1 + 1)]
    have h4 : (V + 1) * 4294967296 ≤ p * ((v1 + 1) * 4294967296) * 4294967296 := Nat.mul_le_mul_right _ h2
    omega
  · exact hh
/-- The guess is the quotient, or one more. -/
theorem knuth_guess {U V G : Nat} (hV : 0 < V) (hlo : U / V ≤ G) (hhi : G * V ≤ U + V) : G = U / V ∨ G = U / V + 1 := by
  have h1 : (G - 1) * V ≤ U := by
    rcases Nat.eq_zero_or_pos G with e | e
    · subst e; simp
    · have : G * V = (G - 1) * V + V := by rw [← Nat.succ_mul]; congr 1; omega
      omega
  have := (Nat.le_div_iff_mul_le hV).2 h1
  omega
theorem val_three (us : List Nat) (n : Nat) (hn : 2 ≤ n) (h : us.length = n + 1) :
    val us = val (us.take (n - 2)) + pw (n - 2) * ((el us n * 4294967296 + el us (n - 1)) * 4294967296 + el us (n - 2)) := by
  have h1 := val_take_step us n
  have h2 := val_take_step us (n - 1)
  have h3 := val_take_step us (n - 2)
  rw [show n - 1 + 1 = n by omega] at h2
  rw [show n - 2 + 1 = n - 1 by omega] at h3
  rw [val_take_ge us _ (by omega)] at h1
  have p1 : pw (n - 1) = pw (n - 2) * 4294967296 := by rw [show n - 1 = n - 2 + 1 by omega, pw_succ, Nat.mul_comm]
  have p2 : pw n = pw (n - 2) * 4294967296 * 4294967296 := by rw [← p1, show n = n - 1 + 1 by omega, pw_succ, Nat.mul_comm]; rfl
  have e : (el us n * 4294967296 + el us (n - 1)) * 4294967296 + el us (n - 2) = 4294967296 * 4294967296 * el us n + (4294967296 * el us (n - 1) + el us (n - 2)) := by omega
  rw [h1, h2, h3, p1, p2, e, Nat.mul_add, Nat.mul_add, Nat.mul_assoc (pw (n - 2)), Nat.mul_assoc (pw (n - 2)), Nat.mul_assoc (pw (n - 2))]
  omega
theorem val_two (es : List Nat) (n : Nat) (hn : 2 ≤ n) : val (es.take n) = val (es.take (n - 2)) + pw (n - 2) * (el es (n - 1) * 4294967296 + el es (n - 2)) := by
  have h2 := val_take_step es (n - 1)
  have h3 := val_take_step es (n - 2)
  rw [show n - 1 + 1 = n by omega] at h2
  rw [show n - 2 + 1 = n - 1 by omega] at h3
  have p1 : pw (n - 1) = pw (n - 2) * 4294967296 := by rw [show n - 1 = n - 2 + 1 by omega, pw_succ, Nat.mul_comm]
  rw [h2, h3, p1, Nat.mul_add, Nat.mul_assoc, Nat.mul_comm 4294967296 (el es (n - 1))]
  omega
theorem val_take_lt {xs : List Nat} (h : Lim xs) (k : Nat) : val (xs.take k) < pw k := by
  have := val_lt (Lim_take h k)
  exact Nat.lt_of_lt_of_le this (pw_le (List.length_take_le _ _))
/-- All that one step of the long division wants of its guess. -/
theorem knuth_all (us es : List Nat) (n V : Nat) (hn : 2 ≤ n) (hul : us.length = n + 1) (huL : Lim us) (heL : Lim es) (hV : val (es.take n) = V) (hv1 : 0 < el es (n - 1)) (hlt : val us < V * 4294967296) :
    el us n ≤ el es (n - 1) ∧ val us / V < 4294967296 ∧
    val us / V * (el es (n - 1) * 4294967296 + el es (n - 2)) ≤ (el us n * 4294967296 + el us (n - 1)) * 4294967296 + el us (n - 2) ∧
    ∀ G, val us / V ≤ G → G < 4294967296 → G * (el es (n - 1) * 4294967296 + el es (n - 2)) ≤ (el us n * 4294967296 + el us (n - 1)) * 4294967296 + el us (n - 2) → G = val us / V ∨ G = val us / V + 1 := by
  have h1 := val_three us n hn hul
  have h2 := val_two es n hn
  have l1 := val_take_lt huL (n - 2)
  have l2 := val_take_lt heL (n - 2)
  have v2 := el_lt heL (n - 2)
  rw [hV] at h2
  have hVp : 0 < V := by
    have : 0 < pw (n - 2) * (el es (n - 1) * 4294967296 + el es (n - 2)) := Nat.mul_pos (pw_pos _) (by omega)
    omega
  refine ⟨?_, ?_, ?_, ?_⟩
  · have e : (el us n * 4294967296 + el us (n - 1)) * 4294967296 + el us (n - 2) = 4294967296 * 4294967296 * el us n + (el us (n - 1) * 4294967296 + el us (n - 2)) := by omega
    refine knuth_top (p := pw (n - 2)) (r := val (us.take (n - 2)) + pw (n - 2) * (el us (n - 1) * 4294967296 + el us (n - 2))) ?_ h2 l2 v2 hlt
    rw [h1, e, Nat.mul_add, Nat.mul_assoc (pw (n - 2))]
    omega
  · rw [Nat.div_lt_iff_lt_mul hVp, Nat.mul_comm]; exact hlt
  · exact knuth_lo h1 l1 h2 (Nat.div_mul_le_self _ _)
  · intro G g1 g2 g3
    exact knuth_guess hVp g1 (knuth_hi h1 h2 l2 (by omega) g3)
/-- What a step leaves where the guess was right. -/
theorem step_right {U V W P bo : Nat} (hVp : 0 < V) (hW : W < P) (hbo : bo ≤ 1) (h : W + U / V * V = U + P * bo) : bo = 0 ∧ W = U % V := by
  have h1 := Nat.div_add_mod U V
  rw [Nat.mul_comm] at h1
  have h2 := Nat.mod_lt U hVp
  rcases Nat.eq_zero_or_pos bo with e | e
  · subst e; omega
  · obtain rfl : bo = 1 := by omega
    omega
/-- What it leaves where the guess was one too great, and what was taken is put back. -/
theorem step_over {U V W P bo : Nat} (hlt : V < P) (hVp : 0 < V) (hbo : bo ≤ 1) (h : W + (U / V + 1) * V = U + P * bo) : bo = 1 ∧ ∀ W' k, W' < P → W' + P * k = W + V → W' = U % V := by
  have h1 := Nat.div_add_mod U V
  rw [Nat.mul_comm] at h1
  have h2 := Nat.mod_lt U hVp
  rw [Nat.add_mul, Nat.one_mul] at h
  rcases Nat.eq_zero_or_pos bo with e | e
  · subst e; omega
  · obtain rfl : bo = 1 := by omega
    refine ⟨rfl, fun W' k hW' hk => ?_⟩
    rcases Nat.lt_or_ge k 1 with hk1 | hk1
    · obtain rfl : k = 0 := by omega
      omega
    · rcases Nat.lt_or_ge k 2 with hk2 | hk2
      · obtain rfl : k = 1 := by omega
        omega
      · have : P * 2 ≤ P * k := Nat.mul_le_mul_left _ hk2
        omega
/-- A divisor that is shifted until its highest bit is set. -/
theorem norm_V {ys : List Nat} {n s : Nat} (hl : Lim ys) (hlen : ys.length = n) (hn : 1 ≤ n) (hs : s ≤ 31) (h1 : 2147483648 ≤ el ys (n - 1) * 2 ^ s) (h2 : el ys (n - 1) * 2 ^ s < 4294967296) :
    2147483648 * pw (n - 1) ≤ val ys * 2 ^ s ∧ val ys * 2 ^ s < pw n := by
  have h3 := val_take_step ys (n - 1)
  rw [show n - 1 + 1 = n by omega, val_take_ge ys n (by omega)] at h3
  have h4 := val_take_lt hl (n - 1)
  have hp : 2 ^ s * 2 ^ (32 - s) = 4294967296 := by rw [← Nat.pow_add, show s + (32 - s) = 32 by omega]
  have h5 : el ys (n - 1) + 1 ≤ 2 ^ (32 - s) := by
    rw [← hp, Nat.mul_comm] at h2
    exact Nat.lt_of_mul_lt_mul_left h2
  constructor
  · have h6 := Nat.mul_le_mul_left (pw (n - 1)) h1
    have h7 : pw (n - 1) * (el ys (n - 1) * 2 ^ s) ≤ val ys * 2 ^ s := by
      rw [← Nat.mul_assoc]; exact Nat.mul_le_mul_right _ (by omega)
    rw [Nat.mul_comm]; omega
  · have h6 : val ys < pw (n - 1) * (el ys (n - 1) + 1) := by rw [Nat.mul_add]; omega
    have h7 : pw (n - 1) * (el ys (n - 1) + 1) * 2 ^ s ≤ pw n := by
      have h8 : pw n = pw (n - 1) * (2 ^ (32 - s) * 2 ^ s) := by rw [Nat.mul_comm (2 ^ (32 - s)), hp, Nat.mul_comm, ← pw_succ, show n - 1 + 1 = n by omega]
      rw [h8, Nat.mul_assoc]
      exact Nat.mul_le_mul_left _ (Nat.mul_le_mul_right _ h5)
    exact Nat.lt_of_lt_of_le (Nat.mul_lt_mul_of_pos_right h6 (Nat.two_pow_pos s)) h7
theorem norm_N {N V na n s x : Nat} (hN : N = x * 2 ^ s) (hx : x < pw na) (hs : s ≤ 31) (hn : 1 ≤ n) (hnn : n ≤ na) (hV : 2147483648 * pw (n - 1) ≤ V) : N < V * pw (na - n + 1) := by
  have hp : 2 ^ s ≤ 2147483648 := Nat.le_trans (Nat.pow_le_pow_right (by omega) hs) (by decide)
  have h1 : N < pw na * 2147483648 := by
    rw [hN]
    exact Nat.lt_of_lt_of_le (Nat.mul_lt_mul_of_pos_right hx (Nat.two_pow_pos s)) (Nat.mul_le_mul_left _ hp)
  have h2 := Nat.mul_le_mul_right (pw (na - n + 1)) hV
  rw [Nat.mul_assoc, ← pw_add, show n - 1 + (na - n + 1) = na by omega, Nat.mul_comm] at h2
  omega
theorem el_zero_of_lt {es : List Nat} {n : Nat} (h : val es < pw n) : val (es.take n) = val es ∧ val (es.drop n) = 0 := by
  rcases Nat.lt_or_ge es.length n with hl | hl
  · rw [val_take_ge es n (by omega), List.drop_of_length_le (by omega)]; exact ⟨rfl, rfl⟩
  · have h1 := val_take_drop es n hl
    have h2 : val (es.drop n) = 0 := by
      rcases Nat.eq_zero_or_pos (val (es.drop n)) with e | e
      · exact e
      · have : pw n * 1 ≤ pw n * val (es.drop n) := Nat.mul_le_mul_left _ e
        omega
    rw [h2] at h1
    omega
theorem top_pos {es : List Nat} {n V : Nat} (hL : Lim es) (hn : 1 ≤ n) (hV : val (es.take n) = V) (h : 2147483648 * pw (n - 1) ≤ V) : 0 < el es (n - 1) := by
  have h3 := val_take_step es (n - 1)
  rw [show n - 1 + 1 = n by omega] at h3
  have h4 := val_take_lt hL (n - 1)
  have h5 := pw_pos (n - 1)
  rcases Nat.eq_zero_or_pos (el es (n - 1)) with e | e
  · rw [e] at h3; omega
  · exact e
end Go.Proofs.YtehekjlakegkpaaGreat
end
