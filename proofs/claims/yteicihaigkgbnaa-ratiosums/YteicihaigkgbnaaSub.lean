/-
  What limb.sign, limb.compare, limb.lessen and limb.difference do. For slices that can be read, of at most 900000 limbs where memory is made; difference for a not less than b.
-/
import Derived.Test.YteicihaigkgbnaaCmp
namespace Go.Proofs.Yteicihaigkgbnaa
open Go.RowKit

theorem sign_t (w : World) : Calls Try.prog 79 #[.bool true] w fun e w' => e = .returned (.int .i64 1) ∧ w' = w := by
  go_enter Try.func79, Try.ntmps79
  go_wp2
  go_ret
  exact ⟨rfl, rfl⟩
theorem sign_f (w : World) : Calls Try.prog 79 #[.bool false] w fun e w' => e = .returned (.int .i64 (-1)) ∧ w' = w := by
  go_enter Try.func79, Try.ntmps79
  go_wp2
  go_ret
  exact ⟨rfl, rfl⟩

set_option maxHeartbeats 800000 in
theorem cmp_eq (A B : Option Addr) (n c d : Nat) (xs ys : List Nat) (w : World) (ha : Rd w A n c xs) (hb : Rd w B n d ys) :
    Calls Try.prog 67 #[.slice A n c, .slice B n d] w (Quiet w (.int .i64 (cmpN (val xs) (val ys)))) := by
  have HX := Lib.hid ha.len
  have HY := Lib.hid hb.len
  have hcap := ha.cap
  have hmax := ha.max
  go_enter Try.func67, Try.ntmps67
  go_wp2
  go_loopw [5] (fun t wr => CmpRel w n xs ys t wr) (fun t _ => (intOf t + 1).toNat)
  case atStart => exact ⟨n, 0, Nat.le_refl _, rfl, by rw [List.drop_of_length_le (by rw [HX.out]; exact Nat.le_refl _), List.drop_of_length_le (by rw [HY.out]; exact Nat.le_refl _)], rfl⟩
  case round =>
    obtain ⟨k, q, hk, rfl, hd, rfl⟩ := hrel
    have HD := Lib.hid hd
    clear hd
    by_cases hk0 : k = 0
    · subst hk0
      have HV := Lib.hid (show (0 : Int) = cmpN (val xs) (val ys) by
        have := HD.out
        simp only [List.drop_zero] at this
        rw [this, cmpN_eq])
      go_wp2
      go_ret
      exact ⟨ret_i HV.out, q, rfl⟩
    · obtain ⟨b, o, rfl, hbb, hcA⟩ := ha.at_ (by omega)
      obtain ⟨b2, o2, rfl, hbb2, hcB⟩ := hb.at_ (by omega)
      have hcx := hcA (k - 1) (by omega)
      have hcy := hcB (k - 1) (by omega)
      clear hcA hcB
      have hp : (0 : Int) ≤ (k : Int) - 1 := by omega
      have hp1 : (1 : Int) ≤ (k : Int) := by omega
      have hlt : (k : Int) - 1 < (n : Int) := by omega
      have hkk : Hid (k - 1 + 1 = k) := by show k - 1 + 1 = k; omega
      have hnat : ((k : Int) - 1).toNat = k - 1 := by omega
      rcases Nat.lt_trichotomy (el xs (k - 1)) (el ys (k - 1)) with h | h | h
      · have h1 : (((el xs (k - 1) : Nat) : Int) != ((el ys (k - 1) : Nat) : Int)) = true := by simp; omega
        have h2 : decide (el ys (k - 1) < el xs (k - 1)) = false := by simp; omega
        have HV := Lib.hid (show (-1 : Int) = cmpN (val xs) (val ys) by
          rw [cmpN_lt (val_lt_at ha.lim (by rw [HX.out, HY.out]) (i := k - 1) (by rw [HX.out]; omega) (by rw [hkk.out]; exact HD.out) h)])
        go_wp2
        go_quiet (fail)
        go_wp2
        obtain ⟨w2, hw2, hcx2, hcy2⟩ : ∃ w2 : World, Hid ((w.drewN q).drewN nq = w2) ∧ w2.cell? ⟨b, o + (k - 1), none⟩ = some (.int .u32 (el xs (k - 1))) ∧ w2.cell? ⟨b2, o2 + (k - 1), none⟩ = some (.int .u32 (el ys (k - 1))) := ⟨_, rfl, hcx, hcy⟩
        rw [hw2.out]
        go_quiet ((go_at_call 79; exact Calls.quiet_of_same (sign_f _)))
        go_wp2
        go_ret
        exact ⟨ret_i HV.out, by rw [← hw2.out]; exact drew3 _ _ _ _⟩
      · have h1 : (((el xs (k - 1) : Nat) : Int) != ((el ys (k - 1) : Nat) : Int)) = false := by simp; omega
        have HS := Lib.hid (drop_eq_step (by rw [HX.out, HY.out]) (i := k - 1) (by rw [HX.out]; omega) (by rw [hkk.out]; exact HD.out) h)
        clear h
        go_wp2
        go_quiet (fail)
        go_wp2
        go_roundw
        case rel => exact ⟨k - 1, _, by omega, by go_num, HS.out, rfl⟩
        case measure => simp [intOf]; omega
      · have h1 : (((el xs (k - 1) : Nat) : Int) != ((el ys (k - 1) : Nat) : Int)) = true := by simp; omega
        have h2 : decide (el ys (k - 1) < el xs (k - 1)) = true := by simp; omega
        have HV := Lib.hid (show (1 : Int) = cmpN (val xs) (val ys) by
          rw [cmpN_gt (val_lt_at hb.lim (by rw [HX.out, HY.out]) (i := k - 1) (by rw [HY.out]; omega) (by rw [hkk.out]; exact HD.out.symm) h)])
        go_wp2
        go_quiet (fail)
        go_wp2
        obtain ⟨w2, hw2, hcx2, hcy2⟩ : ∃ w2 : World, Hid ((w.drewN q).drewN nq = w2) ∧ w2.cell? ⟨b, o + (k - 1), none⟩ = some (.int .u32 (el xs (k - 1))) ∧ w2.cell? ⟨b2, o2 + (k - 1), none⟩ = some (.int .u32 (el ys (k - 1))) := ⟨_, rfl, hcx, hcy⟩
        rw [hw2.out]
        go_quiet ((go_at_call 79; exact Calls.quiet_of_same (sign_t _)))
        go_wp2
        go_ret
        exact ⟨ret_i HV.out, by rw [← hw2.out]; exact drew3 _ _ _ _⟩

set_option maxHeartbeats 400000 in
theorem cmp_ne (A B : Option Addr) (n c m d : Nat) (xs ys : List Nat) (w : World) (ha : Rd w A n c xs) (hb : Rd w B m d ys) (nx : Nrm xs) (ny : Nrm ys) (hne : n ≠ m) :
    Calls Try.prog 67 #[.slice A n c, .slice B m d] w (Quiet w (.int .i64 (cmpN (val xs) (val ys)))) := by
  have hn : ((n : Int) != (m : Int)) = true := by simp; omega
  rcases Nat.lt_or_ge n m with h | h
  · have h1 : decide (m < n) = false := by simp; omega
    have HV := Lib.hid (show (-1 : Int) = cmpN (val xs) (val ys) by rw [cmpN_lt (val_lt_of_len ha.lim hb.lim ny (by rw [ha.len, hb.len]; exact h))])
    go_enter Try.func67, Try.ntmps67
    go_wp2_with fail
    refine (sign_f _).mono ?_
    rintro e w' ⟨rfl, rfl⟩
    go_wp2
    go_ret
    exact ⟨ret_i HV.out, 0, rfl⟩
  · have h1 : decide (m < n) = true := by simp; omega
    have HV := Lib.hid (show (1 : Int) = cmpN (val xs) (val ys) by rw [cmpN_gt (val_lt_of_len hb.lim ha.lim nx (by rw [ha.len, hb.len]; omega))])
    go_enter Try.func67, Try.ntmps67
    go_wp2_with fail
    refine (sign_t _).mono ?_
    rintro e w' ⟨rfl, rfl⟩
    go_wp2
    go_ret
    exact ⟨ret_i HV.out, 0, rfl⟩
/-- limb.compare. -/
theorem cmp_any (A B : Option Addr) (n c m d : Nat) (xs ys : List Nat) (w : World) (ha : Rd w A n c xs) (hb : Rd w B m d ys) (nx : Nrm xs) (ny : Nrm ys) :
    Calls Try.prog 67 #[.slice A n c, .slice B m d] w (Quiet w (.int .i64 (cmpN (val xs) (val ys)))) := by
  by_cases h : n = m
  · subst h; exact cmp_eq A B n c d xs ys w ha hb
  · exact cmp_ne A B n c m d xs ys w ha hb nx ny h

/-- A limb less what is taken, modulo 2^32; and how often 2^32 was borrowed. -/
def lesR (x t : Nat) : Nat := (x + 4294967296 - t % 4294967296) % 4294967296
def lesB (x t : Nat) : Nat := t / 4294967296 + if x < t % 4294967296 then 1 else 0
theorem les_eq (x t : Nat) (hx : x < 4294967296) : x + 4294967296 * lesB x t = lesR x t + t := by
  unfold lesB lesR; split <;> omega
theorem lesR_lt (x t : Nat) : lesR x t < 4294967296 := by unfold lesR; omega
theorem ret_t {j k : IntKind} {a b a' b' : Int} (h1 : a = a') (h2 : b = b') : Ending.returned (.tuple #[.int j a, .int k b]) = .returned (.tuple #[.int j a', .int k b']) := by rw [h1, h2]
theorem les_t {x t : Nat} (h : x < t % 4294967296) (hx : x < 4294967296) : ((x : Int) - (t : Int) % 4294967296) % 4294967296 = (lesR x t : Nat) ∧ (t : Int) / 4294967296 + 1 = (lesB x t : Nat) := by
  unfold lesR lesB; rw [if_pos h]; omega
theorem les_f {x t : Nat} (h : ¬ x < t % 4294967296) (hx : x < 4294967296) : (x : Int) - (t : Int) % 4294967296 = (lesR x t : Nat) ∧ (t : Int) / 4294967296 = (lesB x t : Nat) := by
  unfold lesR lesB; rw [if_neg h]; omega
set_option maxHeartbeats 400000 in
/-- limb.lessen. -/
theorem lessen_any (x t : Nat) (w : World) (hx : x < 4294967296) (ht : t < 18446744073709551616) :
    Calls Try.prog 80 #[.int .u32 x, .int .u64 t] w fun e w' => e = .returned (.tuple #[.int .u32 (lesR x t), .int .u64 (lesB x t)]) ∧ w = w' := by
  by_cases h : x < t % 4294967296
  · have h1 : (x : Int) < (t : Int) % 4294967296 := by omega
    go_enter Try.func80, Try.ntmps80
    go_wp2
    go_ret2
    exact ⟨ret_t (les_t h hx).1 (les_t h hx).2, rfl⟩
  · have h1 : ¬ ((x : Int) < (t : Int) % 4294967296) := by omega
    go_enter Try.func80, Try.ntmps80
    go_wp2
    go_ret2
    exact ⟨ret_t (les_f h hx).1 (les_f h hx).2, rfl⟩

/-- The state of a subtraction: k limbs are done, q is borrowed. -/
def DifRel (w : World) (n : Nat) (us vs : List Nat) (cv tv : Value) (wr : World) : Prop :=
  ∃ (k q : Nat) (rs : List Nat), k ≤ n ∧ tv = .int .i64 k ∧ cv = .int .u64 q ∧ q ≤ 1 ∧ Blk wr w.heap.size rs ∧ rs.length = n ∧ Lim rs ∧ Below w.heap.size w wr ∧ rs.drop k = us.drop k ∧
    val (rs.take k) + val (vs.take k) = val (us.take k) + pw k * q
theorem drop_set (rs : List Nat) (k x : Nat) : (rs.set k x).drop (k + 1) = rs.drop (k + 1) := by
  apply ext_el
  · simp
  · intro j _
    rw [el_drop, el_drop, el_set_other _ _ _ _ (by omega)]
theorem drop_succ_of {rs us : List Nat} {k : Nat} (h : rs.drop k = us.drop k) : rs.drop (k + 1) = us.drop (k + 1) := by
  have := congrArg (List.drop 1) h
  rwa [List.drop_drop, List.drop_drop] at this
theorem el_of_drop {rs us : List Nat} {k : Nat} (h : rs.drop k = us.drop k) : el rs k = el us k := by
  have := congrArg (fun l => el l 0) h
  simpa [el_drop] using this
/-- One limb of a subtraction. -/
theorem dif_step (rs us vs : List Nat) (k q t : Nat) (hk : k < rs.length) (hx : el us k < 4294967296) (ht : t = q + el vs k)
    (heq : val (rs.take k) + val (vs.take k) = val (us.take k) + pw k * q) :
    val ((rs.set k (lesR (el us k) t)).take (k + 1)) + val (vs.take (k + 1)) = val (us.take (k + 1)) + pw (k + 1) * lesB (el us k) t := by
  rw [val_take_set rs k _ hk, val_take_step us, val_take_step vs]
  have h1 := les_eq (el us k) t hx
  have h2 : pw k * (el us k + 4294967296 * lesB (el us k) t) = pw k * (lesR (el us k) t + t) := by rw [h1]
  rw [ht] at h2 ⊢
  rw [Nat.mul_add, Nat.mul_add, Nat.mul_add] at h2
  rw [pw_succ, Nat.mul_comm 4294967296 (pw k), Nat.mul_assoc]
  omega
theorem DifRel.step {w wr : World} {n k q t : Nat} {us vs rs : List Nat} (hx : el us k < 4294967296) (hy : el vs k < 4294967296) (hk : k < n) (hq : q ≤ 1) (hB : Blk wr w.heap.size rs) (hrl : rs.length = n) (hrL : Lim rs) (hbel : Below w.heap.size w wr)
    (hd : rs.drop k = us.drop k) (heq : val (rs.take k) + val (vs.take k) = val (us.take k) + pw k * q) (ht : t = q + el vs k) :
    DifRel w n us vs (.int .u64 (lesB (el us k) t : Nat)) (.int .i64 ((k : Int) + 1)) (wr.setCell ⟨w.heap.size, k, none⟩ (.int .u32 (lesR (el us k) t : Nat))) := by
  refine ⟨k + 1, lesB (el us k) t, rs.set k (lesR (el us k) t), by omega, rfl, rfl, ?_, hB.set_ _ _, by simp [hrl], Lim_set hrL _ _ (lesR_lt _ _), hbel.setCell (Nat.le_refl _) _, ?_, dif_step rs us vs k q t (by omega) hx ht heq⟩
  · unfold lesB; split <;> omega
  · rw [drop_set]; exact drop_succ_of hd

set_option maxHeartbeats 800000 in
/-- limb.difference. -/
theorem dif_any (A B : Option Addr) (n c m d : Nat) (xs ys : List Nat) (w : World) (ha : Rd w A n c xs) (hb : Rd w B m d ys) (hn : n ≤ 900000) (hmn : m ≤ n) (hle : val ys ≤ val xs) :
    Calls Try.prog 68 #[.slice A n c, .slice B m d] w (Out w (digs (val xs - val ys))) := by
  have hmk := fun W => mk32 (n : Int) n rfl (by omega) W
  have HX := Lib.hid ha.len
  have HY := Lib.hid hb.len
  have HLE := Lib.hid hle
  clear hle
  go_enter Try.func68, Try.ntmps68
  go_wp2_with (with_reducible refine wpList_cp rfl (.tmp 12) (.tmp 13) 29 29 rfl Try.underlying29 info50 A w.heap.size n c n xs (zeros n) rfl rfl (Blk.new _ _) (by rw [zeros_len]; exact Nat.le_refl _) (ha.alloc _) w.heap.size w ((Below.refl _ _).alloc (Nat.le_refl _) _) (Nat.le_refl _) ?_; intro w1 hB1 hb1)
  have hB2 : Blk w1 w.heap.size xs := by
    have e : xs ++ (zeros n).drop n = xs := by rw [List.drop_of_length_le (by rw [zeros_len]; exact Nat.le_refl _), List.append_nil]
    rw [e] at hB1; exact hB1
  clear hB1 hmk
  go_loopw [6, 17] (fun cv tv wr => DifRel w n xs ys cv tv wr) (fun _ tv _ => n - (intOf tv).toNat)
  case atStart => exact ⟨0, 0, xs, Nat.zero_le _, rfl, rfl, Nat.zero_le _, hB2, HX.out, ha.lim, hb1, rfl, rfl⟩
  case round =>
    obtain ⟨k, q, rs, hk, rfl, rfl, hq, hB, hrl, hrL, hbel, hd, heq⟩ := hrel
    have HE := Lib.hid heq
    have HR := Lib.hid hrl
    have HD := Lib.hid hd
    clear heq hrl hd hB2 hb1
    have hxk := el_lt ha.lim k
    have hyk := el_lt hb.lim k
    have hf := hB.frozen k
    by_cases hkn : k < n
    · have hc0 : wr.cell? ⟨w.heap.size, k, none⟩ = some (.int .u32 (el xs k)) := by
        rw [← el_of_drop HD.out]; exact hB.cell (by rw [HR.out]; exact hkn)
      by_cases hkm : k < m
      · obtain ⟨b2, o2, rfl, hbb2, hcB⟩ := hb.at_ (by omega)
        have hcy := (hbel.cell (p := ⟨b2, o2 + k, none⟩) hbb2).trans (hcB k hkm)
        clear hcB
        go_wp2_with fail
        rw [show ((q : Int) + (el ys k : Nat)) = ((q + el ys k : Nat) : Int) by omega]
        refine (lessen_any (el xs k) (q + el ys k) _ hxk (by omega)).mono ?_
        rintro e w' ⟨rfl, rfl⟩
        have R := DifRel.step hxk hyk hkn hq hB HR.out hrL hbel HD.out HE.out rfl
        go_wp2
        go_roundw
        case rel => exact R
        case measure => simp [intOf]; omega
      · have HZ := Lib.hid (el_ge ys k (by rw [HY.out]; omega))
        go_wp2_with fail
        refine (lessen_any (el xs k) q _ hxk (by omega)).mono ?_
        rintro e w' ⟨rfl, rfl⟩
        have R := DifRel.step (t := q) hxk hyk hkn hq hB HR.out hrL hbel HD.out HE.out (by rw [HZ.out]; rfl)
        go_wp2
        go_roundw
        case rel => exact R
        case measure => simp [intOf]; omega
    · obtain rfl : k = n := by omega
      have HV := Lib.hid (show val rs = val xs - val ys by
        have h0 := HE.out
        rw [val_take_ge rs k (by rw [HR.out]; exact Nat.le_refl _), val_take_ge xs k (by rw [HX.out]; exact Nat.le_refl _), val_take_ge ys k (by rw [HY.out]; exact hmn)] at h0
        have h1 := val_lt hrL
        rw [HR.out] at h1
        have h2 := HLE.out
        rcases Nat.eq_zero_or_pos q with e | e
        · subst e; omega
        · obtain rfl : q = 1 := by omega
          omega)
      go_wp2_with fail
      refine (trimmed_any _ k k rs _ (hB.nw hrL HR.out (by omega) (Nat.le_refl _)).1).mono ?_
      rintro e w' ⟨j, rfl, hj, ht, rfl⟩
      have HT := Lib.hid ht
      clear ht
      go_wp2
      go_ret
      exact out_trim hB hrL HR.out (by omega) (Nat.le_refl _) hbel HV.out hj HT.out
end Go.Proofs.Yteicihaigkgbnaa
