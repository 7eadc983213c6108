/-
  What the reference's divMod does: the quotient and the rest, in new memory. For slices that can be read, of at most 400000 limbs, the divisor's last limb not 0.
-/
import Derived.Test.YtcpeofgfppgooaaRshift
import Derived.Test.YtcpeofgfppgooaaSubs
import Derived.Test.YtcpeofgfppgooaaDivide
import Derived.Deep.RegionWith
import Derived.Deep.DeepCutAuto
namespace Go.Proofs.Ytcpeofgfppgooaa
open Go.RowKit

theorem cut_a {w w1 : World} {z n1 c1 : Nat} {A1 : Option Addr} {rs : List Nat} (hN : Nw w1 (w.alloc (.cells (vals (zeros z)) 50)).drew.heap.size A1 n1 c1 rs) (hb : Below (w.alloc (.cells (vals (zeros z)) 50)).drew.heap.size (w.alloc (.cells (vals (zeros z)) 50)).drew w1) :
    Hid (Blk w1 w.heap.size (zeros z) ∧ w.heap.size ≤ w.heap.size ∧ Nw w1 w.heap.size A1 n1 c1 rs ∧ Below w.heap.size w w1) := by
  have hs : (w.alloc (.cells (vals (zeros z)) 50)).drew.heap.size = w.heap.size + 1 := by simp
  rw [hs] at hN hb
  exact ⟨(Blk.new w (zeros z)).drew.below hb (by omega), Nat.le_refl _, hN.mono (by omega), (((Below.refl w.heap.size w).alloc (Nat.le_refl _) _).drew).trans (hb.mono (by omega))⟩
theorem cut_b {w w1 : World} {z n1 c1 : Nat} {A1 : Option Addr} {rs : List Nat} (hN : Nw w1 w.heap.size A1 n1 c1 rs) (hb : Below w.heap.size w.drew w1) :
    Hid (Blk (w1.alloc (.cells (vals (zeros z)) 50)) w1.heap.size (zeros z) ∧ w.heap.size ≤ w1.heap.size ∧ Nw (w1.alloc (.cells (vals (zeros z)) 50)) w.heap.size A1 n1 c1 rs ∧ Below w.heap.size w (w1.alloc (.cells (vals (zeros z)) 50))) := by
  have hb' : Below w.heap.size w w1 := ⟨hb.os, hb.tape, hb.output, hb.size, hb.block⟩
  exact ⟨Blk.new w1 _, hb.size, hN.below ((Below.refl _ _).alloc (Nat.le_refl _) _), hb'.alloc hb'.size _⟩
/-- A store below what a slice has leaves it. -/
theorem Nw.far {w : World} {lo n c g : Nat} {A : Option Addr} {xs : List Nat} (h : Nw w lo A n c xs) (hg : g < lo) (o : Nat) (u : Value) : Nw (w.setCell ⟨g, o, none⟩ u) lo A n c xs := by
  have hs : (w.setCell ⟨g, o, none⟩ u).heap.size = w.heap.size := by simp [World.setCell]
  refine ⟨⟨h.1.len, h.1.cap, h.1.max, h.1.lim, fun hn => ?_⟩, fun hn => ?_⟩
  · obtain ⟨b, o', rfl, h1, h2, _⟩ := h.2 hn
    have hc := (h.addr hn).2.2.1
    exact ⟨b, o', rfl, by rw [hs]; exact h2, fun j hj => by
      rw [World.cell?_setCell_other _ _ _ _ (by intro e; injection e with e _ _; omega)]; exact hc j hj⟩
  · obtain ⟨b, o', rfl, h1, h2, h3⟩ := h.2 hn
    exact ⟨b, o', rfl, h1, by rw [hs]; exact h2, fun j hj => by rw [World.frozen?_setCell]; exact h3 j hj⟩
/-- The loop: k bits are left. -/
def DmRel (w : World) (g s a b : Nat) (rv xv iv : Value) (wr : World) : Prop :=
  ∃ (k R M rn rc xn xc : Nat) (rA xA : Option Addr) (qs : List Nat), k ≤ s + 1 ∧ iv = .int .i64 ((k : Int) - 1) ∧ rv = .slice rA rn rc ∧ xv = .slice xA xn xc ∧ Nw wr w.heap.size rA rn rc (digs R) ∧ Nw wr (g + 1) xA xn xc (digs (b * 2 ^ k / 2)) ∧
    Blk wr g qs ∧ qs.length = s / 32 + 1 ∧ Lim qs ∧ val qs = 2 ^ k * M ∧ R + b * val qs = a ∧ R < b * 2 ^ k ∧ Below w.heap.size w wr

theorem bit_or (e i : Nat) (he : e < 4294967296) (hm : e % 2 ^ (i % 32 + 1) = 0) : bits .or .u32 (e : Int) (2 ^ (i % 32) % 4294967296) = ((e + 2 ^ (i % 32) : Nat) : Int) ∧ e + 2 ^ (i % 32) < 4294967296 := by
  have hr : i % 32 ≤ 31 := by omega
  generalize i % 32 = r at *
  have hp : 2 ^ r ≤ 2147483648 := Nat.le_trans (Nat.pow_le_pow_right (by omega) hr) (by decide)
  have hlt : 2 ^ r < 2 ^ (r + 1) := Nat.pow_lt_pow_right (by omega) (by omega)
  have e1 : ((2 : Int) ^ r) % 4294967296 = ((2 ^ r : Nat) : Int) := by
    have e2 : ((2 : Int) ^ r) = ((2 ^ r : Nat) : Int) := by rw [Int.natCast_pow]; rfl
    rw [e2]
    omega
  refine ⟨?_, ?_⟩
  · rw [e1, u32_or_nat _ _ he (by omega), nat_join (r + 1) _ _ hm hlt]
  · obtain ⟨z, hz⟩ := Nat.dvd_of_mod_eq_zero hm
    have hB : 4294967296 = 2 ^ (r + 1) * 2 ^ (31 - r) := by rw [← Nat.pow_add, show r + 1 + (31 - r) = 32 by omega]
    have h3 : z < 2 ^ (31 - r) := by
      have h4 : 2 ^ (r + 1) * z < 2 ^ (r + 1) * 2 ^ (31 - r) := by rw [← hz, ← hB]; exact he
      exact Nat.lt_of_mul_lt_mul_left h4
    have h5 : 2 ^ (r + 1) * (z + 1) ≤ 2 ^ (r + 1) * 2 ^ (31 - r) := Nat.mul_le_mul_left _ h3
    rw [← hB, Nat.mul_add, ← hz] at h5
    omega
/-- A limb of a multiple of a power of two. -/
theorem limb_mult {qs : List Nat} {k M : Nat} (hL : Lim qs) (hk : k ≠ 0) (hv : val qs = 2 ^ k * M) : el qs ((k - 1) / 32) % 2 ^ ((k - 1) % 32 + 1) = 0 := by
  generalize hj : (k - 1) / 32 = j
  generalize hr : (k - 1) % 32 = r
  have hk' : k = 32 * j + (r + 1) := by omega
  have h1 : val qs = val (qs.take j) + pw j * (el qs j + 4294967296 * val (qs.drop (j + 1))) := by
    rw [← val_drop_any]
    rcases Nat.lt_or_ge qs.length j with h | h
    · rw [val_take_ge qs j (by omega), List.drop_of_length_le (by omega)]; simp [val]
    · exact val_take_drop qs j h
  have h2 := val_take_lt hL j
  have h3 : val qs = pw j * (2 ^ (r + 1) * M) := by rw [hv, hk', Nat.pow_add, ← pw_two, Nat.mul_assoc]
  have h4 : val qs / pw j = el qs j + 4294967296 * val (qs.drop (j + 1)) := by
    rw [h1, Nat.add_mul_div_left _ _ (pw_pos j), Nat.div_eq_of_lt h2, Nat.zero_add]
  have h5 : val qs / pw j = 2 ^ (r + 1) * M := by rw [h3, Nat.mul_div_cancel_left _ (pw_pos j)]
  have h6 : el qs j + 4294967296 * val (qs.drop (j + 1)) = 2 ^ (r + 1) * M := by rw [← h4, h5]
  have hB : 4294967296 = 2 ^ (r + 1) * 2 ^ (31 - r) := by rw [← Nat.pow_add, show r + 1 + (31 - r) = 32 by omega]
  have h7 : (el qs j + 4294967296 * val (qs.drop (j + 1))) % 2 ^ (r + 1) = 0 := by rw [h6, Nat.mul_mod_right]
  rw [hB, Nat.mul_assoc, Nat.add_mul_mod_self_left] at h7
  exact h7
theorem bit_val {qs : List Nat} {k : Nat} (hl : (k - 1) / 32 < qs.length) : val (qs.set ((k - 1) / 32) (el qs ((k - 1) / 32) + 2 ^ ((k - 1) % 32))) = val qs + 2 ^ (k - 1) := by
  have h := val_set qs ((k - 1) / 32) (el qs ((k - 1) / 32) + 2 ^ ((k - 1) % 32)) hl
  rw [Nat.mul_add, pw_two ((k - 1) / 32), ← Nat.pow_add, show 32 * ((k - 1) / 32) + (k - 1) % 32 = k - 1 by omega] at h
  omega
theorem two_half {k : Nat} (hk : k ≠ 0) : 2 ^ k = 2 ^ (k - 1) * 2 := by rw [← Nat.pow_succ]; congr 1; omega
theorem dm_end {a b q R : Nat} (h : R + b * q = a) (hR : R < b) : q = a / b ∧ R = a % b := by
  constructor
  · rw [← h, Nat.add_mul_div_left _ _ (by omega), Nat.div_eq_of_lt hR, Nat.zero_add]
  · rw [← h, Nat.add_mul_mod_self_left, Nat.mod_eq_of_lt hR]

set_option maxHeartbeats 1600000 in
theorem rdm_any (A B : Option Addr) (n c m d : Nat) (xs ys : List Nat) (w : World) (ha : Rd w A n c xs) (hb : Rd w B m d ys) (hn : n ≤ 400000) (hm : m ≤ 400000) (hy : val ys ≠ 0) :
    Calls Try.prog 32 #[.slice A n c, .slice B m d] w (OutQ w (val xs / val ys) (val xs % val ys)) := by
  go_enter Try.func32, Try.ntmps32
  go_wp2_with fail
  refine (rbits_any _ _ _ xs _ ha (by omega)).mono ?_
  rintro e w' ⟨ka, rfl, ha1, ha2, ha3, rfl⟩
  go_wp2_with fail
  refine (rbits_any _ _ _ ys _ hb (by omega)).mono ?_
  rintro e w' ⟨kb, rfl, hb1, hb2, hb3, rfl⟩
  have HK := Lib.hid (And.intro (And.intro ha2 ha3) (And.intro hb2 hb3))
  clear ha2 ha3 hb2 hb3
  rcases Nat.lt_or_ge ka kb with hlt | hge
  · have HV := Lib.hid (show val xs < val ys by
      obtain ⟨⟨h1, h2⟩, ⟨h3, h4⟩⟩ := HK.out
      rcases h4 with h4 | h4
      · omega
      · have := Nat.pow_le_pow_right (show 0 < 2 by omega) (show ka ≤ kb - 1 by omega)
        omega)
    have hd : (ka : Int) - (kb : Int) < 0 := by omega
    go_wp2_with fail
    refine (rtrim_any _ _ _ xs _ ha (by omega)).mono ?_
    rintro e w1 ⟨A1, n1, c1, rfl, hN, hb1⟩
    have HF := Lib.hid (show OutQ w (val xs / val ys) (val xs % val ys) (.returned (.tuple #[.slice none 0 0, .slice A1 n1 c1])) w1 from
      ⟨_, _, _, _, _, _, rfl, by rw [Nat.div_eq_of_lt HV.out, digs_zero]; exact Nw.nil _ _, by rw [Nat.mod_eq_of_lt HV.out]; exact hN, hb1⟩)
    clear hN hb1
    go_wp2
    go_ret2
    exact HF.out
  · obtain ⟨s, rfl⟩ : ∃ s, ka = kb + s := ⟨ka - kb, by omega⟩
    have hd : ¬ ((s : Int) < 0) := by omega
    have hd' : ¬ (((kb + s : Nat) : Int) - (kb : Int) < 0) := by omega
    have hmk := fun W => mk34 ((s : Int) / 32 + 1) (s / 32 + 1) (by omega) (by omega) W
    have k1 : IntKind.i64.wrap ((s : Int) / 32) = (s : Int) / 32 := IntWalk.i64_in _ (by omega)
    have k2 : IntKind.i64.wrap ((s : Int) / 32 + 1) = (s : Int) / 32 + 1 := IntWalk.i64_in _ (by omega)
    go_upto_region 4 with (fail)
    rw [show ((kb : Int) + (s : Int) - (kb : Int)) = (s : Int) by omega]
    go_cut [7, 8] (fun s7 s8 wx => ∃ (g rn rc : Nat) (rA : Option Addr), s7 = .slice (some ⟨g, 0, none⟩) (s / 32 + 1) (s / 32 + 1) ∧ s8 = .slice rA rn rc ∧ Hid (Blk wx g (zeros (s / 32 + 1)) ∧ w.heap.size ≤ g ∧ Nw wx w.heap.size rA rn rc (digs (val xs)) ∧ Below w.heap.size w wx))
    case first =>
      go_region_with (go_at_call 31; refine (rtrim_any _ _ _ xs _ ?_ (by omega)).mono ?_; (first | exact ha.drew | exact (ha.alloc _).drew | exact ha.drew.alloc _); rintro e w1 ⟨A1, n1, c1, rfl, hN, hbx⟩)
      all_goals (go_wp2_with fail; go_meet; first | exact ⟨w.heap.size, n1, c1, A1, rfl, rfl, cut_a hN hbx⟩ | exact ⟨w1.heap.size, n1, c1, A1, rfl, rfl, cut_b hN hbx⟩)
    case rest =>
      obtain ⟨g, rn, rc, rA, rfl, rfl, HC⟩ := hcut
      clear hmk k1 k2
      go_wp2_with fail
      refine (rsh_any _ _ _ s ys _ (hb.below HC.out.2.2.2) (by omega) (by omega)).mono ?_
      rintro e w2 ⟨xA, xn, xc, rfl, hNx, hb2⟩
      have HST : Hid (DmRel w g s (val xs) (val ys) (.slice rA rn rc) (.slice xA xn xc) (.int .i64 s) w2) := by
        obtain ⟨c1, c2, c3, c4⟩ := HC.out
        refine ⟨s + 1, val xs, 0, rn, rc, xn, xc, rA, xA, zeros (s / 32 + 1), Nat.le_refl _, by congr 1; omega, rfl, rfl, c3.below hb2, ?_, c1.below hb2 c1.lt, zeros_len _, Lim_zeros _, by rw [val_zeros_]; simp, by rw [val_zeros_]; simp, ?_, c4.trans (hb2.mono c4.size)⟩
        · rw [Nat.pow_succ, ← Nat.mul_assoc, Nat.mul_div_cancel _ (by omega)]; exact hNx.mono c1.lt
        · obtain ⟨⟨h1, _⟩, ⟨_, h4⟩⟩ := HK.out
          rcases h4 with h4 | h4
          · subst h4
            have : val ys < 1 := by simpa using HK.out.2.1
            omega
          · refine Nat.lt_of_lt_of_le h1 ?_
            have h5 := Nat.mul_le_mul_right (2 ^ (s + 1)) h4
            rw [← Nat.pow_add] at h5
            rcases Nat.eq_zero_or_pos kb with e | e
            · subst e
              have : val ys < 1 := by simpa using HK.out.2.1
              omega
            · rwa [show kb - 1 + (s + 1) = kb + s by omega] at h5
      clear hNx hb2
      have hgw : w.heap.size ≤ g := HC.out.2.1
      clear HC
      go_wp2
      go_loopw [8, 9, 10] (fun rv xv iv wr => DmRel w g s (val xs) (val ys) rv xv iv wr) (fun _ _ iv _ => (intOf iv + 1).toNat)
      case atStart => exact HST.out
      case round =>
        obtain ⟨k, R, M, rn2, rc2, xn2, xc2, rA2, xA2, qs, hk, rfl, rfl, rfl, hNr, hRx, hBq, hql, hqL, hqv, heq, hlt, hbel⟩ := hrel
        have HF := Lib.hid (show qs.length = s / 32 + 1 ∧ val qs = 2 ^ k * M ∧ R + val ys * val qs = val xs ∧ R < val ys * 2 ^ k from ⟨hql, hqv, heq, hlt⟩)
        clear hql hqv heq hlt HST
        by_cases hk0 : k = 0
        · subst hk0
          have HE := Lib.hid (dm_end HF.out.2.2.1 (by have := HF.out.2.2.2; simpa using this))
          have hsz := hbel.size
          go_wp2_with fail
          refine (rtrim_any _ _ _ qs _ (hBq.nw hqL HF.out.1 (by omega) hgw).1 (by omega)).mono ?_
          rintro e w3 ⟨A3, n3, c3, rfl, hN3, hb3⟩
          have HFIN := Lib.hid (show OutQ w (val xs / val ys) (val xs % val ys) (.returned (.tuple #[.slice A3 n3 c3, .slice rA2 rn2 rc2])) w3 from
            ⟨_, _, _, _, _, _, rfl, by rw [← HE.out.1]; exact hN3.mono hsz, by rw [← HE.out.2]; exact hNr.below hb3, hbel.trans (hb3.mono hsz)⟩)
          clear hN3 hb3 hNr hRx hBq
          go_wp2
          go_ret2
          exact HFIN.out
        · have HX2 := Lib.hid (show val ys * 2 ^ k / 2 = val ys * 2 ^ (k - 1) by
            have : 2 ^ k = 2 ^ (k - 1) * 2 := by rw [← Nat.pow_succ]; congr 1; omega
            rw [this, ← Nat.mul_assoc, Nat.mul_div_cancel _ (by omega)])
          rw [HX2.out] at hRx
          have hgl := hBq.lt
          have hsz := hbel.size
          have HXB := Lib.hid (show val xs < pw n by have := val_lt ha.lim; rwa [ha.len] at this)
          have hxl : (digs (val ys * 2 ^ (k - 1))).length ≤ n := by
            refine len_digs_lt ?_
            obtain ⟨⟨_, _⟩, ⟨h3, _⟩⟩ := HK.out
            have h5 : val ys * 2 ^ (k - 1) < 2 ^ kb * 2 ^ (k - 1) := Nat.mul_lt_mul_of_pos_right h3 (Nat.two_pow_pos _)
            rw [← Nat.pow_add] at h5
            rw [pw_two]
            exact Nat.lt_of_lt_of_le h5 (Nat.pow_le_pow_right (by omega) (by omega))
          go_wp2_with fail
          refine (rcmp_any _ _ _ _ _ _ _ _ _ hNr.1 hRx.1 (Nrm_digs _) (Nrm_digs _)).mono ?_
          rw [val_digs, val_digs]
          rintro e w' ⟨rfl, q, rfl⟩
          rcases Nat.lt_or_ge R (val ys * 2 ^ (k - 1)) with hc | hc
          · rw [cmpN_lt hc]
            have HC2 := Lib.hid hc
            clear hc
            go_wp2_with fail
            refine (half_any _ _ _ _ _ (hRx.1.drewN q) (by rw [← hRx.1.len]; exact Nat.le_trans hxl (by omega))).mono ?_
            rw [val_digs]
            rintro e w4 ⟨xA4, xn4, xc4, rfl, hNx4, hb4⟩
            have hb4' : Below wr.heap.size wr w4 := ⟨hb4.os, hb4.tape, hb4.output, hb4.size, hb4.block⟩
            have HREL := Lib.hid (show DmRel w g s (val xs) (val ys) (.slice rA2 rn2 rc2) (.slice xA4 xn4 xc4) (.int .i64 ((k : Int) - 1 - 1)) w4 from
              ⟨k - 1, R, 2 * M, rn2, rc2, xn4, xc4, rA2, xA4, qs, by omega, by congr 1; omega, rfl, rfl, hNr.below hb4', hNx4.mono hgl, hBq.below hb4' hgl, HF.out.1, hqL, by rw [HF.out.2.1, two_half hk0, Nat.mul_assoc], HF.out.2.2.1, HC2.out, hbel.trans (hb4'.mono hsz)⟩)
            clear hNx4 hb4 hb4' hNr hRx hBq
            go_wp2
            go_roundw
            case rel => exact HREL.out
            case measure => simp [intOf]; omega
          · have hge2 := cmpN_ge hc
            have HC2 := Lib.hid hc
            clear hc
            have hge2' : 0 ≤ cmpN R (val ys * 2 ^ (k - 1)) := by omega
            have hxr : xn2 ≤ rn2 := by rw [← hRx.1.len, ← hNr.1.len]; exact len_digs_mono HC2.out
            have hrl : rn2 ≤ 900000 := by rw [← hNr.1.len]; exact Nat.le_trans (len_digs_lt (k := n) (Nat.lt_of_le_of_lt (by have := HF.out.2.2.1; omega) HXB.out)) (by omega)
            go_wp2_with fail
            refine (rsub_any _ _ _ _ _ _ _ _ _ (hNr.1.drewN q) (hRx.1.drewN q) hrl hxr (by rw [val_digs, val_digs]; exact HC2.out)).mono ?_
            rw [val_digs, val_digs]
            rintro e w3 ⟨rA3, rn3, rc3, rfl, hN3, hb3⟩
            have hb3' : Below wr.heap.size wr w3 := ⟨hb3.os, hb3.tape, hb3.output, hb3.size, hb3.block⟩
            have hBq3 := hBq.below hb3' hBq.lt
            have hRx3 := hRx.below hb3'
            have HN3 := Lib.hid (hN3.mono (lo' := g + 1) hgl)
            have hbel3 := hbel.trans (hb3'.mono hsz)
            have hqel := el_lt hqL ((k - 1) / 32)
            obtain ⟨hor, hol⟩ := bit_or (el qs ((k - 1) / 32)) (k - 1) hqel (limb_mult hqL hk0 HF.out.2.1)
            have HOL := Lib.hid hol
            have HBV := Lib.hid (bit_val (qs := qs) (k := k) (by rw [HF.out.1]; omega))
            have hf := hBq3.frozen ((k - 1) / 32)
            have hc0 := hBq3.cell (i := (k - 1) / 32) (by rw [HF.out.1]; omega)
            clear hN3 hb3 hb3' hNr hRx hBq hol
            have HOR := Lib.hid hor
            clear hor
            go_wp2_with fail
            rw [HOR.out]
            have hbel4 := hbel3.setCell (p := ⟨g, (k - 1) / 32, none⟩) hgw (.int .u32 ((el qs ((k - 1) / 32) + 2 ^ ((k - 1) % 32) : Nat) : Int))
            have hBq4 := hBq3.set_ ((k - 1) / 32) (el qs ((k - 1) / 32) + 2 ^ ((k - 1) % 32))
            have hRx4 := hRx3.far (g := g) (by omega) ((k - 1) / 32) (.int .u32 ((el qs ((k - 1) / 32) + 2 ^ ((k - 1) % 32) : Nat) : Int))
            have hNr4 := HN3.out.far (g := g) (by omega) ((k - 1) / 32) (.int .u32 ((el qs ((k - 1) / 32) + 2 ^ ((k - 1) % 32) : Nat) : Int))
            generalize w3.setCell ⟨g, (k - 1) / 32, none⟩ (.int .u32 ((el qs ((k - 1) / 32) + 2 ^ ((k - 1) % 32) : Nat) : Int)) = w4 at *
            clear hbel3 hBq3 hRx3 HN3 hf hc0 HOR
            refine (half_any _ _ _ _ _ hRx4.1 (by rw [← hRx4.1.len]; exact Nat.le_trans hxl (by omega))).mono ?_
            rw [val_digs]
            rintro e w5 ⟨xA5, xn5, xc5, rfl, hNx5, hb5⟩
            have HREL := Lib.hid (show DmRel w g s (val xs) (val ys) (.slice rA3 rn3 rc3) (.slice xA5 xn5 xc5) (.int .i64 ((k : Int) - 1 - 1)) w5 from
              ⟨k - 1, R - val ys * 2 ^ (k - 1), 2 * M + 1, rn3, rc3, xn5, xc5, rA3, xA5, _, by omega, by congr 1; omega, rfl, rfl, (hNr4.mono (by omega)).below hb5, hNx5.mono hBq4.lt, hBq4.below hb5 hBq4.lt, by rw [List.length_set]; exact HF.out.1, Lim_set hqL _ _ HOL.out,
                by rw [HBV.out, HF.out.2.1, two_half hk0, Nat.mul_add, Nat.mul_assoc, Nat.mul_one],
                by rw [HBV.out, Nat.mul_add]; have h1 := HF.out.2.2.1; have h2 := HC2.out; omega,
                by have h1 := HF.out.2.2.2; rw [two_half hk0, ← Nat.mul_assoc] at h1; have h2 := HC2.out; omega,
                hbel4.trans (hb5.mono hbel4.size)⟩)
            clear hNx5 hb5 hNr4 hRx4 hBq4 hbel4
            go_wp2
            go_roundw
            case rel => exact HREL.out
            case measure => simp [intOf]; omega
end Go.Proofs.Ytcpeofgfppgooaa
