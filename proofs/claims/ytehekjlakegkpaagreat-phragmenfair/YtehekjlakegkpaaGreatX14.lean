/-
  What the reference's divMod does: the quotient and the rest, in new memory. For slices that can be read, of at most 400000 limbs, the divisor's last limb not 0.
  What limb.Gcd, the reference's gcd and its Gcd do. For slices that can be read.
  limb.DivMod of well formed naturals, said of the numbers. For naturals of at most 400 limbs and a divisor that is not 0.
  What the law's own awake and few do: awake answers true; few tells whether slices have at most 410 limbs. For slices that can be read.
  Words for fractions in memory (a block that holds two slices; what a call that makes a fraction answers), and what ratio.isZero, isOne and reduced do. For naturals of at most 400 limbs that can be read; the denominator is not 0.
-/
import Derived.Test.YtehekjlakegkpaaGreatX13
import Derived.Test.YtehekjlakegkpaaGreatX11
import Derived.Test.YtehekjlakegkpaaGreatX12
import Derived.Deep.RegionWith
import Derived.Deep.DeepCutAuto
import Derived.Test.YtehekjlakegkpaaGreatX06
section
namespace Go.Proofs.YtehekjlakegkpaaGreat
open Go.RowKit

theorem cut_a {w w1 : World} {z n1 c1 : Nat} {A1 : Option Addr} {rs : List Nat} (hN : Nw w1 (w.alloc (.cells (vals (zeros z)) 69)).drew.heap.size A1 n1 c1 rs) (hb : Below (w.alloc (.cells (vals (zeros z)) 69)).drew.heap.size (w.alloc (.cells (vals (zeros z)) 69)).drew w1) :
    Hid (Blk w1 w.heap.size (zeros z) ∧ w.heap.size ≤ w.heap.size ∧ Nw w1 w.heap.size A1 n1 c1 rs ∧ Below w.heap.size w w1) := by
  have hs : (w.alloc (.cells (vals (zeros z)) 69)).drew.heap.size = w.heap.size + 1 := by simp
  rw [hs] at hN hb
  exact ⟨(Blk.new w (zeros z)).drew.below hb (by omega), Nat.le_refl _, hN.mono (by omega), (((Below.refl w.heap.size w).alloc (Nat.le_refl _) _).drew).trans (hb.mono (by omega))⟩
theorem cut_b {w w1 : World} {z n1 c1 : Nat} {A1 : Option Addr} {rs : List Nat} (hN : Nw w1 w.heap.size A1 n1 c1 rs) (hb : Below w.heap.size w.drew w1) :
    Hid (Blk (w1.alloc (.cells (vals (zeros z)) 69)) w1.heap.size (zeros z) ∧ w.heap.size ≤ w1.heap.size ∧ Nw (w1.alloc (.cells (vals (zeros z)) 69)) w.heap.size A1 n1 c1 rs ∧ Below w.heap.size w (w1.alloc (.cells (vals (zeros z)) 69))) := by
  have hb' : Below w.heap.size w w1 := ⟨hb.os, hb.tape, hb.output, hb.size, hb.block⟩
  exact ⟨Blk.new w1 _, hb.size, hN.below ((Below.refl _ _).alloc (Nat.le_refl _) _), hb'.alloc hb'.size _⟩
/-- A store below what a slice has leaves it. -/
theorem Nw.far {w : World} {lo n c g : Nat} {A : Option Addr} {xs : List Nat} (h : Nw w lo A n c xs) (hg : g < lo) (o : Nat) (u : Value) : Nw (w.setCell ⟨g, o, none⟩ u) lo A n c xs := by
  have hs : (w.setCell ⟨g, o, none⟩ u).heap.size = w.heap.size := by simp [World.setCell]
  refine ⟨⟨h.1.len, h.1.cap, h.1.max, h.1.lim, fun hn => ?_⟩, fun hn => ?_⟩
  · obtain ⟨b, o', rfl, h1, h2, _⟩ := h.2 hn
    have hc := (h.addr hn).2.2.1
    exact ⟨b, o', rfl, by rw [hs]; exact h2, fun j hj => by
      rw [World.cell?_setCell_other _ _ _ _ (by intro e; injection e with e _ _; omega)]; exact hc j hj⟩
  · obtain ⟨b, o', rfl, h1, h2, h3⟩ := h.2 hn
    exact ⟨b, o', rfl, h1, by rw [hs]; exact h2, fun j hj => by rw [World.frozen?_setCell]; exact h3 j hj⟩
/-- The loop: k bits are left. -/
def DmRel (w : World) (g s a b : Nat) (rv xv iv : Value) (wr : World) : Prop :=
  ∃ (k R M rn rc xn xc : Nat) (rA xA : Option Addr) (qs : List Nat), k ≤ s + 1 ∧ iv = .int .i64 ((k : Int) - 1) ∧ rv = .slice rA rn rc ∧ xv = .slice xA xn xc ∧ Nw wr w.heap.size rA rn rc (digs R) ∧ Nw wr (g + 1) xA xn xc (digs (b * 2 ^ k / 2)) ∧
    Blk wr g qs ∧ qs.length = s / 32 + 1 ∧ Lim qs ∧ val qs = 2 ^ k * M ∧ R + b * val qs = a ∧ R < b * 2 ^ k ∧ Below w.heap.size w wr

theorem bit_or (e i : Nat) (he : e < 4294967296) (hm : e % 2 ^ (i % 32 + 1) = 0) : bits .or .u32 (e : Int) (2 ^ (i % 32) % 4294967296) = ((e + 2 ^ (i % 32) : Nat) : Int) ∧ e + 2 ^ (i % 32) < 4294967296 := by
  have hr : i % 32 ≤ 31 := by omega
  generalize i % 32 = r at *
  have hp : 2 ^ r ≤ 2147483648 := Nat.le_trans (Nat.pow_le_pow_right (by omega) hr) (by decide)
  have hlt : 2 ^ r < 2 ^ (r + 1) := Nat.pow_lt_pow_right (by omega) (by omega)
  have e1 : ((2 : Int) ^ r) % 4294967296 = ((2 ^ r : Nat) : Int) := by
    have e2 : ((2 : Int) ^ r) = ((2 ^ r : Nat) : Int) := by rw [Int.natCast_pow]; rfl
    rw [e2]
    omega
  refine ⟨?_, ?_⟩
  · rw [e1, u32_or_nat _ _ he (by omega), nat_join (r + 1) _ _ hm hlt]
  · obtain ⟨z, hz⟩ := Nat.dvd_of_mod_eq_zero hm
    have hB : 4294967296 = 2 ^ (r + 1) * 2 ^ (31 - r) := by rw [← Nat.pow_add, show r + 1 + (31 - r) = 32 by omega]
    have h3 : z < 2 ^ (31 - r) := by
      have h4 : 2 ^ (r + 1) * z < 2 ^ (r + 1) * 2 ^ (31 - r) := by rw [← hz, ← hB]; exact he
      exact Nat.lt_of_mul_lt_mul_left h4
    have h5 : 2 ^ (r + 1) * (z + 1) ≤ 2 ^ (r + 1) * 2 ^ (31 - r) := Nat.mul_le_mul_left _ h3
    rw [← hB, Nat.mul_add, ← hz] at h5
    omega
/-- A limb of a multiple of a power of two. -/
theorem limb_mult {qs : List Nat} {k M : Nat} (hL : Lim qs) (hk : k ≠ 0) (hv : val qs = 2 ^ k * M) : el qs ((k - 1) / 32) % 2 ^ ((k - 1) % 32 + 1) = 0 := by
  generalize hj : (k - 1) / 32 = j
  generalize hr : (k - 1) % 32 = r
  have hk' : k = 32 * j + (r + 1) := by omega
  have h1 : val qs = val (qs.take j) + pw j * (el qs j + 4294967296 * val (qs.drop (j + 1))) := by
    rw [← val_drop_any]
    rcases Nat.lt_or_ge qs.length j with h | h
    · rw [val_take_ge qs j (by omega), List.drop_of_length_le (by omega)]; simp [val]
    · exact val_take_drop qs j h
  have h2 := val_take_lt hL j
  have h3 : val qs = pw j * (2 ^ (r + 1) * M) := by rw [hv, hk', Nat.pow_add, ← pw_two, Nat.mul_assoc]
  have h4 : val qs / pw j = el qs j + 4294967296 * val (qs.drop (j + 1)) := by
    rw [h1, Nat.add_mul_div_left _ _ (pw_pos j), Nat.div_eq_of_lt h2, Nat.zero_add]
  have h5 : val qs / pw j = 2 ^ (r + 1) * M := by rw [h3, Nat.mul_div_cancel_left _ (pw_pos j)]
  have h6 : el qs j + 4294967296 * val (qs.drop (j + 1)) = 2 ^ (r + 1) * M := by rw [← h4, h5]
  have hB : 4294967296 = 2 ^ (r + 1) * 2 ^ (31 - r) := by rw [← Nat.pow_add, show r + 1 + (31 - r) = 32 by omega]
  have h7 : (el qs j + 4294967296 * val (qs.drop (j + 1))) % 2 ^ (r + 1) = 0 := by rw [h6, Nat.mul_mod_right]
  rw [hB, Nat.mul_assoc, Nat.add_mul_mod_self_left] at h7
  exact h7
theorem bit_val {qs : List Nat} {k : Nat} (hl : (k - 1) / 32 < qs.length) : val (qs.set ((k - 1) / 32) (el qs ((k - 1) / 32) + 2 ^ ((k - 1) % 32))) = val qs + 2 ^ (k - 1) := by
  have h := val_set qs ((k - 1) / 32) (el qs ((k - 1) / 32) + 2 ^ ((k - 1) % 32)) hl
  rw [Nat.mul_add, pw_two ((k - 1) / 32), ← Nat.pow_add, show 32 * ((k - 1) / 32) + (k - 1) % 32 = k - 1 by omega] at h
  omega
theorem two_half {k : Nat} (hk : k ≠ 0) : 2 ^ k = 2 ^ (k - 1) * 2 := by rw [← Nat.pow_succ]; congr 1; omega
theorem dm_end {a b q R : Nat} (h : R + b * q = a) (hR : R < b) : q = a / b ∧ R = a % b := by
  constructor
  · rw [← h, Nat.add_mul_div_left _ _ (by omega), Nat.div_eq_of_lt hR, Nat.zero_add]
  · rw [← h, Nat.add_mul_mod_self_left, Nat.mod_eq_of_lt hR]

set_option maxHeartbeats 1600000 in
theorem rdm_any (A B : Option Addr) (n c m d : Nat) (xs ys : List Nat) (w : World) (ha : Rd w A n c xs) (hb : Rd w B m d ys) (hn : n ≤ 400000) (hm : m ≤ 400000) (hy : val ys ≠ 0) :
    Calls Tryz.prog 107 #[.slice A n c, .slice B m d] w (OutQ w (val xs / val ys) (val xs % val ys)) := by
  go_enter Tryz.func107, Tryz.ntmps107
  go_wp2_with fail
  refine (rbits_any _ _ _ xs _ ha (by omega)).mono ?_
  rintro e w' ⟨ka, rfl, ha1, ha2, ha3, rfl⟩
  go_wp2_with fail
  refine (rbits_any _ _ _ ys _ hb (by omega)).mono ?_
  rintro e w' ⟨kb, rfl, hb1, hb2, hb3, rfl⟩
  have HK := Lib.hid (And.intro (And.intro ha2 ha3) (And.intro hb2 hb3))
  clear ha2 ha3 hb2 hb3
  rcases Nat.lt_or_ge ka kb with hlt | hge
  · have HV := Lib.hid (show val xs < val ys by
      obtain ⟨⟨h1, h2⟩, ⟨h3, h4⟩⟩ := HK.out
      rcases h4 with h4 | h4
      · omega
      · have := Nat.pow_le_pow_right (show 0 < 2 by omega) (show ka ≤ kb - 1 by omega)
        omega)
    have hd : (ka : Int) - (kb : Int) < 0 := by omega
    go_wp2_with fail
    refine (rtrim_any _ _ _ xs _ ha (by omega)).mono ?_
    rintro e w1 ⟨A1, n1, c1, rfl, hN, hb1⟩
    have HF := Lib.hid (show OutQ w (val xs / val ys) (val xs % val ys) (.returned (.tuple #[.slice none 0 0, .slice A1 n1 c1])) w1 from
      ⟨_, _, _, _, _, _, rfl, by rw [Nat.div_eq_of_lt HV.out, digs_zero]; exact Nw.nil _ _, by rw [Nat.mod_eq_of_lt HV.out]; exact hN, hb1⟩)
    clear hN hb1
    go_wp2
    go_ret2
    exact HF.out
  · obtain ⟨s, rfl⟩ : ∃ s, ka = kb + s := ⟨ka - kb, by omega⟩
    have hd : ¬ ((s : Int) < 0) := by omega
    have hd' : ¬ (((kb + s : Nat) : Int) - (kb : Int) < 0) := by omega
    have hmk := fun W => mk34 ((s : Int) / 32 + 1) (s / 32 + 1) (by omega) (by omega) W
    have k1 : IntKind.i64.wrap ((s : Int) / 32) = (s : Int) / 32 := IntWalk.i64_in _ (by omega)
    have k2 : IntKind.i64.wrap ((s : Int) / 32 + 1) = (s : Int) / 32 + 1 := IntWalk.i64_in _ (by omega)
    go_upto_region 4 with (fail)
    rw [show ((kb : Int) + (s : Int) - (kb : Int)) = (s : Int) by omega]
    go_cut [7, 8] (fun s7 s8 wx => ∃ (g rn rc : Nat) (rA : Option Addr), s7 = .slice (some ⟨g, 0, none⟩) (s / 32 + 1) (s / 32 + 1) ∧ s8 = .slice rA rn rc ∧ Hid (Blk wx g (zeros (s / 32 + 1)) ∧ w.heap.size ≤ g ∧ Nw wx w.heap.size rA rn rc (digs (val xs)) ∧ Below w.heap.size w wx))
    case first =>
      go_region_with (go_at_call 108; refine (rtrim_any _ _ _ xs _ ?_ (by omega)).mono ?_; (first | exact ha.drew | exact (ha.alloc _).drew | exact ha.drew.alloc _); rintro e w1 ⟨A1, n1, c1, rfl, hN, hbx⟩)
      all_goals (go_wp2_with fail; go_meet; first | exact ⟨w.heap.size, n1, c1, A1, rfl, rfl, cut_a hN hbx⟩ | exact ⟨w1.heap.size, n1, c1, A1, rfl, rfl, cut_b hN hbx⟩)
    case rest =>
      obtain ⟨g, rn, rc, rA, rfl, rfl, HC⟩ := hcut
      clear hmk k1 k2
      go_wp2_with fail
      refine (rsh_any _ _ _ s ys _ (hb.below HC.out.2.2.2) (by omega) (by omega)).mono ?_
      rintro e w2 ⟨xA, xn, xc, rfl, hNx, hb2⟩
      have HST : Hid (DmRel w g s (val xs) (val ys) (.slice rA rn rc) (.slice xA xn xc) (.int .i64 s) w2) := by
        obtain ⟨c1, c2, c3, c4⟩ := HC.out
        refine ⟨s + 1, val xs, 0, rn, rc, xn, xc, rA, xA, zeros (s / 32 + 1), Nat.le_refl _, by congr 1; omega, rfl, rfl, c3.below hb2, ?_, c1.below hb2 c1.lt, zeros_len _, Lim_zeros _, by rw [val_zeros_]; simp, by rw [val_zeros_]; simp, ?_, c4.trans (hb2.mono c4.size)⟩
        · rw [Nat.pow_succ, ← Nat.mul_assoc, Nat.mul_div_cancel _ (by omega)]; exact hNx.mono c1.lt
        · obtain ⟨⟨h1, _⟩, ⟨_, h4⟩⟩ := HK.out
          rcases h4 with h4 | h4
          · subst h4
            have : val ys < 1 := by simpa using HK.out.2.1
            omega
          · refine Nat.lt_of_lt_of_le h1 ?_
            have h5 := Nat.mul_le_mul_right (2 ^ (s + 1)) h4
            rw [← Nat.pow_add] at h5
            rcases Nat.eq_zero_or_pos kb with e | e
            · subst e
              have : val ys < 1 := by simpa using HK.out.2.1
              omega
            · rwa [show kb - 1 + (s + 1) = kb + s by omega] at h5
      clear hNx hb2
      have hgw : w.heap.size ≤ g := HC.out.2.1
      clear HC
      go_wp2
      go_loopw [8, 9, 10] (fun rv xv iv wr => DmRel w g s (val xs) (val ys) rv xv iv wr) (fun _ _ iv _ => (intOf iv + 1).toNat)
      case atStart => exact HST.out
      case round =>
        obtain ⟨k, R, M, rn2, rc2, xn2, xc2, rA2, xA2, qs, hk, rfl, rfl, rfl, hNr, hRx, hBq, hql, hqL, hqv, heq, hlt, hbel⟩ := hrel
        have HF := Lib.hid (show qs.length = s / 32 + 1 ∧ val qs = 2 ^ k * M ∧ R + val ys * val qs = val xs ∧ R < val ys * 2 ^ k from ⟨hql, hqv, heq, hlt⟩)
        clear hql hqv heq hlt HST
        by_cases hk0 : k = 0
        · subst hk0
          have HE := Lib.hid (dm_end HF.out.2.2.1 (by have := HF.out.2.2.2; simpa using this))
          have hsz := hbel.size
          go_wp2_with fail
          refine (rtrim_any _ _ _ qs _ (hBq.nw hqL HF.out.1 (by omega) hgw).1 (by omega)).mono ?_
          rintro e w3 ⟨A3, n3, c3, rfl, hN3, hb3⟩
          have HFIN := Lib.hid (show OutQ w (val xs / val ys) (val xs % val ys) (.returned (.tuple #[.slice A3 n3 c3, .slice rA2 rn2 rc2])) w3 from
            ⟨_, _, _, _, _, _, rfl, by rw [← HE.out.1]; exact hN3.mono hsz, by rw [← HE.out.2]; exact hNr.below hb3, hbel.trans (hb3.mono hsz)⟩)
          clear hN3 hb3 hNr hRx hBq
          go_wp2
          go_ret2
          exact HFIN.out
        · have HX2 := Lib.hid (show val ys * 2 ^ k / 2 = val ys * 2 ^ (k - 1) by
            have : 2 ^ k = 2 ^ (k - 1) * 2 := by rw [← Nat.pow_succ]; congr 1; omega
            rw [this, ← Nat.mul_assoc, Nat.mul_div_cancel _ (by omega)])
          rw [HX2.out] at hRx
          have hgl := hBq.lt
          have hsz := hbel.size
          have HXB := Lib.hid (show val xs < pw n by have := val_lt ha.lim; rwa [ha.len] at this)
          have hxl : (digs (val ys * 2 ^ (k - 1))).length ≤ n := by
            refine len_digs_lt ?_
            obtain ⟨⟨_, _⟩, ⟨h3, _⟩⟩ := HK.out
            have h5 : val ys * 2 ^ (k - 1) < 2 ^ kb * 2 ^ (k - 1) := Nat.mul_lt_mul_of_pos_right h3 (Nat.two_pow_pos _)
            rw [← Nat.pow_add] at h5
            rw [pw_two]
            exact Nat.lt_of_lt_of_le h5 (Nat.pow_le_pow_right (by omega) (by omega))
          go_wp2_with fail
          refine (rcmp_any _ _ _ _ _ _ _ _ _ hNr.1 hRx.1 (Nrm_digs _) (Nrm_digs _)).mono ?_
          rw [val_digs, val_digs]
          rintro e w' ⟨rfl, q, rfl⟩
          rcases Nat.lt_or_ge R (val ys * 2 ^ (k - 1)) with hc | hc
          · rw [cmpN_lt hc]
            have HC2 := Lib.hid hc
            clear hc
            go_wp2_with fail
            refine (half_any _ _ _ _ _ (hRx.1.drewN q) (by rw [← hRx.1.len]; exact Nat.le_trans hxl (by omega))).mono ?_
            rw [val_digs]
            rintro e w4 ⟨xA4, xn4, xc4, rfl, hNx4, hb4⟩
            have hb4' : Below wr.heap.size wr w4 := ⟨hb4.os, hb4.tape, hb4.output, hb4.size, hb4.block⟩
            have HREL := Lib.hid (show DmRel w g s (val xs) (val ys) (.slice rA2 rn2 rc2) (.slice xA4 xn4 xc4) (.int .i64 ((k : Int) - 1 - 1)) w4 from
              ⟨k - 1, R, 2 * M, rn2, rc2, xn4, xc4, rA2, xA4, qs, by omega, by congr 1; omega, rfl, rfl, hNr.below hb4', hNx4.mono hgl, hBq.below hb4' hgl, HF.out.1, hqL, by rw [HF.out.2.1, two_half hk0, Nat.mul_assoc], HF.out.2.2.1, HC2.out, hbel.trans (hb4'.mono hsz)⟩)
            clear hNx4 hb4 hb4' hNr hRx hBq
            go_wp2
            go_roundw
            case rel => exact HREL.out
            case measure => simp [intOf]; omega
          · have hge2 := cmpN_ge hc
            have HC2 := Lib.hid hc
            clear hc
            have hge2' : 0 ≤ cmpN R (val ys * 2 ^ (k - 1)) := by omega
            have hxr : xn2 ≤ rn2 := by rw [← hRx.1.len, ← hNr.1.len]; exact len_digs_mono HC2.out
            have hrl : rn2 ≤ 900000 := by rw [← hNr.1.len]; exact Nat.le_trans (len_digs_lt (k := n) (Nat.lt_of_le_of_lt (by have := HF.out.2.2.1; omega) HXB.out)) (by omega)
            go_wp2_with fail
            refine (rsub_any _ _ _ _ _ _ _ _ _ (hNr.1.drewN q) (hRx.1.drewN q) hrl hxr (by rw [val_digs, val_digs]; exact HC2.out)).mono ?_
            rw [val_digs, val_digs]
            rintro e w3 ⟨rA3, rn3, rc3, rfl, hN3, hb3⟩
            have hb3' : Below wr.heap.size wr w3 := ⟨hb3.os, hb3.tape, hb3.output, hb3.size, hb3.block⟩
            have hBq3 := hBq.below hb3' hBq.lt
            have hRx3 := hRx.below hb3'
            have HN3 := Lib.hid (hN3.mono (lo' := g + 1) hgl)
            have hbel3 := hbel.trans (hb3'.mono hsz)
            have hqel := el_lt hqL ((k - 1) / 32)
            obtain ⟨hor, hol⟩ := bit_or (el qs ((k - 1) / 32)) (k - 1) hqel (limb_mult hqL hk0 HF.out.2.1)
            have HOL := Lib.hid hol
            have HBV := Lib.hid (bit_val (qs := qs) (k := k) (by rw [HF.out.1]; omega))
            have hf := hBq3.frozen ((k - 1) / 32)
            have hc0 := hBq3.cell (i := (k - 1) / 32) (by rw [HF.out.1]; omega)
            clear hN3 hb3 hb3' hNr hRx hBq hol
            have HOR := Lib.hid hor
            clear hor
            go_wp2_with fail
            rw [HOR.out]
            have hbel4 := hbel3.setCell (p := ⟨g, (k - 1) / 32, none⟩) hgw (.int .u32 ((el qs ((k - 1) / 32) + 2 ^ ((k - 1) % 32) : Nat) : Int))
            have hBq4 := hBq3.set_ ((k - 1) / 32) (el qs ((k - 1) / 32) + 2 ^ ((k - 1) % 32))
            have hRx4 := hRx3.far (g := g) (by omega) ((k - 1) / 32) (.int .u32 ((el qs ((k - 1) / 32) + 2 ^ ((k - 1) % 32) : Nat) : Int))
            have hNr4 := HN3.out.far (g := g) (by omega) ((k - 1) / 32) (.int .u32 ((el qs ((k - 1) / 32) + 2 ^ ((k - 1) % 32) : Nat) : Int))
            generalize w3.setCell ⟨g, (k - 1) / 32, none⟩ (.int .u32 ((el qs ((k - 1) / 32) + 2 ^ ((k - 1) % 32) : Nat) : Int)) = w4 at *
            clear hbel3 hBq3 hRx3 HN3 hf hc0 HOR
            refine (half_any _ _ _ _ _ hRx4.1 (by rw [← hRx4.1.len]; exact Nat.le_trans hxl (by omega))).mono ?_
            rw [val_digs]
            rintro e w5 ⟨xA5, xn5, xc5, rfl, hNx5, hb5⟩
            have HREL := Lib.hid (show DmRel w g s (val xs) (val ys) (.slice rA3 rn3 rc3) (.slice xA5 xn5 xc5) (.int .i64 ((k : Int) - 1 - 1)) w5 from
              ⟨k - 1, R - val ys * 2 ^ (k - 1), 2 * M + 1, rn3, rc3, xn5, xc5, rA3, xA5, _, by omega, by congr 1; omega, rfl, rfl, (hNr4.mono (by omega)).below hb5, hNx5.mono hBq4.lt, hBq4.below hb5 hBq4.lt, by rw [List.length_set]; exact HF.out.1, Lim_set hqL _ _ HOL.out,
                by rw [HBV.out, HF.out.2.1, two_half hk0, Nat.mul_add, Nat.mul_assoc, Nat.mul_one],
                by rw [HBV.out, Nat.mul_add]; have h1 := HF.out.2.2.1; have h2 := HC2.out; omega,
                by have h1 := HF.out.2.2.2; rw [two_half hk0, ← Nat.mul_assoc] at h1; have h2 := HC2.out; omega,
                hbel4.trans (hb5.mono hbel4.size)⟩)
            clear hNx5 hb5 hNr4 hRx4 hBq4 hbel4
            go_wp2
            go_roundw
            case rel => exact HREL.out
            case measure => simp [intOf]; omega
end Go.Proofs.YtehekjlakegkpaaGreat
end
section
namespace Go.Proofs.YtehekjlakegkpaaGreat
open Go.RowKit

set_option maxHeartbeats 800000 in
theorem rgcd_any (A B : Option Addr) (n c m d a b : Nat) (w : World) (ha : Rd w A n c (digs a)) (hb : Rd w B m d (digs b)) (hn : n ≤ 400000) (hm : m ≤ 400000) :
    Calls Tryz.prog 106 #[.slice A n c, .slice B m d] w (Out w (digs (Nat.gcd a b))) := by
  obtain ⟨G, hG⟩ : ∃ G, Nat.gcd a b = G := ⟨_, rfl⟩
  rw [hG]
  have HG := Lib.hid hG
  clear hG
  go_enter Tryz.func106, Tryz.ntmps106
  go_wp2
  go_loopg [0, 1] b (fun k av bv wr => ∃ (A B : Option Addr) (n c m d x : Nat), av = .slice A n c ∧ bv = .slice B m d ∧ Rd wr A n c (digs x) ∧ Rd wr B m d (digs k) ∧ n ≤ 400000 ∧ m ≤ 400000 ∧ Hid (Nat.gcd x k = G) ∧ Below w.heap.size w wr)
  case atStart => exact ⟨A, B, n, c, m, d, a, rfl, rfl, ha, hb, hn, hm, HG.out, Below.refl _ _⟩
  case round =>
    clear ha hb hn hm HG
    obtain ⟨A, B, n, c, m, d, x, rfl, rfl, hA, hB, hn, hm, hg, hbel⟩ := hrel
    have HG := Lib.hid hg.out
    clear hg
    by_cases hm0 : m = 0
    · subst hm0
      have hgk : gk = 0 := len_digs_eq_zero.1 hB.len
      subst hgk
      have HX := Lib.hid (show x = G by have := HG.out; rwa [Nat.gcd_zero_right] at this)
      go_wp2_with fail
      refine (rtrim_any _ _ _ (digs x) _ hA (by omega)).mono ?_
      rw [val_digs, HX.out]
      rintro e w1 ⟨A1, n1, c1, rfl, hN, hb1⟩
      go_wp2
      go_ret
      exact ⟨_, _, _, rfl, hN.mono hbel.size, hbel.trans (hb1.mono hbel.size)⟩
    · have hm1 : 0 < (m : Int) := by omega
      have hk0 : gk ≠ 0 := fun e => hm0 (by rw [← hB.len, e, digs_zero]; rfl)
      go_wp2_with fail
      refine (rdm_any _ _ _ _ _ _ (digs x) (digs gk) _ hA hB hn hm (by rw [val_digs]; exact hk0)).mono ?_
      rw [val_digs, val_digs]
      rintro e w3 ⟨A3, n3, c3, B3, m3, d3, rfl, hN3, hM3, hb3⟩
      have hml := Nat.mod_lt x (Nat.pos_of_ne_zero hk0)
      have hm3 : m3 ≤ 400000 := len_le_of hB hM3.1 (Nat.le_of_lt hml) hm
      have hB3 := hB.below hb3
      have hM := hM3.1
      have hbel3 := hbel.trans (hb3.mono hbel.size)
      have HG2 := Lib.hid (gcd_mod HG.out)
      generalize x % gk = r at *
      clear hN3 hM3 hb3 hA hB hbel
      go_wp2
      go_roundg r
      case rel => exact ⟨_, _, _, _, _, _, gk, rfl, rfl, hB3, hM, hm, hm3, HG2.out, hbel3⟩
      case measure => exact hml

/-- The document's Gcd: the natural and the error. -/
def gcdR (xs ys : List Nat) : List Nat × Int := if fmB xs && fmB ys then (digs (Nat.gcd (val xs) (val ys)), 0) else ([], 1)

set_option maxHeartbeats 800000 in
theorem gcd_bad (A B : Option Addr) (n c m d : Nat) (xs ys : List Nat) (w : World) (ha : Rd w A n c xs) (hb : Rd w B m d ys) (f : (fmB xs && fmB ys) = false) :
    Calls Tryz.prog 113 #[.slice A n c, .slice B m d] w (Out2 w [] 1) := by
  cases fa : fmB xs
  · clear f
    go_enter Tryz.func113, Tryz.ntmps113
    go_wp2_with fail
    refine (formed_any _ _ _ xs _ ha).mono ?_
    rintro e w' ⟨rfl, rfl⟩
    go_wp2
    go_ret2
    exact ⟨_, _, _, rfl, Nw.nil _ _, Below.refl _ _⟩
  · have fb : fmB ys = false := by rw [fa] at f; simpa using f
    clear f
    go_enter Tryz.func113, Tryz.ntmps113
    go_wp2_with fail
    refine (formed_any _ _ _ xs _ ha).mono ?_
    rintro e w' ⟨rfl, rfl⟩
    go_wp2_with fail
    refine (formed_any _ _ _ ys _ hb).mono ?_
    rintro e w' ⟨rfl, rfl⟩
    go_wp2
    go_ret2
    exact ⟨_, _, _, rfl, Nw.nil _ _, Below.refl _ _⟩
set_option maxHeartbeats 800000 in
theorem gcd_yes (A B : Option Addr) (n c m d : Nat) (xs ys : List Nat) (w : World) (ha : Rd w A n c xs) (hb : Rd w B m d ys) (fa : fmB xs = true) (fb : fmB ys = true) :
    Calls Tryz.prog 113 #[.slice A n c, .slice B m d] w (Out2 w (digs (Nat.gcd (val xs) (val ys))) 0) := by
  have hn : n ≤ 400 := by rw [← ha.len]; exact fmB_len fa
  have hm : m ≤ 400 := by rw [← hb.len]; exact fmB_len fb
  have HA := Lib.hid (show Rd w A n c (digs (val xs)) by rw [digs_val ha.lim (fmB_nrm fa)]; exact ha)
  have HB := Lib.hid (show Rd w B m d (digs (val ys)) by rw [digs_val hb.lim (fmB_nrm fb)]; exact hb)
  go_enter Tryz.func113, Tryz.ntmps113
  go_wp2_with fail
  refine (formed_any _ _ _ xs _ ha).mono ?_
  rintro e w' ⟨rfl, rfl⟩
  go_wp2_with fail
  refine (formed_any _ _ _ ys _ hb).mono ?_
  rintro e w' ⟨rfl, rfl⟩
  go_wp2_with fail
  refine (cd_any _ _ _ _ _ _ (val xs) (val ys) _ HA.out HB.out (by omega) (by omega)).mono ?_
  rintro e w1 ⟨A1, n1, c1, rfl, hN1, hb1⟩
  go_wp2
  go_ret2
  exact ⟨_, _, _, rfl, hN1, hb1⟩
/-- limb.Gcd. -/
theorem gcd_any (A B : Option Addr) (n c m d : Nat) (xs ys : List Nat) (w : World) (ha : Rd w A n c xs) (hb : Rd w B m d ys) :
    Calls Tryz.prog 113 #[.slice A n c, .slice B m d] w (Out2 w (gcdR xs ys).1 (gcdR xs ys).2) := by
  cases f : fmB xs && fmB ys
  · have e : gcdR xs ys = ([], 1) := by unfold gcdR; rw [f]; rfl
    rw [e]; exact gcd_bad A B n c m d xs ys w ha hb f
  · have f' := f
    rw [Bool.and_eq_true] at f'
    have e : gcdR xs ys = (digs (Nat.gcd (val xs) (val ys)), 0) := by unfold gcdR; rw [f, if_pos rfl]
    rw [e]; exact gcd_yes A B n c m d xs ys w ha hb f'.1 f'.2

end Go.Proofs.YtehekjlakegkpaaGreat
end
section
namespace Go.Proofs.YtehekjlakegkpaaGreat
open Go.RowKit

theorem div_nat (A B : Option Addr) (n c m d a b : Nat) (w : World) (ha : Rd w A n c (digs a)) (hb : Rd w B m d (digs b)) (la : (digs a).length ≤ 400) (lb : (digs b).length ≤ 400) (h : b ≠ 0) :
    Calls Tryz.prog 122 #[.slice A n c, .slice B m d] w (Out3 w (digs (a / b)) (digs (a % b)) 0) := by
  have := div_yes A B n c m d (digs a) (digs b) w ha hb (fm_digs la) (fm_digs lb) (by
    rw [← hb.len]
    intro e
    exact h (len_digs_eq_zero.1 e))
  rw [val_digs, val_digs] at this; exact this
end Go.Proofs.YtehekjlakegkpaaGreat
end
section
namespace Go.Proofs.YtehekjlakegkpaaGreat
open Go.RowKit

theorem digs_one : digs 1 = [1] := by rw [digs_pos (by omega)]; simp [digs_zero]
theorem digs_low : digs 4294967295 = [4294967295] := by rw [digs_pos (by omega)]; simp [digs_zero]
theorem digs_high : digs 4294967296 = [0, 1] := by rw [digs_pos (by omega)]; simp [digs_one]
theorem add_awake : addR (digs 4294967295) (digs 1) = ([0, 1], 0) := by
  have e : val (digs 4294967295) + val (digs 1) = 4294967296 := by rw [val_digs, val_digs]
  unfold addR
  rw [e, digs_high, digs_low, digs_one]; rfl

/-- few at one, two, three slices that were just laid side by side. -/
theorem few_cells (w : World) (vs : Array Value) (f : Nat → Nat) (N : Nat) (h : ∀ j, j < N → ∃ A c, vs[j]? = some (.slice A (f j) c)) :
    ∀ j, j < N → ∃ A c, (w.alloc (.cells vs 35)).cell? ⟨w.heap.size, j, none⟩ = some (.slice A (f j) c) := fun j hj => by
  obtain ⟨A, c, e⟩ := h j hj
  exact ⟨A, c, (cell_of_row _ w.heap.size j vs 35 (0, 0) (heap_alloc_new w _)).trans e⟩
end Go.Proofs.YtehekjlakegkpaaGreat
end
section
namespace Go.Proofs.YtehekjlakegkpaaGreat
open Go.RowKit

/-- Block g holds two values, and may be written. -/
def Bs (w : World) (T : TypeId) (g : Nat) (u v : Value) : Prop := w.heap[g]? = some (.cells #[u, v] T (0, 0))
section
variable {w w' : World} {T : TypeId} {g : Nat} {u v : Value}
theorem Bs.cells (h : Bs w T g u v) : w.cell? ⟨g, 0, none⟩ = some u ∧ w.cell? ⟨g, 1, none⟩ = some v := ⟨cell_of_row w g 0 _ T (0, 0) h, cell_of_row w g 1 _ T (0, 0) h⟩
theorem Bs.frozen (h : Bs w T g u v) (i : Nat) : w.frozen? ⟨g, i, none⟩ = false := by
  unfold Bs at h
  simp [World.frozen?, h]
theorem Bs.lt (h : Bs w T g u v) : g < w.heap.size := by
  rcases Nat.lt_or_ge g w.heap.size with hlt | hge
  · exact hlt
  · unfold Bs at h; rw [Array.getElem?_eq_none hge] at h; cases h
theorem Bs.new (w : World) (T : TypeId) (u v : Value) : Bs (w.alloc (.cells #[u, v] T)) T w.heap.size u v := heap_alloc_new w _
theorem Bs.alloc (h : Bs w T g u v) (o : Obj) : Bs (w.alloc o) T g u v := (Below.heap_alloc w o g h.lt).trans h
theorem Bs.drewN (h : Bs w T g u v) (k : Nat) : Bs (w.drewN k) T g u v := h
theorem Bs.drew (h : Bs w T g u v) : Bs w.drew T g u v := h
theorem Bs.below {B : Nat} (h : Bs w T g u v) (hb : Below B w w') (hg : g < B) : Bs w' T g u v := (hb.block g hg).trans h
theorem Bs.far (h : Bs w T g u v) {p : Addr} (hp : g ≠ p.block) (x : Value) : Bs (w.setCell p x) T g u v := (Below.heap_setCell w p x g hp).trans h
theorem Bs.set0 (h : Bs w T g u v) (x : Value) : Bs (w.setCell ⟨g, 0, none⟩ x) T g x v := by
  unfold Bs at h ⊢; simp [World.setCell, Array.getElem?_modify, h]
theorem Bs.set1 (h : Bs w T g u v) (x : Value) : Bs (w.setCell ⟨g, 1, none⟩ x) T g u x := by
  unfold Bs at h ⊢; simp [World.setCell, Array.getElem?_modify, h]
end
/-- The world in which block g's two values have been stored. -/
def put2 (w : World) (g : Nat) (u v : Value) : World := (w.setCell ⟨g, 0, none⟩ u).setCell ⟨g, 1, none⟩ v
theorem put2_bs {w : World} {T : TypeId} {g : Nat} {u v x y : Value} (h : Bs w T g x y) : Bs (put2 w g u v) T g u v := (h.set0 u).set1 v
theorem put2_below {w w' : World} {B g : Nat} {u v : Value} (h : Below B w w') (hg : B ≤ g) : Below B w (put2 w' g u v) := (h.setCell (p := ⟨g, 0, none⟩) hg u).setCell (p := ⟨g, 1, none⟩) hg v
theorem put2_self {w : World} {B g : Nat} {u v : Value} (hg : B ≤ g) : Below B w (put2 w g u v) := put2_below (Below.refl _ _) hg
theorem Nw.put2 {w : World} {lo n c g : Nat} {A : Option Addr} {xs : List Nat} {u v : Value} (h : Nw w lo A n c xs) (hg : g < lo) : Nw (put2 w g u v) lo A n c xs := (h.far hg 0 u).far hg 1 v
theorem Rd.put2 {w : World} {n c g : Nat} {A : Option Addr} {xs : List Nat} {u v : Value} (h : Rd w A n c xs) (hg : ∀ b o, A = some ⟨b, o, none⟩ → b ≠ g) : Rd (put2 w g u v) A n c xs :=
  ⟨h.1, h.2.1, h.2.2.1, h.2.2.2.1, fun hn => by
    obtain ⟨b, o, e, hb, hc⟩ := h.at_ hn
    refine ⟨b, o, e, by simpa [Proofs.YtehekjlakegkpaaGreat.put2, World.setCell] using hb, fun j hj => ?_⟩
    have hne := hg b o e
    show ((w.setCell ⟨g, 0, none⟩ u).setCell ⟨g, 1, none⟩ v).cell? ⟨b, o + j, none⟩ = _
    rw [World.cell?_setCell_other _ _ _ _ (by intro e; injection e with e _ _; exact hne e.symm), World.cell?_setCell_other _ _ _ _ (by intro e; injection e with e _ _; exact hne e.symm)]
    exact hc j hj⟩
/-- The end of a call that makes a fraction. -/
def OutR (w : World) (xs ys : List Nat) (e : Ending) (w' : World) : Prop :=
  ∃ A n c B m d, e = .returned (.agg #[.slice A n c, .slice B m d]) ∧ Nw w' w.heap.size A n c xs ∧ Nw w' w.heap.size B m d ys ∧ Below w.heap.size w w'
/-- The end of a call that makes a fraction and an error number. -/
def OutR2 (w : World) (xs ys : List Nat) (k : Int) (e : Ending) (w' : World) : Prop :=
  ∃ A n c B m d, e = .returned (.tuple #[.agg #[.slice A n c, .slice B m d], .int .i64 k]) ∧ Nw w' w.heap.size A n c xs ∧ Nw w' w.heap.size B m d ys ∧ Below w.heap.size w w'
theorem outR_end {w w3 : World} {g lo n c m d : Nat} {A B : Option Addr} {xs ys : List Nat} (hA : Nw w3 lo A n c xs) (hB : Nw w3 lo B m d ys) (hb : Below w.heap.size w w3) (hg : w.heap.size ≤ g) (hlo : g < lo) :
    OutR w xs ys (.returned (.agg #[.slice A n c, .slice B m d])) (put2 w3 g (.slice A n c) (.slice B m d)) :=
  ⟨_, _, _, _, _, _, rfl, (hA.put2 hlo).mono (by omega), (hB.put2 hlo).mono (by omega), put2_below hb hg⟩
theorem outR2_end {w w3 : World} {g lo n c m d : Nat} {A B : Option Addr} {xs ys : List Nat} (k : Int) (hA : Nw w3 lo A n c xs) (hB : Nw w3 lo B m d ys) (hb : Below w.heap.size w w3) (hg : w.heap.size ≤ g) (hlo : g < lo) :
    OutR2 w xs ys k (.returned (.tuple #[.agg #[.slice A n c, .slice B m d], .int .i64 k])) (put2 w3 g (.slice A n c) (.slice B m d)) :=
  ⟨_, _, _, _, _, _, rfl, (hA.put2 hlo).mono (by omega), (hB.put2 hlo).mono (by omega), put2_below hb hg⟩

theorem gcd_nat (A B : Option Addr) (n c m d a b : Nat) (w : World) (ha : Rd w A n c (digs a)) (hb : Rd w B m d (digs b)) (la : (digs a).length ≤ 400) (lb : (digs b).length ≤ 400) :
    Calls Tryz.prog 113 #[.slice A n c, .slice B m d] w (Out2 w (digs (Nat.gcd a b)) 0) := by
  have := gcd_yes A B n c m d (digs a) (digs b) w ha hb (fm_digs la) (fm_digs lb)
  rw [val_digs, val_digs] at this; exact this

set_option maxHeartbeats 400000 in
theorem isZero_yes (A : Option Addr) (c : Nat) (w : World) :
    Calls Tryz.prog 99 #[.slice A 0 c] w fun e w' => e = .returned (.bool true) ∧ w = w' := by
  go_enter Tryz.func99, Tryz.ntmps99
  go_wp2
  go_ret
  exact ⟨rfl, rfl⟩
set_option maxHeartbeats 400000 in
theorem isZero_no (A : Option Addr) (n c : Nat) (w : World) (h : n ≠ 0) :
    Calls Tryz.prog 99 #[.slice A n c] w fun e w' => e = .returned (.bool false) ∧ w = w' := by
  have h1 : ((n : Int) == 0) = false := by simp; omega
  go_enter Tryz.func99, Tryz.ntmps99
  go_wp2
  go_ret
  exact ⟨rfl, rfl⟩
set_option maxHeartbeats 400000 in
theorem isOne_yes (A : Option Addr) (n c : Nat) (w : World) (h : Rd w A n c (digs 1)) :
    Calls Tryz.prog 114 #[.slice A n c] w fun e w' => e = .returned (.bool true) ∧ w = w' := by
  have hl := h.len
  have hd : digs 1 = [1] := digs_one
  rw [hd] at h hl
  have hn : n = 1 := hl.symm
  subst hn
  obtain ⟨b, o, rfl, hbb, hc⟩ := h.at_ (by omega)
  have hc0 := hc 0 (by omega)
  have he : el [1] 0 = 1 := rfl
  rw [he, Nat.add_zero] at hc0
  clear hc h hl hd he
  go_enter Tryz.func114, Tryz.ntmps114
  go_wp2
  go_ret
  exact ⟨rfl, rfl⟩
set_option maxHeartbeats 400000 in
theorem isOne_no (A : Option Addr) (n c g : Nat) (w : World) (h : Rd w A n c (digs g)) (hg : g ≠ 1) :
    Calls Tryz.prog 114 #[.slice A n c] w fun e w' => e = .returned (.bool false) ∧ w = w' := by
  by_cases hn : n = 1
  · subst hn
    have hl := h.len
    have h0 : g ≠ 0 := by
      intro h0; rw [h0, digs_zero] at hl; cases hl
    rw [digs_pos h0] at hl
    have hq : g / 4294967296 = 0 := len_digs_eq_zero.1 (by simpa using hl)
    have hlt : g < 4294967296 := by omega
    obtain ⟨b, o, rfl, hbb, hc⟩ := h.at_ (by omega)
    have hc0 := hc 0 (by omega)
    have he : el (digs g) 0 = g := by rw [digs_pos h0]; show g % 4294967296 = g; omega
    rw [he, Nat.add_zero] at hc0
    clear hc h hl he
    have h1 : ((g : Int) == 1) = false := by simp; omega
    go_enter Tryz.func114, Tryz.ntmps114
    go_wp2
    go_ret
    exact ⟨rfl, rfl⟩
  · have h1 : ((n : Int) == 1) = false := by simp; omega
    clear h
    go_enter Tryz.func114, Tryz.ntmps114
    go_wp2
    go_ret
    exact ⟨rfl, rfl⟩

set_option maxHeartbeats 1600000 in
/-- ratio.reduced. -/
theorem reduced_any (A B : Option Addr) (n c m d a b : Nat) (w : World) (ha : Rd w A n c (digs a)) (hb : Rd w B m d (digs b)) (la : (digs a).length ≤ 400) (lb : (digs b).length ≤ 400) (h : b ≠ 0) :
    Calls Tryz.prog 100 #[.slice A n c, .slice B m d] w (OutR w (digs (a / Nat.gcd a b)) (digs (b / Nat.gcd a b))) := by
  have hg : Nat.gcd a b ≠ 0 := fun e => h (Nat.gcd_eq_zero_iff.1 e).2
  have HG := Lib.hid hg
  have HL := Lib.hid (show (digs (Nat.gcd a b)).length ≤ 400 from Nat.le_trans (len_digs_mono (Nat.gcd_le_right a (by omega))) lb)
  have hB0 := Bs.new w 38 (.slice none 0 0) (.slice none 0 0)
  have hb0 : Below w.heap.size w (w.alloc (.cells #[.slice none 0 0, .slice none 0 0] 38)) := (Below.refl _ _).alloc (Nat.le_refl _) _
  go_enter Tryz.func100, Tryz.ntmps100
  go_wp2_with fail
  generalize w.alloc (Obj.cells #[Value.slice none 0 0, Value.slice none 0 0] 38) = W0 at *
  refine (gcd_nat _ _ _ _ _ _ a b _ (ha.below hb0) (hb.below hb0) la lb).mono ?_
  rintro e w1 ⟨A1, n1, c1, rfl, hN1, hb1⟩
  have hb01 := hb0.trans (hb1.mono hb0.size)
  have hB1 := hB0.below hb1 hB0.lt
  go_wp2_with fail
  refine (div_nat _ _ _ _ _ _ a (Nat.gcd a b) _ (ha.below hb01) hN1.1 la HL.out HG.out).mono ?_
  rintro e w2 ⟨A2, n2, c2, R2, rn2, rc2, rfl, hN2, _, hb2⟩
  have hb02 := hb01.trans (hb2.mono hb01.size)
  have hB2 := hB1.below hb2 hB1.lt
  have hN12 := hN1.below hb2
  go_wp2_with fail
  refine (div_nat _ _ _ _ _ _ b (Nat.gcd a b) _ (hb.below hb02) hN12.1 lb HL.out HG.out).mono ?_
  rintro e w3 ⟨A3, n3, c3, R3, rn3, rc3, rfl, hN3, _, hb3⟩
  have hb03 := hb02.trans (hb3.mono hb02.size)
  have hB3 := hB2.below hb3 hB2.lt
  have hlt := hB0.lt
  have hs1 := hb1.size
  have hs2 := hb2.size
  have hs3 := hb3.size
  have HF := Lib.hid (outR_end (g := w.heap.size) (lo := W0.heap.size) ((hN2.below hb3).mono hs1) (hN3.mono (Nat.le_trans hs1 hs2)) hb03 (Nat.le_refl _) hlt)
  obtain ⟨k0, k1⟩ := hB3.cells
  have f0 := hB3.frozen 0
  have f1 := hB3.frozen 1
  clear hB0 hB1 hB2 hB3 hN1 hN2 hN3 hN12 hb0 hb1 hb2 hb3 hb01 hb02 hb03
  go_wp2
  refine bodyPost_ret (v := .agg #[.slice A2 n2 c2, .slice A3 n3 c3]) (by simp [results, Tryz.results100, go_sem, k0, k1]) rfl ?_
  exact HF.out
end Go.Proofs.YtehekjlakegkpaaGreat
end
