/-
  What the reference's sub does. For slices that can be read, of at most 900000 limbs, a not less than b.
-/
import Derived.Test.YtcpeofgfppgooaaAdd
import Derived.Test.YtcpeofgfppgooaaSub
namespace Go.Proofs.Ytcpeofgfppgooaa
open Go.RowKit

def RsubRel (w : World) (A1 : Option Addr) (n c1 : Nat) (us vs : List Nat) (cv tv : Value) (wr : World) : Prop :=
  ∃ (k q : Nat) (rs : List Nat), k ≤ n ∧ tv = .int .i64 k ∧ cv = .int .u64 q ∧ q ≤ 1 ∧ Nw wr w.heap.size A1 n c1 rs ∧ Below w.heap.size w wr ∧ rs.drop k = us.drop k ∧
    val (rs.take k) + val (vs.take k) = val (us.take k) + pw k * q
theorem les_small (x t : Nat) (hx : x < 4294967296) (ht : t ≤ 4294967296) : lesR x t = (x + 4294967296 - t) % 4294967296 ∧ lesB x t = if x < t then 1 else 0 := by
  unfold lesR lesB
  rcases Nat.eq_or_lt_of_le ht with e | e
  · subst e; rw [if_neg (by omega), if_pos hx]; omega
  · rw [Nat.mod_eq_of_lt e, Nat.div_eq_of_lt e]; omega
theorem RsubRel.step {w wr : World} {n k q t b o c1 : Nat} {us vs rs : List Nat} (hx : el us k < 4294967296) (hy : el vs k < 4294967296) (hk : k < n) (hq : q ≤ 1) (hN : Nw wr w.heap.size (some ⟨b, o, none⟩) n c1 rs) (hbel : Below w.heap.size w wr)
    (hd : rs.drop k = us.drop k) (heq : val (rs.take k) + val (vs.take k) = val (us.take k) + pw k * q) (ht : t = q + el vs k) {S1 S2 : Int} (h1 : S1 = (lesB (el us k) t : Nat)) (h2 : S2 = (lesR (el us k) t : Nat)) :
    RsubRel w (some ⟨b, o, none⟩) n c1 us vs (.int .u64 S1) (.int .i64 ((k : Int) + 1)) (wr.setCell ⟨b, o + k, none⟩ (.int .u32 S2)) := by
  subst h1 h2
  refine ⟨k + 1, lesB (el us k) t, rs.set k (lesR (el us k) t), by omega, rfl, rfl, ?_, hN.store hk (lesR_lt _ _), hbel.setCell (hN.addr (by omega)).1 _, ?_, dif_step rs us vs k q t (by rw [hN.1.len]; exact hk) hx ht heq⟩
  · unfold lesB; split <;> omega
  · rw [drop_set]; exact drop_succ_of hd

set_option maxHeartbeats 1600000 in
/-- The reference's sub. -/
theorem rsub_any (A B : Option Addr) (n c m d : Nat) (xs ys : List Nat) (w : World) (ha : Rd w A n c xs) (hb : Rd w B m d ys) (hn : n ≤ 900000) (hmn : m ≤ n) (hle : val ys ≤ val xs) :
    Calls Try.prog 37 #[.slice A n c, .slice B m d] w (Out w (digs (val xs - val ys))) := by
  have HX := Lib.hid ha.len
  have HY := Lib.hid hb.len
  have HLE := Lib.hid hle
  clear hle
  go_enter Try.func37, Try.ntmps37
  go_wp2_with (at_builtin; refine wpList_app0 _ rfl (.tmp 9) (.tmp 10) 41 rfl Try.underlying41 info50 _ _ _ xs rfl rfl ha (by omega) ?_; intro A1 c1 w1 hN1 hb1)
  go_loopw [6, 14] (fun cv tv wr => RsubRel w A1 n c1 xs ys cv tv wr) (fun _ tv _ => n - (intOf tv).toNat)
  case atStart => exact ⟨0, 0, xs, Nat.zero_le _, rfl, rfl, Nat.zero_le _, hN1, hb1, rfl, rfl⟩
  case round =>
    obtain ⟨k, q, rs, hk, rfl, rfl, hq, hN, hbel, hd, heq⟩ := hrel
    have HE := Lib.hid heq
    have HD := Lib.hid hd
    have HR := Lib.hid hN.1.len
    clear heq hd hN1 hb1
    have hxk := el_lt ha.lim k
    have hyk := el_lt hb.lim k
    have hsz := hbel.size
    by_cases hkn : k < n
    · obtain ⟨b, o, rfl, hjunk⟩ := hN.1.at_ (by omega)
      clear hjunk
      obtain ⟨_, hlt, hcc, hff⟩ := hN.addr (by omega)
      have hc0 : wr.cell? ⟨b, o + k, none⟩ = some (.int .u32 (el xs k)) := by
        rw [← el_of_drop HD.out]; exact hcc k hkn
      have hf := hff k hkn
      clear hcc hff
      by_cases hkm : k < m
      · obtain ⟨b2, o2, rfl, hbb2, hcB⟩ := hb.at_ (by omega)
        have hcy := (hbel.cell (p := ⟨b2, o2 + k, none⟩) hbb2).trans (hcB k hkm)
        clear hcB
        have HS := Lib.hid (les_small (el xs k) (q + el ys k) hxk (by omega))
        by_cases hbo : el xs k < q + el ys k
        · have hbo' : ((el xs k : Nat) : Int) < (q : Int) + (el ys k : Nat) := by omega
          have HR1 := Lib.hid (fun S2 h2 => RsubRel.step (S1 := 1) (S2 := S2) hxk hyk hkn hq hN hbel HD.out HE.out rfl (by rw [HS.out.2, if_pos hbo]; rfl) h2)
          have HS1 := Lib.hid HS.out.1
          go_wp2
          go_roundw
          case rel => exact HR1.out _ (by rw [HS1.out]; omega)
          case measure => simp [intOf]; omega
        · have hbo' : ¬ (((el xs k : Nat) : Int) < (q : Int) + (el ys k : Nat)) := by omega
          have HR1 := Lib.hid (fun S2 h2 => RsubRel.step (S1 := 0) (S2 := S2) hxk hyk hkn hq hN hbel HD.out HE.out rfl (by rw [HS.out.2, if_neg hbo]; rfl) h2)
          have HS1 := Lib.hid HS.out.1
          go_wp2
          go_roundw
          case rel => exact HR1.out _ (by rw [HS1.out]; omega)
          case measure => simp [intOf]; omega
      · have HZ := Lib.hid (el_ge ys k (by rw [HY.out]; omega))
        have HS := Lib.hid (les_small (el xs k) q hxk (by omega))
        by_cases hbo : el xs k < q
        · have hbo' : ((el xs k : Nat) : Int) < (q : Int) := by omega
          have HR1 := Lib.hid (fun S2 h2 => RsubRel.step (t := q) (S1 := 1) (S2 := S2) hxk hyk hkn hq hN hbel HD.out HE.out (by rw [HZ.out]; rfl) (by rw [HS.out.2, if_pos hbo]; rfl) h2)
          have HS1 := Lib.hid HS.out.1
          go_wp2
          go_roundw
          case rel => exact HR1.out _ (by rw [HS1.out]; omega)
          case measure => simp [intOf]; omega
        · have hbo' : ¬ (((el xs k : Nat) : Int) < (q : Int)) := by omega
          have HR1 := Lib.hid (fun S2 h2 => RsubRel.step (t := q) (S1 := 0) (S2 := S2) hxk hyk hkn hq hN hbel HD.out HE.out (by rw [HZ.out]; rfl) (by rw [HS.out.2, if_neg hbo]; rfl) h2)
          have HS1 := Lib.hid HS.out.1
          go_wp2
          go_roundw
          case rel => exact HR1.out _ (by rw [HS1.out]; omega)
          case measure => simp [intOf]; omega
    · obtain rfl : k = n := by omega
      have HV := Lib.hid (show val rs = val xs - val ys by
        have h0 := HE.out
        rw [val_take_ge rs k (by rw [HR.out]; exact Nat.le_refl _), val_take_ge xs k (by rw [HX.out]; exact Nat.le_refl _), val_take_ge ys k (by rw [HY.out]; exact hmn)] at h0
        have h1 := val_lt hN.1.lim
        rw [HR.out] at h1
        have h2 := HLE.out
        rcases Nat.eq_zero_or_pos q with e | e
        · subst e; omega
        · obtain rfl : q = 1 := by omega
          omega)
      go_wp2_with fail
      refine (rtrim_any _ _ _ rs _ hN.1 (by omega)).mono ?_
      rw [HV.out]
      rintro e w2 ⟨R, j, cr, rfl, hN2, hb2⟩
      have HN := Lib.hid (hN2.mono (lo' := w.heap.size) hsz)
      have HB := Lib.hid (hbel.trans (hb2.mono hsz))
      clear hN2 hb2 hN hbel
      go_wp2
      go_ret
      exact ⟨_, _, _, rfl, HN.out, HB.out⟩
end Go.Proofs.Ytcpeofgfppgooaa
