/-
  What limb.sum does: of two slices that read as naturals it makes the natural of their sum, in new memory. For slices of at most a million limbs.
-/
import Derived.Test.YteicihaigkgbnaaTrim
namespace Go.Proofs.Yteicihaigkgbnaa
open Go.RowKit

theorem info50 : (Try.prog.info? 54).map (fun i => (i.zero, i.size, i.bytes)) = some (some (.int .u32 0), 1, 4) := by kernel_rfl
/-- make(Nat, n). -/
theorem mk32 (L : Int) (n : Nat) (hL : L = n) (hn : n ≤ 1000000) (W : World) :
    (Instr.makeSlice 29 (.int .i64 L) (.int .i64 L)).run Try.prog W = .ok (.slice (some ⟨W.heap.size, 0, none⟩) n n) (W.alloc (.cells (vals (zeros n)) 54)) := by
  obtain ⟨i0, hi, hz0, hz1, hz2⟩ := info_parts info50
  subst hL
  have h := run_make_rowN (P := Try.prog) 29 54 i0 (.int .u32 0) Try.underlying29 hi hz0 .i64 .i64 n n (Nat.le_refl _) (by rw [hz2]; omega) (by omega) W
  rw [hz1, Nat.mul_one, vals_made] at h
  exact h

def SumRel (w : World) (n : Nat) (us vs : List Nat) (cv tv : Value) (wr : World) : Prop :=
  ∃ (k q : Nat) (rs : List Nat), k ≤ n ∧ tv = .int .i64 k ∧ cv = .int .u64 q ∧ q ≤ 1 ∧ Blk wr w.heap.size rs ∧ rs.length = n + 1 ∧ Lim rs ∧ Below w.heap.size w wr ∧
    val (rs.take k) + pw k * q = val (us.take k) + val (vs.take k)
theorem SumRel.step {w wr : World} {n k q : Nat} {us vs rs : List Nat} (hx : el us k < 4294967296) (hy : el vs k < 4294967296) (hk : k < n) (hq : q ≤ 1) (hB : Blk wr w.heap.size rs) (hrl : rs.length = n + 1) (hrL : Lim rs) (hbel : Below w.heap.size w wr)
    (heq : val (rs.take k) + pw k * q = val (us.take k) + val (vs.take k)) {S1 S2 : Int} (h1 : S1 = (((q + el us k + el vs k) / 4294967296 : Nat) : Int)) (h2 : S2 = (((q + el us k + el vs k) % 4294967296 : Nat) : Int)) :
    SumRel w n us vs (.int .u64 S1) (.int .i64 ((k : Int) + 1)) (wr.setCell ⟨w.heap.size, k, none⟩ (.int .u32 S2)) := by
  subst h1 h2
  refine ⟨k + 1, (q + el us k + el vs k) / 4294967296, rs.set k ((q + el us k + el vs k) % 4294967296), by omega, rfl, rfl, by omega, hB.set_ _ _, by simp [hrl], Lim_set hrL _ _ (by omega), hbel.setCell (Nat.le_refl _) _, ?_⟩
  rw [carry_step rs k _ (by omega), val_take_step us, val_take_step vs, Nat.mul_add, Nat.mul_add]
  omega
theorem SumRel.last {w wr : World} {n q : Nat} {us vs rs : List Nat} (hu : us.length ≤ n) (hv : vs.length ≤ n) (hq : q ≤ 1) (hB : Blk wr w.heap.size rs) (hrl : rs.length = n + 1) (hrL : Lim rs)
    (heq : val (rs.take n) + pw n * q = val (us.take n) + val (vs.take n)) :
    Blk (wr.setCell ⟨w.heap.size, n, none⟩ (.int .u32 (q : Int))) w.heap.size (rs.set n q) ∧ Lim (rs.set n q) ∧ (rs.set n q).length = n + 1 ∧ val (rs.set n q) = val us + val vs := by
  refine ⟨hB.set_ _ _, Lim_set hrL _ _ (by omega), by simp [hrl], ?_⟩
  have h := val_take_set rs n q (by omega)
  rw [val_take_ge _ _ (by simp [hrl])] at h
  rw [val_take_ge us n hu, val_take_ge vs n hv] at heq
  omega
/-- The end of a function that trims its row and returns it. -/
theorem out_trim {w w1 : World} {g n k N : Nat} {rs : List Nat} (hB : Blk w1 g rs) (hL : Lim rs) (hl : rs.length = n) (hn : n ≤ 9223372036854775807) (hg : w.heap.size ≤ g) (hb : Below w.heap.size w w1) (hv : val rs = N) (hk : k ≤ n) (ht : rs.take k = digs (val rs)) :
    Out w (digs N) (.returned (.slice (some ⟨g, 0, none⟩) k n)) w1 := by
  subst hl hv
  refine ⟨_, _, _, rfl, ?_, hb⟩
  rw [← ht]
  exact (hB.nw hL rfl hn hg).take hk

set_option maxHeartbeats 400000 in
theorem sum_ge (A B : Option Addr) (n c m d : Nat) (xs ys : List Nat) (w : World) (ha : Rd w A n c xs) (hb : Rd w B m d ys) (hn : n ≤ 900000) (hmn : m ≤ n) :
    Calls Try.prog 66 #[.slice A n c, .slice B m d] w (Out w (digs (val xs + val ys))) := by
  have hmk := fun W => mk32 ((n : Int) + 1) (n + 1) (by omega) (by omega) W
  have hlt : ¬ ((n : Int) < (m : Int)) := by omega
  have hdec : decide (n < m) = false := by simp; omega
  have HX := Lib.hid ha.len
  have HY := Lib.hid hb.len
  go_enter Try.func66, Try.ntmps66
  go_wp2
  go_loopw [6, 21] (fun cv tv wr => SumRel w n xs ys cv tv wr) (fun _ tv _ => n - (intOf tv).toNat)
  case atStart => exact ⟨0, 0, zeros (n + 1), Nat.zero_le _, rfl, rfl, Nat.zero_le _, Blk.new _ _, zeros_len _, Lim_zeros _, (Below.refl _ _).alloc (Nat.le_refl _) _, rfl⟩
  case round =>
    obtain ⟨k, q, rs, hk, rfl, rfl, hq, hB, hrl, hrL, hbel, heq⟩ := hrel
    have HE := Lib.hid heq
    have HR := Lib.hid hrl
    clear heq
    have hxk := el_lt ha.lim k
    have hyk := el_lt hb.lim k
    have hf := hB.frozen k
    have hc0 := hB.cell (i := k) (by omega)
    clear hrl hmk
    by_cases hkn : k < n
    · obtain ⟨b, o, rfl, hbb, hcA⟩ := ha.at_ (by omega)
      have hcx := (hbel.cell (p := ⟨b, o + k, none⟩) hbb).trans (hcA k hkn)
      clear hcA
      by_cases hkm : k < m
      · obtain ⟨b2, o2, rfl, hbb2, hcB⟩ := hb.at_ (by omega)
        have hcy := (hbel.cell (p := ⟨b2, o2 + k, none⟩) hbb2).trans (hcB k hkm)
        clear hcB
        go_wp2
        go_roundw
        case rel => exact SumRel.step hxk hyk hkn hq hB HR.out hrL hbel HE.out (by omega) (by omega)
        case measure => simp [intOf]; omega
      · have HZ := Lib.hid (el_ge ys k (by rw [HY.out]; omega))
        go_wp2
        go_roundw
        case rel => exact SumRel.step hxk hyk hkn hq hB HR.out hrL hbel HE.out (by have := HZ.out; omega) (by have := HZ.out; omega)
        case measure => simp [intOf]; omega
    · obtain rfl : k = n := by omega
      have HL := Lib.hid (SumRel.last (by rw [HX.out]; exact Nat.le_refl _) (by rw [HY.out]; omega) hq hB HR.out hrL HE.out)
      go_wp2_with fail
      refine (trimmed_any _ (k + 1) (k + 1) (rs.set k q) _ (HL.out.1.nw HL.out.2.1 HL.out.2.2.1 (by omega) (Nat.le_refl _)).1).mono ?_
      rintro e w' ⟨j, rfl, hj, ht, rfl⟩
      have HT := Lib.hid ht
      clear ht
      go_wp2
      go_ret
      exact out_trim HL.out.1 HL.out.2.1 HL.out.2.2.1 (by omega) (Nat.le_refl _) (hbel.setCell (Nat.le_refl _) _) (HL.out.2.2.2) hj HT.out
set_option maxHeartbeats 400000 in
theorem sum_lt (A B : Option Addr) (n c m d : Nat) (xs ys : List Nat) (w : World) (ha : Rd w A n c xs) (hb : Rd w B m d ys) (hn : n ≤ 900000) (hmn : m < n) :
    Calls Try.prog 66 #[.slice B m d, .slice A n c] w (Out w (digs (val ys + val xs))) := by
  have hmk := fun W => mk32 ((n : Int) + 1) (n + 1) (by omega) (by omega) W
  have hlt : ((m : Int) < (n : Int)) := by omega
  have hdec : decide (m < n) = true := by simp; omega
  have HX := Lib.hid ha.len
  have HY := Lib.hid hb.len
  go_enter Try.func66, Try.ntmps66
  go_wp2
  go_loopw [6, 21] (fun cv tv wr => SumRel w n xs ys cv tv wr) (fun _ tv _ => n - (intOf tv).toNat)
  case atStart => exact ⟨0, 0, zeros (n + 1), Nat.zero_le _, rfl, rfl, Nat.zero_le _, Blk.new _ _, zeros_len _, Lim_zeros _, (Below.refl _ _).alloc (Nat.le_refl _) _, rfl⟩
  case round =>
    obtain ⟨k, q, rs, hk, rfl, rfl, hq, hB, hrl, hrL, hbel, heq⟩ := hrel
    have HE := Lib.hid heq
    have HR := Lib.hid hrl
    clear heq
    have hxk := el_lt ha.lim k
    have hyk := el_lt hb.lim k
    have hf := hB.frozen k
    have hc0 := hB.cell (i := k) (by omega)
    clear hrl hmk
    by_cases hkn : k < n
    · obtain ⟨b, o, rfl, hbb, hcA⟩ := ha.at_ (by omega)
      have hcx := (hbel.cell (p := ⟨b, o + k, none⟩) hbb).trans (hcA k hkn)
      clear hcA
      by_cases hkm : k < m
      · obtain ⟨b2, o2, rfl, hbb2, hcB⟩ := hb.at_ (by omega)
        have hcy := (hbel.cell (p := ⟨b2, o2 + k, none⟩) hbb2).trans (hcB k hkm)
        clear hcB
        go_wp2
        go_roundw
        case rel => exact SumRel.step hxk hyk hkn hq hB HR.out hrL hbel HE.out (by omega) (by omega)
        case measure => simp [intOf]; omega
      · have HZ := Lib.hid (el_ge ys k (by rw [HY.out]; omega))
        go_wp2
        go_roundw
        case rel => exact SumRel.step hxk hyk hkn hq hB HR.out hrL hbel HE.out (by have := HZ.out; omega) (by have := HZ.out; omega)
        case measure => simp [intOf]; omega
    · obtain rfl : k = n := by omega
      have HL := Lib.hid (SumRel.last (by rw [HX.out]; exact Nat.le_refl _) (by rw [HY.out]; omega) hq hB HR.out hrL HE.out)
      go_wp2_with fail
      refine (trimmed_any _ (k + 1) (k + 1) (rs.set k q) _ (HL.out.1.nw HL.out.2.1 HL.out.2.2.1 (by omega) (Nat.le_refl _)).1).mono ?_
      rintro e w' ⟨j, rfl, hj, ht, rfl⟩
      have HT := Lib.hid ht
      clear ht
      go_wp2
      go_ret
      exact out_trim HL.out.1 HL.out.2.1 HL.out.2.2.1 (by omega) (Nat.le_refl _) (hbel.setCell (Nat.le_refl _) _) (HL.out.2.2.2.trans (Nat.add_comm _ _)) hj HT.out
/-- limb.sum. -/
theorem sum_any (A B : Option Addr) (n c m d : Nat) (xs ys : List Nat) (w : World) (ha : Rd w A n c xs) (hb : Rd w B m d ys) (hn : n ≤ 900000) (hm : m ≤ 900000) :
    Calls Try.prog 66 #[.slice A n c, .slice B m d] w (Out w (digs (val xs + val ys))) := by
  rcases Nat.lt_or_ge n m with h | h
  · exact sum_lt B A m d n c ys xs w hb ha hm h
  · exact sum_ge A B n c m d xs ys w ha hb hn h
end Go.Proofs.Yteicihaigkgbnaa
