/-
  What the reference's add, Add do: the natural of the sum, in new memory. For slices that can be read, of at most 900000 limbs.
-/
import Derived.Test.YteicihaigkgbnaaCmp
namespace Go.Proofs.Yteicihaigkgbnaa
open Go.RowKit

def AddRel (w : World) (M : Nat) (xs ys : List Nat) (ov cv tv : Value) (wr : World) : Prop :=
  ∃ (k q c : Nat) (A : Option Addr) (rs : List Nat), tv = .int .i64 k ∧ cv = .int .u64 q ∧ ov = .slice A k c ∧ (k ≤ M ∨ (k = M + 1 ∧ q = 0)) ∧ q ≤ 1 ∧ Ow wr w.heap.size A k c rs ∧ Below w.heap.size w wr ∧
    val rs + pw k * q = val (xs.take k) + val (ys.take k)
theorem AddRel.step {w wr w1 : World} {n m M k q c c1 : Nat} {A A1 : Option Addr} {xs ys rs : List Nat} (hx : el xs k < 4294967296) (hy : el ys k < 4294967296) (hnM : n ≤ M) (hmM : m ≤ M) (hk : k < M ∨ (k = M ∧ q = 1)) (hq : q ≤ 1)
    (hO : Ow wr w.heap.size A k c rs) (hbel : Below w.heap.size w wr) (heq : val rs + pw k * q = val (xs.take k) + val (ys.take k)) (hxl : xs.length ≤ n) (hyl : ys.length ≤ m) {v : Value}
    (ho : Ow w1 w.heap.size A1 (k + 1) c1 (rs ++ [(q + el xs k + el ys k) % 4294967296])) (hg : (wr.alloc (.cells #[v] 54)).grownBy w1 (Value.ownBlock (.slice A k c)))
    {S1 : Int} (h1 : S1 = (((q + el xs k + el ys k) / 4294967296 : Nat) : Int)) :
    AddRel w M xs ys (.slice A1 (k + 1) c1) (.int .u64 S1) (.int .i64 ((k : Int) + 1)) w1 := by
  subst h1
  refine ⟨k + 1, (q + el xs k + el ys k) / 4294967296, c1, A1, _, rfl, rfl, rfl, ?_, by omega, ho, ?_, ?_⟩
  · rcases hk with hk | ⟨rfl, rfl⟩
    · left; omega
    · right
      rw [el_ge xs k (by omega), el_ge ys k (by omega)]
      exact ⟨rfl, rfl⟩
  · exact (hbel.alloc hbel.size _).grown hg (Nat.le_trans hbel.size (by simp)) hO.lt
  · have hl := hO.len
    have e1 : val (rs ++ [(q + el xs k + el ys k) % 4294967296]) = val rs + pw k * ((q + el xs k + el ys k) % 4294967296) := by
      rw [val_append, hl]; simp [val]
    rw [e1, pw_succ, Nat.mul_comm 4294967296, Nat.mul_assoc, Nat.add_assoc, ← Nat.mul_add, Nat.mod_add_div, val_take_step xs, val_take_step ys, Nat.mul_add, Nat.mul_add]
    omega

set_option maxHeartbeats 1600000 in
/-- The reference's add. -/
theorem radd_any (A B : Option Addr) (n c m d : Nat) (xs ys : List Nat) (w : World) (ha : Rd w A n c xs) (hb : Rd w B m d ys) (hn : n ≤ 800000) (hm : m ≤ 800000) :
    Calls Try.prog 50 #[.slice A n c, .slice B m d] w (Out w (digs (val xs + val ys))) := by
  have HX := Lib.hid ha.len
  have HY := Lib.hid hb.len
  obtain ⟨M, hnM, hmM, hMle, HM⟩ : ∃ M, n ≤ M ∧ m ≤ M ∧ M ≤ 800000 ∧ Hid (M = n ∨ M = m) := by
    rcases Nat.le_total n m with h | h
    · exact ⟨m, h, Nat.le_refl _, hm, .inr rfl⟩
    · exact ⟨n, Nat.le_refl _, h, hn, .inl rfl⟩
  go_enter Try.func50, Try.ntmps50
  go_wp2
  go_loopw [5, 6, 7] (fun ov cv tv wr => AddRel w M xs ys ov cv tv wr) (fun _ _ tv _ => M + 1 - (intOf tv).toNat)
  case atStart => exact ⟨0, 0, 0, none, [], rfl, rfl, rfl, .inl (Nat.zero_le _), Nat.zero_le _, Ow.nil _ _, Below.refl _ _, rfl⟩
  case round =>
    obtain ⟨k, q, cc, AA, rs, rfl, rfl, rfl, hkM, hq, hO, hbel, heq⟩ := hrel
    have HE := Lib.hid heq
    clear heq
    have hxk := el_lt ha.lim k
    have hyk := el_lt hb.lim k
    have hsz := hbel.size
    by_cases hcont : k < M ∨ (k = M ∧ q = 1)
    · by_cases hkn : k < n <;> by_cases hkm : k < m
      · obtain ⟨b, o, rfl, hbb, hcA⟩ := ha.at_ (by omega)
        have hcx := (hbel.cell (p := ⟨b, o + k, none⟩) hbb).trans (hcA k hkn)
        clear hcA
        obtain ⟨b2, o2, rfl, hbb2, hcB⟩ := hb.at_ (by omega)
        have hcy := (hbel.cell (p := ⟨b2, o2 + k, none⟩) hbb2).trans (hcB k hkm)
        clear hcB
        go_wp2_with (at_builtin; (refine wpList_app _ rfl (.tmp 46) (.tmp 49) 23 rfl w.heap.size Try.underlying23 info50 _ _ k cc 1 1 rs [(q + el xs k + el ys k) % 4294967296] rfl rfl (hO.alloc _) (rd_one wr _ _ (by skip; omega) (by omega)) (by omega) (by simp; omega) ?_; intro A1 c1 w1 ho hg))
        have R := AddRel.step (n := n) (m := m) hxk hyk hnM hmM hcont hq hO hbel HE.out (by have := HX.out; omega) (by have := HY.out; omega) ho hg (S1 := ((q : Int) + (el xs k : Nat) + (el ys k : Nat)) / 4294967296) (by skip; omega)
        clear ho hg hO hbel
        go_wp2
        go_roundw
        case rel => exact R
        case measure => simp [intOf]; omega
      · obtain ⟨b, o, rfl, hbb, hcA⟩ := ha.at_ (by omega)
        have hcx := (hbel.cell (p := ⟨b, o + k, none⟩) hbb).trans (hcA k hkn)
        clear hcA
        have HZY := Lib.hid (el_ge ys k (by rw [HY.out]; omega))
        go_wp2_with (at_builtin; (refine wpList_app _ rfl (.tmp 46) (.tmp 49) 23 rfl w.heap.size Try.underlying23 info50 _ _ k cc 1 1 rs [(q + el xs k + el ys k) % 4294967296] rfl rfl (hO.alloc _) (rd_one wr _ _ (by have := HZY.out; omega) (by omega)) (by omega) (by simp; omega) ?_; intro A1 c1 w1 ho hg))
        have R := AddRel.step (n := n) (m := m) hxk hyk hnM hmM hcont hq hO hbel HE.out (by have := HX.out; omega) (by have := HY.out; omega) ho hg (S1 := ((q : Int) + (el xs k : Nat)) / 4294967296) (by have := HZY.out; omega)
        clear ho hg hO hbel
        go_wp2
        go_roundw
        case rel => exact R
        case measure => simp [intOf]; omega
      · have HZX := Lib.hid (el_ge xs k (by rw [HX.out]; omega))
        obtain ⟨b2, o2, rfl, hbb2, hcB⟩ := hb.at_ (by omega)
        have hcy := (hbel.cell (p := ⟨b2, o2 + k, none⟩) hbb2).trans (hcB k hkm)
        clear hcB
        go_wp2_with (at_builtin; (refine wpList_app _ rfl (.tmp 46) (.tmp 49) 23 rfl w.heap.size Try.underlying23 info50 _ _ k cc 1 1 rs [(q + el xs k + el ys k) % 4294967296] rfl rfl (hO.alloc _) (rd_one wr _ _ (by have := HZX.out; omega) (by omega)) (by omega) (by simp; omega) ?_; intro A1 c1 w1 ho hg))
        have R := AddRel.step (n := n) (m := m) hxk hyk hnM hmM hcont hq hO hbel HE.out (by have := HX.out; omega) (by have := HY.out; omega) ho hg (S1 := ((q : Int) + (el ys k : Nat)) / 4294967296) (by have := HZX.out; omega)
        clear ho hg hO hbel
        go_wp2
        go_roundw
        case rel => exact R
        case measure => simp [intOf]; omega
      · have hq1 : (0 : Int) < (q : Int) := by have := HM.out; omega
        have HZX := Lib.hid (el_ge xs k (by rw [HX.out]; omega))
        have HZY := Lib.hid (el_ge ys k (by rw [HY.out]; omega))
        go_wp2_with (at_builtin; (refine wpList_app _ rfl (.tmp 46) (.tmp 49) 23 rfl w.heap.size Try.underlying23 info50 _ _ k cc 1 1 rs [(q + el xs k + el ys k) % 4294967296] rfl rfl (hO.alloc _) (rd_one wr _ _ (by have := HZX.out; have := HZY.out; omega) (by omega)) (by omega) (by simp; omega) ?_; intro A1 c1 w1 ho hg))
        have R := AddRel.step (n := n) (m := m) hxk hyk hnM hmM hcont hq hO hbel HE.out (by have := HX.out; omega) (by have := HY.out; omega) ho hg (S1 := ((q : Int)) / 4294967296) (by have := HZX.out; have := HZY.out; omega)
        clear ho hg hO hbel
        go_wp2
        go_roundw
        case rel => exact R
        case measure => simp [intOf]; omega
    · obtain rfl : q = 0 := by omega
      have hkn : ¬ (k : Int) < (n : Int) := by omega
      have hkm : ¬ (k : Int) < (m : Int) := by omega
      have HV := Lib.hid (show val rs = val xs + val ys by
        have h0 := HE.out
        rw [val_take_ge xs k (by rw [HX.out]; omega), val_take_ge ys k (by rw [HY.out]; omega)] at h0
        omega)
      go_wp2_with fail
      refine (rtrim_any _ _ _ rs _ hO.nw.1 (by omega)).mono ?_
      rw [HV.out]
      rintro e w1 ⟨R, j, cr, rfl, hN, hb1⟩
      have HN := Lib.hid (hN.mono (lo' := w.heap.size) hsz)
      have HB := Lib.hid (hbel.trans (hb1.mono hsz))
      clear hN hb1 hO hbel
      go_wp2
      go_ret
      exact ⟨_, _, _, rfl, HN.out, HB.out⟩
end Go.Proofs.Yteicihaigkgbnaa
