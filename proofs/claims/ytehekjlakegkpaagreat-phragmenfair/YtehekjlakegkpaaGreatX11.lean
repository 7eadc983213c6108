/-
  What (limb.steps).idle and applied do. For steps that make R0 and R1 of two naturals that can be read.
  What the reference's add, Add do: the natural of the sum, in new memory. For slices that can be read, of at most 900000 limbs.
  What the reference's sub does. For slices that can be read, of at most 900000 limbs, a not less than b.
  What limb.Sub, limb.Cmp and the reference's Sub and Cmp do. For slices that can be read.
-/
import Derived.Test.YtehekjlakegkpaaGreatX10
import Derived.Deep.RegionHeld3
import Derived.Test.YtehekjlakegkpaaGreatX07
import Derived.Test.YtehekjlakegkpaaGreatX08
section
namespace Go.Proofs.YtehekjlakegkpaaGreat
open Go.RowKit

set_option maxHeartbeats 400000 in
theorem idle_any (a0 b0 a1 b1 : Nat) (ev z : Bool) (w : World) (hz : ((b0 : Int) == 0) = z) :
    Calls Tryz.prog 180 #[.agg #[.int .u64 a0, .int .u64 b0, .int .u64 a1, .int .u64 b1, .bool ev]] w fun e w' => e = .returned (.bool z) ∧ Below w.heap.size w w' := by
  go_enter Tryz.func180, Tryz.ntmps180
  go_wp2
  go_ret
  exact ⟨rfl, (Below.refl _ _).alloc (Nat.le_refl _) _⟩

set_option maxHeartbeats 1600000 in
theorem applied_t (A B : Option Addr) (n c m d a0 b0 a1 b1 R0 R1 : Nat) (xs ys : List Nat) (w : World) (ha : Rd w A n c xs) (hb : Rd w B m d ys)
    (h0 : ∀ W, Rd W A n c xs → Rd W B m d ys → Calls Tryz.prog 215 #[.slice A n c, .int .u64 a0, .slice B m d, .int .u64 b0] W (Out W (digs R0)))
    (h1 : ∀ W, Rd W A n c xs → Rd W B m d ys → Calls Tryz.prog 215 #[.slice B m d, .int .u64 b1, .slice A n c, .int .u64 a1] W (Out W (digs R1))) :
    Calls Tryz.prog 181 #[.agg #[.int .u64 a0, .int .u64 b0, .int .u64 a1, .int .u64 b1, .bool true], .slice A n c, .slice B m d] w (OutQ w R0 R1) := by
  have H0 := Lib.hid h0
  have H1 := Lib.hid h1
  clear h0 h1
  go_enter Tryz.func181, Tryz.ntmps181
  go_wp2
  have hB : Bst (w.alloc (Obj.cells #[Value.int IntKind.u64 (a0 : Int), Value.int IntKind.u64 (b0 : Int), Value.int IntKind.u64 (a1 : Int), Value.int IntKind.u64 (b1 : Int), Value.bool true] 217)) w.heap.size a0 b0 a1 b1 true := heap_alloc_new w _
  have hbw : Below w.heap.size w (w.alloc (Obj.cells #[Value.int IntKind.u64 (a0 : Int), Value.int IntKind.u64 (b0 : Int), Value.int IntKind.u64 (a1 : Int), Value.int IntKind.u64 (b1 : Int), Value.bool true] 217)) := (Below.refl _ _).alloc (Nat.le_refl _) _
  generalize w.alloc (Obj.cells #[Value.int IntKind.u64 (a0 : Int), Value.int IntKind.u64 (b0 : Int), Value.int IntKind.u64 (a1 : Int), Value.int IntKind.u64 (b1 : Int), Value.bool true] 217) = W0 at *
  have K0 := hB.cells
  have haW := ha.below hbw
  have hbW := hb.below hbw
  have hsz := hbw.size
  have hlt := hB.lt
  go_region_held3 (fun w' => w'.cell? ⟨w.heap.size, 0, none⟩ = some (.int .u64 a0) ∧ w'.cell? ⟨w.heap.size, 1, none⟩ = some (.int .u64 b0) ∧ w'.cell? ⟨w.heap.size, 2, none⟩ = some (.int .u64 a1) ∧ w'.cell? ⟨w.heap.size, 3, none⟩ = some (.int .u64 b1) ∧ w'.cell? ⟨w.heap.size, 4, none⟩ = some (.bool true))
    (first | exact K0 | exact K1 | exact K2)
    (first
      | (go_at_call 215; (with_reducible refine (H0.out _ ?_ ?_).mono ?_); exact haW.drew; exact hbW.drew; rintro e w1 ⟨A1, n1, c1, rfl, hN1, hb1⟩; have hb1' : Below W0.heap.size W0 w1 := ⟨hb1.os, hb1.tape, hb1.output, hb1.size, hb1.block⟩; have K1 := (show Bst w1 w.heap.size a0 b0 a1 b1 true from (hb1'.block _ hlt).trans hB).cells)
      | (go_at_call 215; (with_reducible refine (H1.out _ ?_ ?_).mono ?_); exact haW.below hb1'; exact hbW.below hb1'; rintro e w2 ⟨A2, n2, c2, rfl, hN2, hb2⟩; have K2 := (show Bst w2 w.heap.size a0 b0 a1 b1 true from (hb2.block _ (Nat.lt_of_lt_of_le hlt hb1'.size)).trans ((hb1'.block _ hlt).trans hB)).cells))
  all_goals
    have HF := Lib.hid (show OutQ w R0 R1 (.returned (.tuple #[.slice A1 n1 c1, .slice A2 n2 c2])) w2 from
      ⟨_, _, _, _, _, _, rfl, (hN1.mono hsz).below hb2, hN2.mono (Nat.le_trans hsz hb1'.size), (hbw.trans (hb1'.mono hsz)).trans (hb2.mono (Nat.le_trans hsz hb1'.size))⟩)
    go_wp2
    go_ret2
    exact HF.out
set_option maxHeartbeats 1600000 in
theorem applied_f (A B : Option Addr) (n c m d a0 b0 a1 b1 R0 R1 : Nat) (xs ys : List Nat) (w : World) (ha : Rd w A n c xs) (hb : Rd w B m d ys)
    (h0 : ∀ W, Rd W A n c xs → Rd W B m d ys → Calls Tryz.prog 215 #[.slice B m d, .int .u64 b0, .slice A n c, .int .u64 a0] W (Out W (digs R0)))
    (h1 : ∀ W, Rd W A n c xs → Rd W B m d ys → Calls Tryz.prog 215 #[.slice A n c, .int .u64 a1, .slice B m d, .int .u64 b1] W (Out W (digs R1))) :
    Calls Tryz.prog 181 #[.agg #[.int .u64 a0, .int .u64 b0, .int .u64 a1, .int .u64 b1, .bool false], .slice A n c, .slice B m d] w (OutQ w R0 R1) := by
  have H0 := Lib.hid h0
  have H1 := Lib.hid h1
  clear h0 h1
  go_enter Tryz.func181, Tryz.ntmps181
  go_wp2
  have hB : Bst (w.alloc (Obj.cells #[Value.int IntKind.u64 (a0 : Int), Value.int IntKind.u64 (b0 : Int), Value.int IntKind.u64 (a1 : Int), Value.int IntKind.u64 (b1 : Int), Value.bool false] 217)) w.heap.size a0 b0 a1 b1 false := heap_alloc_new w _
  have hbw : Below w.heap.size w (w.alloc (Obj.cells #[Value.int IntKind.u64 (a0 : Int), Value.int IntKind.u64 (b0 : Int), Value.int IntKind.u64 (a1 : Int), Value.int IntKind.u64 (b1 : Int), Value.bool false] 217)) := (Below.refl _ _).alloc (Nat.le_refl _) _
  generalize w.alloc (Obj.cells #[Value.int IntKind.u64 (a0 : Int), Value.int IntKind.u64 (b0 : Int), Value.int IntKind.u64 (a1 : Int), Value.int IntKind.u64 (b1 : Int), Value.bool false] 217) = W0 at *
  have K0 := hB.cells
  have haW := ha.below hbw
  have hbW := hb.below hbw
  have hsz := hbw.size
  have hlt := hB.lt
  go_region_held3 (fun w' => w'.cell? ⟨w.heap.size, 0, none⟩ = some (.int .u64 a0) ∧ w'.cell? ⟨w.heap.size, 1, none⟩ = some (.int .u64 b0) ∧ w'.cell? ⟨w.heap.size, 2, none⟩ = some (.int .u64 a1) ∧ w'.cell? ⟨w.heap.size, 3, none⟩ = some (.int .u64 b1) ∧ w'.cell? ⟨w.heap.size, 4, none⟩ = some (.bool false))
    (first | exact K0 | exact K1 | exact K2)
    (first
      | (go_at_call 215; (with_reducible refine (H0.out _ ?_ ?_).mono ?_); exact haW.drew; exact hbW.drew; rintro e w1 ⟨A1, n1, c1, rfl, hN1, hb1⟩; have hb1' : Below W0.heap.size W0 w1 := ⟨hb1.os, hb1.tape, hb1.output, hb1.size, hb1.block⟩; have K1 := (show Bst w1 w.heap.size a0 b0 a1 b1 false from (hb1'.block _ hlt).trans hB).cells)
      | (go_at_call 215; (with_reducible refine (H1.out _ ?_ ?_).mono ?_); exact haW.below hb1'; exact hbW.below hb1'; rintro e w2 ⟨A2, n2, c2, rfl, hN2, hb2⟩; have K2 := (show Bst w2 w.heap.size a0 b0 a1 b1 false from (hb2.block _ (Nat.lt_of_lt_of_le hlt hb1'.size)).trans ((hb1'.block _ hlt).trans hB)).cells))
  all_goals
    have HF := Lib.hid (show OutQ w R0 R1 (.returned (.tuple #[.slice A1 n1 c1, .slice A2 n2 c2])) w2 from
      ⟨_, _, _, _, _, _, rfl, (hN1.mono hsz).below hb2, hN2.mono (Nat.le_trans hsz hb1'.size), (hbw.trans (hb1'.mono hsz)).trans (hb2.mono (Nat.le_trans hsz hb1'.size))⟩)
    go_wp2
    go_ret2
    exact HF.out
end Go.Proofs.YtehekjlakegkpaaGreat
end
section
namespace Go.Proofs.YtehekjlakegkpaaGreat
open Go.RowKit

def AddRel (w : World) (M : Nat) (xs ys : List Nat) (ov cv tv : Value) (wr : World) : Prop :=
  ∃ (k q c : Nat) (A : Option Addr) (rs : List Nat), tv = .int .i64 k ∧ cv = .int .u64 q ∧ ov = .slice A k c ∧ (k ≤ M ∨ (k = M + 1 ∧ q = 0)) ∧ q ≤ 1 ∧ Ow wr w.heap.size A k c rs ∧ Below w.heap.size w wr ∧
    val rs + pw k * q = val (xs.take k) + val (ys.take k)
theorem AddRel.step {w wr w1 : World} {n m M k q c c1 : Nat} {A A1 : Option Addr} {xs ys rs : List Nat} (hx : el xs k < 4294967296) (hy : el ys k < 4294967296) (hnM : n ≤ M) (hmM : m ≤ M) (hk : k < M ∨ (k = M ∧ q = 1)) (hq : q ≤ 1)
    (hO : Ow wr w.heap.size A k c rs) (hbel : Below w.heap.size w wr) (heq : val rs + pw k * q = val (xs.take k) + val (ys.take k)) (hxl : xs.length ≤ n) (hyl : ys.length ≤ m) {v : Value}
    (ho : Ow w1 w.heap.size A1 (k + 1) c1 (rs ++ [(q + el xs k + el ys k) % 4294967296])) (hg : (wr.alloc (.cells #[v] 69)).grownBy w1 (Value.ownBlock (.slice A k c)))
    {S1 : Int} (h1 : S1 = (((q + el xs k + el ys k) / 4294967296 : Nat) : Int)) :
    AddRel w M xs ys (.slice A1 (k + 1) c1) (.int .u64 S1) (.int .i64 ((k : Int) + 1)) w1 := by
  subst h1
  refine ⟨k + 1, (q + el xs k + el ys k) / 4294967296, c1, A1, _, rfl, rfl, rfl, ?_, by omega, ho, ?_, ?_⟩
  · rcases hk with hk | ⟨rfl, rfl⟩
    · left; omega
    · right
      rw [el_ge xs k (by omega), el_ge ys k (by omega)]
      exact ⟨rfl, rfl⟩
  · exact (hbel.alloc hbel.size _).grown hg (Nat.le_trans hbel.size (by simp)) hO.lt
  · have hl := hO.len
    have e1 : val (rs ++ [(q + el xs k + el ys k) % 4294967296]) = val rs + pw k * ((q + el xs k + el ys k) % 4294967296) := by
      rw [val_append, hl]; simp [val]
    rw [e1, pw_succ, Nat.mul_comm 4294967296, Nat.mul_assoc, Nat.add_assoc, ← Nat.mul_add, Nat.mod_add_div, val_take_step xs, val_take_step ys, Nat.mul_add, Nat.mul_add]
    omega

set_option maxHeartbeats 1600000 in
/-- The reference's add. -/
theorem radd_any (A B : Option Addr) (n c m d : Nat) (xs ys : List Nat) (w : World) (ha : Rd w A n c xs) (hb : Rd w B m d ys) (hn : n ≤ 800000) (hm : m ≤ 800000) :
    Calls Tryz.prog 116 #[.slice A n c, .slice B m d] w (Out w (digs (val xs + val ys))) := by
  have HX := Lib.hid ha.len
  have HY := Lib.hid hb.len
  obtain ⟨M, hnM, hmM, hMle, HM⟩ : ∃ M, n ≤ M ∧ m ≤ M ∧ M ≤ 800000 ∧ Hid (M = n ∨ M = m) := by
    rcases Nat.le_total n m with h | h
    · exact ⟨m, h, Nat.le_refl _, hm, .inr rfl⟩
    · exact ⟨n, Nat.le_refl _, h, hn, .inl rfl⟩
  go_enter Tryz.func116, Tryz.ntmps116
  go_wp2
  go_loopw [5, 6, 7] (fun ov cv tv wr => AddRel w M xs ys ov cv tv wr) (fun _ _ tv _ => M + 1 - (intOf tv).toNat)
  case atStart => exact ⟨0, 0, 0, none, [], rfl, rfl, rfl, .inl (Nat.zero_le _), Nat.zero_le _, Ow.nil _ _, Below.refl _ _, rfl⟩
  case round =>
    obtain ⟨k, q, cc, AA, rs, rfl, rfl, rfl, hkM, hq, hO, hbel, heq⟩ := hrel
    have HE := Lib.hid heq
    clear heq
    have hxk := el_lt ha.lim k
    have hyk := el_lt hb.lim k
    have hsz := hbel.size
    by_cases hcont : k < M ∨ (k = M ∧ q = 1)
    · by_cases hkn : k < n <;> by_cases hkm : k < m
      · obtain ⟨b, o, rfl, hbb, hcA⟩ := ha.at_ (by omega)
        have hcx := (hbel.cell (p := ⟨b, o + k, none⟩) hbb).trans (hcA k hkn)
        clear hcA
        obtain ⟨b2, o2, rfl, hbb2, hcB⟩ := hb.at_ (by omega)
        have hcy := (hbel.cell (p := ⟨b2, o2 + k, none⟩) hbb2).trans (hcB k hkm)
        clear hcB
        go_wp2_with (at_builtin; (refine wpList_app _ rfl (.tmp 46) (.tmp 49) 50 rfl w.heap.size Tryz.underlying50 info50 _ _ k cc 1 1 rs [(q + el xs k + el ys k) % 4294967296] rfl rfl (hO.alloc _) (rd_one wr _ _ (by skip; omega) (by omega)) (by omega) (by simp; omega) ?_; intro A1 c1 w1 ho hg))
        have R := AddRel.step (n := n) (m := m) hxk hyk hnM hmM hcont hq hO hbel HE.out (by have := HX.out; omega) (by have := HY.out; omega) ho hg (S1 := ((q : Int) + (el xs k : Nat) + (el ys k : Nat)) / 4294967296) (by skip; omega)
        clear ho hg hO hbel
        go_wp2
        go_roundw
        case rel => exact R
        case measure => simp [intOf]; omega
      · obtain ⟨b, o, rfl, hbb, hcA⟩ := ha.at_ (by omega)
        have hcx := (hbel.cell (p := ⟨b, o + k, none⟩) hbb).trans (hcA k hkn)
        clear hcA
        have HZY := Lib.hid (el_ge ys k (by rw [HY.out]; omega))
        go_wp2_with (at_builtin; (refine wpList_app _ rfl (.tmp 46) (.tmp 49) 50 rfl w.heap.size Tryz.underlying50 info50 _ _ k cc 1 1 rs [(q + el xs k + el ys k) % 4294967296] rfl rfl (hO.alloc _) (rd_one wr _ _ (by have := HZY.out; omega) (by omega)) (by omega) (by simp; omega) ?_; intro A1 c1 w1 ho hg))
        have R := AddRel.step (n := n) (m := m) hxk hyk hnM hmM hcont hq hO hbel HE.out (by have := HX.out; omega) (by have := HY.out; omega) ho hg (S1 := ((q : Int) + (el xs k : Nat)) / 4294967296) (by have := HZY.out; omega)
        clear ho hg hO hbel
        go_wp2
        go_roundw
        case rel => exact R
        case measure => simp [intOf]; omega
      · have HZX := Lib.hid (el_ge xs k (by rw [HX.out]; omega))
        obtain ⟨b2, o2, rfl, hbb2, hcB⟩ := hb.at_ (by omega)
        have hcy := (hbel.cell (p := ⟨b2, o2 + k, none⟩) hbb2).trans (hcB k hkm)
        clear hcB
        go_wp2_with (at_builtin; (refine wpList_app _ rfl (.tmp 46) (.tmp 49) 50 rfl w.heap.size Tryz.underlying50 info50 _ _ k cc 1 1 rs [(q + el xs k + el ys k) % 4294967296] rfl rfl (hO.alloc _) (rd_one wr _ _ (by have := HZX.out; omega) (by omega)) (by omega) (by simp; omega) ?_; intro A1 c1 w1 ho hg))
        have R := AddRel.step (n := n) (m := m) hxk hyk hnM hmM hcont hq hO hbel HE.out (by have := HX.out; omega) (by have := HY.out; omega) ho hg (S1 := ((q : Int) + (el ys k : Nat)) / 4294967296) (by have := HZX.out; omega)
        clear ho hg hO hbel
        go_wp2
        go_roundw
        case rel => exact R
        case measure => simp [intOf]; omega
      · have hq1 : (0 : Int) < (q : Int) := by have := HM.out; omega
        have HZX := Lib.hid (el_ge xs k (by rw [HX.out]; omega))
        have HZY := Lib.hid (el_ge ys k (by rw [HY.out]; omega))
        go_wp2_with (at_builtin; (refine wpList_app _ rfl (.tmp 46) (.tmp 49) 50 rfl w.heap.size Tryz.underlying50 info50 _ _ k cc 1 1 rs [(q + el xs k + el ys k) % 4294967296] rfl rfl (hO.alloc _) (rd_one wr _ _ (by have := HZX.out; have := HZY.out; omega) (by omega)) (by omega) (by simp; omega) ?_; intro A1 c1 w1 ho hg))
        have R := AddRel.step (n := n) (m := m) hxk hyk hnM hmM hcont hq hO hbel HE.out (by have := HX.out; omega) (by have := HY.out; omega) ho hg (S1 := ((q : Int)) / 4294967296) (by have := HZX.out; have := HZY.out; omega)
        clear ho hg hO hbel
        go_wp2
        go_roundw
        case rel => exact R
        case measure => simp [intOf]; omega
    · obtain rfl : q = 0 := by omega
      have hkn : ¬ (k : Int) < (n : Int) := by omega
      have hkm : ¬ (k : Int) < (m : Int) := by omega
      have HV := Lib.hid (show val rs = val xs + val ys by
        have h0 := HE.out
        rw [val_take_ge xs k (by rw [HX.out]; omega), val_take_ge ys k (by rw [HY.out]; omega)] at h0
        omega)
      go_wp2_with fail
      refine (rtrim_any _ _ _ rs _ hO.nw.1 (by omega)).mono ?_
      rw [HV.out]
      rintro e w1 ⟨R, j, cr, rfl, hN, hb1⟩
      have HN := Lib.hid (hN.mono (lo' := w.heap.size) hsz)
      have HB := Lib.hid (hbel.trans (hb1.mono hsz))
      clear hN hb1 hO hbel
      go_wp2
      go_ret
      exact ⟨_, _, _, rfl, HN.out, HB.out⟩
set_option maxHeartbeats 400000 in
/-- The reference's Add, of naturals that are well formed, where the sum is not too long. -/
theorem rAdd_yes (A B : Option Addr) (n c m d : Nat) (xs ys : List Nat) (w : World) (ha : Rd w A n c xs) (hb : Rd w B m d ys) (fa : fmB xs = true) (fb : fmB ys = true)
    (hl : (digs (val xs + val ys)).length ≤ 400) :
    Calls Tryz.prog 195 #[.slice A n c, .slice B m d] w (Out2 w (digs (val xs + val ys)) 0) := by
  have hn : n ≤ 400 := by rw [← ha.len]; exact fmB_len fa
  have hm : m ≤ 400 := by rw [← hb.len]; exact fmB_len fb
  have HL := Lib.hid hl
  clear hl
  go_enter Tryz.func195, Tryz.ntmps195
  go_wp2_with fail
  refine (rformed_any _ _ _ xs _ ha).mono ?_
  rintro e w' ⟨rfl, rfl⟩
  go_wp2_with fail
  refine (rformed_any _ _ _ ys _ hb).mono ?_
  rintro e w' ⟨rfl, rfl⟩
  go_wp2_with fail
  refine (radd_any _ _ _ _ _ _ xs ys _ ha hb (by omega) (by omega)).mono ?_
  rintro e w1 ⟨R, k, cr, rfl, hN, hbel⟩
  have hk : k ≤ 400 := by rw [← hN.1.len]; exact HL.out
  go_wp2_with fail
  refine (bounded_yes _ _ _ _ hk).mono ?_
  rintro e w' ⟨rfl, rfl⟩
  go_wp2
  go_ret2
  exact ⟨_, _, _, rfl, hN, hbel⟩
set_option maxHeartbeats 400000 in
/-- The reference's Add, where the sum is too long. -/
theorem rAdd_long (A B : Option Addr) (n c m d : Nat) (xs ys : List Nat) (w : World) (ha : Rd w A n c xs) (hb : Rd w B m d ys) (fa : fmB xs = true) (fb : fmB ys = true)
    (hl : 400 < (digs (val xs + val ys)).length) :
    Calls Tryz.prog 195 #[.slice A n c, .slice B m d] w (Out2 w [] 4) := by
  have hn : n ≤ 400 := by rw [← ha.len]; exact fmB_len fa
  have hm : m ≤ 400 := by rw [← hb.len]; exact fmB_len fb
  have HL := Lib.hid hl
  clear hl
  go_enter Tryz.func195, Tryz.ntmps195
  go_wp2_with fail
  refine (rformed_any _ _ _ xs _ ha).mono ?_
  rintro e w' ⟨rfl, rfl⟩
  go_wp2_with fail
  refine (rformed_any _ _ _ ys _ hb).mono ?_
  rintro e w' ⟨rfl, rfl⟩
  go_wp2_with fail
  refine (radd_any _ _ _ _ _ _ xs ys _ ha hb (by omega) (by omega)).mono ?_
  rintro e w1 ⟨R, k, cr, rfl, hN, hbel⟩
  have hk : 400 < k := by rw [← hN.1.len]; exact HL.out
  go_wp2_with fail
  refine (bounded_no _ _ _ _ hk).mono ?_
  rintro e w' ⟨rfl, rfl⟩
  go_wp2
  go_ret2
  exact ⟨_, _, _, rfl, Nw.nil _ _, hbel⟩
set_option maxHeartbeats 400000 in
/-- The reference's Add, of a natural that is not well formed. -/
theorem rAdd_bad (A B : Option Addr) (n c m d : Nat) (xs ys : List Nat) (w : World) (ha : Rd w A n c xs) (hb : Rd w B m d ys) (f : (fmB xs && fmB ys) = false) :
    Calls Tryz.prog 195 #[.slice A n c, .slice B m d] w (Out2 w [] 1) := by
  cases fa : fmB xs
  · clear f
    go_enter Tryz.func195, Tryz.ntmps195
    go_wp2_with fail
    refine (rformed_any _ _ _ xs _ ha).mono ?_
    rintro e w' ⟨rfl, rfl⟩
    go_wp2
    go_ret2
    exact ⟨_, _, _, rfl, Nw.nil _ _, Below.refl _ _⟩
  · have fb : fmB ys = false := by rw [fa] at f; simpa using f
    clear f
    go_enter Tryz.func195, Tryz.ntmps195
    go_wp2_with fail
    refine (rformed_any _ _ _ xs _ ha).mono ?_
    rintro e w' ⟨rfl, rfl⟩
    go_wp2_with fail
    refine (rformed_any _ _ _ ys _ hb).mono ?_
    rintro e w' ⟨rfl, rfl⟩
    go_wp2
    go_ret2
    exact ⟨_, _, _, rfl, Nw.nil _ _, Below.refl _ _⟩
theorem rAdd_any (A B : Option Addr) (n c m d : Nat) (xs ys : List Nat) (w : World) (ha : Rd w A n c xs) (hb : Rd w B m d ys) :
    Calls Tryz.prog 195 #[.slice A n c, .slice B m d] w (Out2 w (addR xs ys).1 (addR xs ys).2) := by
  cases f : fmB xs && fmB ys
  · have e : addR xs ys = ([], 1) := by unfold addR; rw [f]; rfl
    rw [e]; exact rAdd_bad A B n c m d xs ys w ha hb f
  · have f' := f
    rw [Bool.and_eq_true] at f'
    by_cases hl : (digs (val xs + val ys)).length ≤ 400
    · have e : addR xs ys = (digs (val xs + val ys), 0) := by unfold addR; rw [f, if_pos rfl, if_pos hl]
      rw [e]; exact rAdd_yes A B n c m d xs ys w ha hb f'.1 f'.2 hl
    · have e : addR xs ys = ([], 4) := by unfold addR; rw [f, if_pos rfl, if_neg hl]
      rw [e]; exact rAdd_long A B n c m d xs ys w ha hb f'.1 f'.2 (by omega)
end Go.Proofs.YtehekjlakegkpaaGreat
end
section
namespace Go.Proofs.YtehekjlakegkpaaGreat
open Go.RowKit

def RsubRel (w : World) (A1 : Option Addr) (n c1 : Nat) (us vs : List Nat) (cv tv : Value) (wr : World) : Prop :=
  ∃ (k q : Nat) (rs : List Nat), k ≤ n ∧ tv = .int .i64 k ∧ cv = .int .u64 q ∧ q ≤ 1 ∧ Nw wr w.heap.size A1 n c1 rs ∧ Below w.heap.size w wr ∧ rs.drop k = us.drop k ∧
    val (rs.take k) + val (vs.take k) = val (us.take k) + pw k * q
theorem les_small (x t : Nat) (hx : x < 4294967296) (ht : t ≤ 4294967296) : lesR x t = (x + 4294967296 - t) % 4294967296 ∧ lesB x t = if x < t then 1 else 0 := by
  unfold lesR lesB
  rcases Nat.eq_or_lt_of_le ht with e | e
  · subst e; rw [if_neg (by omega), if_pos hx]; omega
  · rw [Nat.mod_eq_of_lt e, Nat.div_eq_of_lt e]; omega
theorem RsubRel.step {w wr : World} {n k q t b o c1 : Nat} {us vs rs : List Nat} (hx : el us k < 4294967296) (hy : el vs k < 4294967296) (hk : k < n) (hq : q ≤ 1) (hN : Nw wr w.heap.size (some ⟨b, o, none⟩) n c1 rs) (hbel : Below w.heap.size w wr)
    (hd : rs.drop k = us.drop k) (heq : val (rs.take k) + val (vs.take k) = val (us.take k) + pw k * q) (ht : t = q + el vs k) {S1 S2 : Int} (h1 : S1 = (lesB (el us k) t : Nat)) (h2 : S2 = (lesR (el us k) t : Nat)) :
    RsubRel w (some ⟨b, o, none⟩) n c1 us vs (.int .u64 S1) (.int .i64 ((k : Int) + 1)) (wr.setCell ⟨b, o + k, none⟩ (.int .u32 S2)) := by
  subst h1 h2
  refine ⟨k + 1, lesB (el us k) t, rs.set k (lesR (el us k) t), by omega, rfl, rfl, ?_, hN.store hk (lesR_lt _ _), hbel.setCell (hN.addr (by omega)).1 _, ?_, dif_step rs us vs k q t (by rw [hN.1.len]; exact hk) hx ht heq⟩
  · unfold lesB; split <;> omega
  · rw [drop_set]; exact drop_succ_of hd

set_option maxHeartbeats 1600000 in
/-- The reference's sub. -/
theorem rsub_any (A B : Option Addr) (n c m d : Nat) (xs ys : List Nat) (w : World) (ha : Rd w A n c xs) (hb : Rd w B m d ys) (hn : n ≤ 900000) (hmn : m ≤ n) (hle : val ys ≤ val xs) :
    Calls Tryz.prog 152 #[.slice A n c, .slice B m d] w (Out w (digs (val xs - val ys))) := by
  have HX := Lib.hid ha.len
  have HY := Lib.hid hb.len
  have HLE := Lib.hid hle
  clear hle
  go_enter Tryz.func152, Tryz.ntmps152
  go_wp2_with (at_builtin; refine wpList_app0 _ rfl (.tmp 9) (.tmp 10) 50 rfl Tryz.underlying50 info50 _ _ _ xs rfl rfl ha (by omega) ?_; intro A1 c1 w1 hN1 hb1)
  go_loopw [6, 14] (fun cv tv wr => RsubRel w A1 n c1 xs ys cv tv wr) (fun _ tv _ => n - (intOf tv).toNat)
  case atStart => exact ⟨0, 0, xs, Nat.zero_le _, rfl, rfl, Nat.zero_le _, hN1, hb1, rfl, rfl⟩
  case round =>
    obtain ⟨k, q, rs, hk, rfl, rfl, hq, hN, hbel, hd, heq⟩ := hrel
    have HE := Lib.hid heq
    have HD := Lib.hid hd
    have HR := Lib.hid hN.1.len
    clear heq hd hN1 hb1
    have hxk := el_lt ha.lim k
    have hyk := el_lt hb.lim k
    have hsz := hbel.size
    by_cases hkn : k < n
    · obtain ⟨b, o, rfl, hjunk⟩ := hN.1.at_ (by omega)
      clear hjunk
      obtain ⟨_, hlt, hcc, hff⟩ := hN.addr (by omega)
      have hc0 : wr.cell? ⟨b, o + k, none⟩ = some (.int .u32 (el xs k)) := by
        rw [← el_of_drop HD.out]; exact hcc k hkn
      have hf := hff k hkn
      clear hcc hff
      by_cases hkm : k < m
      · obtain ⟨b2, o2, rfl, hbb2, hcB⟩ := hb.at_ (by omega)
        have hcy := (hbel.cell (p := ⟨b2, o2 + k, none⟩) hbb2).trans (hcB k hkm)
        clear hcB
        have HS := Lib.hid (les_small (el xs k) (q + el ys k) hxk (by omega))
        by_cases hbo : el xs k < q + el ys k
        · have hbo' : ((el xs k : Nat) : Int) < (q : Int) + (el ys k : Nat) := by omega
          have HR1 := Lib.hid (fun S2 h2 => RsubRel.step (S1 := 1) (S2 := S2) hxk hyk hkn hq hN hbel HD.out HE.out rfl (by rw [HS.out.2, if_pos hbo]; rfl) h2)
          have HS1 := Lib.hid HS.out.1
          go_wp2
          go_roundw
          case rel => exact HR1.out _ (by rw [HS1.out]; omega)
          case measure => simp [intOf]; omega
        · have hbo' : ¬ (((el xs k : Nat) : Int) < (q : Int) + (el ys k : Nat)) := by omega
          have HR1 := Lib.hid (fun S2 h2 => RsubRel.step (S1 := 0) (S2 := S2) hxk hyk hkn hq hN hbel HD.out HE.out rfl (by rw [HS.out.2, if_neg hbo]; rfl) h2)
          have HS1 := Lib.hid HS.out.1
          go_wp2
          go_roundw
          case rel => exact HR1.out _ (by rw [HS1.out]; omega)
          case measure => simp [intOf]; omega
      · have HZ := Lib.hid (el_ge ys k (by rw [HY.out]; omega))
        have HS := Lib.hid (les_small (el xs k) q hxk (by omega))
        by_cases hbo : el xs k < q
        · have hbo' : ((el xs k : Nat) : Int) < (q : Int) := by omega
          have HR1 := Lib.hid (fun S2 h2 => RsubRel.step (t := q) (S1 := 1) (S2 := S2) hxk hyk hkn hq hN hbel HD.out HE.out (by rw [HZ.out]; rfl) (by rw [HS.out.2, if_pos hbo]; rfl) h2)
          have HS1 := Lib.hid HS.out.1
          go_wp2
          go_roundw
          case rel => exact HR1.out _ (by rw [HS1.out]; omega)
          case measure => simp [intOf]; omega
        · have hbo' : ¬ (((el xs k : Nat) : Int) < (q : Int)) := by omega
          have HR1 := Lib.hid (fun S2 h2 => RsubRel.step (t := q) (S1 := 0) (S2 := S2) hxk hyk hkn hq hN hbel HD.out HE.out (by rw [HZ.out]; rfl) (by rw [HS.out.2, if_neg hbo]; rfl) h2)
          have HS1 := Lib.hid HS.out.1
          go_wp2
          go_roundw
          case rel => exact HR1.out _ (by rw [HS1.out]; omega)
          case measure => simp [intOf]; omega
    · obtain rfl : k = n := by omega
      have HV := Lib.hid (show val rs = val xs - val ys by
        have h0 := HE.out
        rw [val_take_ge rs k (by rw [HR.out]; exact Nat.le_refl _), val_take_ge xs k (by rw [HX.out]; exact Nat.le_refl _), val_take_ge ys k (by rw [HY.out]; exact hmn)] at h0
        have h1 := val_lt hN.1.lim
        rw [HR.out] at h1
        have h2 := HLE.out
        rcases Nat.eq_zero_or_pos q with e | e
        · subst e; omega
        · obtain rfl : q = 1 := by omega
          omega)
      go_wp2_with fail
      refine (rtrim_any _ _ _ rs _ hN.1 (by omega)).mono ?_
      rw [HV.out]
      rintro e w2 ⟨R, j, cr, rfl, hN2, hb2⟩
      have HN := Lib.hid (hN2.mono (lo' := w.heap.size) hsz)
      have HB := Lib.hid (hbel.trans (hb2.mono hsz))
      clear hN2 hb2 hN hbel
      go_wp2
      go_ret
      exact ⟨_, _, _, rfl, HN.out, HB.out⟩
end Go.Proofs.YtehekjlakegkpaaGreat
end
section
namespace Go.Proofs.YtehekjlakegkpaaGreat
open Go.RowKit

theorem cmpN_ge {a b : Nat} (h : b ≤ a) : ¬ cmpN a b < 0 := by
  rcases Nat.eq_or_lt_of_le h with e | e
  · subst e; rw [cmpN_eq]; omega
  · rw [cmpN_gt e]; omega
/-- The document's difference: the natural and the error. -/
def subR (xs ys : List Nat) : List Nat × Int :=
  if fmB xs && fmB ys then (if val xs < val ys then ([], 3) else (digs (val xs - val ys), 0)) else ([], 1)
/-- The document's comparison. -/
def cmpR (xs ys : List Nat) : Int := if fmB xs && fmB ys then cmpN (val xs) (val ys) else 0

set_option maxHeartbeats 400000 in
/-- limb.Sub, of naturals that are well formed, a not less than b. -/
theorem Sub_yes (A B : Option Addr) (n c m d : Nat) (xs ys : List Nat) (w : World) (ha : Rd w A n c xs) (hb : Rd w B m d ys) (fa : fmB xs = true) (fb : fmB ys = true) (hle : val ys ≤ val xs) :
    Calls Tryz.prog 123 #[.slice A n c, .slice B m d] w (Out2 w (digs (val xs - val ys)) 0) := by
  have hn : n ≤ 400 := by rw [← ha.len]; exact fmB_len fa
  have hmn : m ≤ n := by
    rcases Nat.lt_or_ge n m with h | h
    · have := val_lt_of_len ha.lim hb.lim (fmB_nrm fb) (by rw [ha.len, hb.len]; exact h)
      omega
    · exact h
  have HLE := Lib.hid hle
  clear hle
  go_enter Tryz.func123, Tryz.ntmps123
  go_wp2_with fail
  refine (formed_any _ _ _ xs _ ha).mono ?_
  rintro e w' ⟨rfl, rfl⟩
  go_wp2_with fail
  refine (formed_any _ _ _ ys _ hb).mono ?_
  rintro e w' ⟨rfl, rfl⟩
  go_wp2_with fail
  refine (cmp_any _ _ _ _ _ _ xs ys _ ha hb (fmB_nrm fa) (fmB_nrm fb)).mono ?_
  rintro e w' ⟨rfl, q, rfl⟩
  have hge := cmpN_ge HLE.out
  go_wp2_with fail
  refine (dif_any _ _ _ _ _ _ xs ys _ (ha.drewN q) (hb.drewN q) (by omega) hmn HLE.out).mono ?_
  rintro e w1 ⟨R, k, cr, rfl, hN, hbel⟩
  have HN : Hid (Nw w1 w.heap.size R k cr (digs (val xs - val ys))) := hN
  have HB : Hid (Below w.heap.size w w1) := ⟨hbel.os, hbel.tape, hbel.output, hbel.size, hbel.block⟩
  clear hN hbel
  go_wp2
  go_ret2
  exact ⟨_, _, _, rfl, HN.out, HB.out⟩
set_option maxHeartbeats 400000 in
/-- limb.Sub, of a that is less than b. -/
theorem Sub_less (A B : Option Addr) (n c m d : Nat) (xs ys : List Nat) (w : World) (ha : Rd w A n c xs) (hb : Rd w B m d ys) (fa : fmB xs = true) (fb : fmB ys = true) (hlt : val xs < val ys) :
    Calls Tryz.prog 123 #[.slice A n c, .slice B m d] w (Out2 w [] 3) := by
  have HLE := Lib.hid hlt
  clear hlt
  go_enter Tryz.func123, Tryz.ntmps123
  go_wp2_with fail
  refine (formed_any _ _ _ xs _ ha).mono ?_
  rintro e w' ⟨rfl, rfl⟩
  go_wp2_with fail
  refine (formed_any _ _ _ ys _ hb).mono ?_
  rintro e w' ⟨rfl, rfl⟩
  go_wp2_with fail
  refine (cmp_any _ _ _ _ _ _ xs ys _ ha hb (fmB_nrm fa) (fmB_nrm fb)).mono ?_
  rw [cmpN_lt HLE.out]
  rintro e w' ⟨rfl, q, rfl⟩
  go_wp2
  go_ret2
  exact ⟨_, _, _, rfl, Nw.nil _ _, below_drewN' (Below.refl _ _) q⟩
set_option maxHeartbeats 400000 in
/-- limb.Sub, of a natural that is not well formed. -/
theorem Sub_bad (A B : Option Addr) (n c m d : Nat) (xs ys : List Nat) (w : World) (ha : Rd w A n c xs) (hb : Rd w B m d ys) (f : (fmB xs && fmB ys) = false) :
    Calls Tryz.prog 123 #[.slice A n c, .slice B m d] w (Out2 w [] 1) := by
  cases fa : fmB xs
  · clear f
    go_enter Tryz.func123, Tryz.ntmps123
    go_wp2_with fail
    refine (formed_any _ _ _ xs _ ha).mono ?_
    rintro e w' ⟨rfl, rfl⟩
    go_wp2
    go_ret2
    exact ⟨_, _, _, rfl, Nw.nil _ _, Below.refl _ _⟩
  · have fb : fmB ys = false := by rw [fa] at f; simpa using f
    clear f
    go_enter Tryz.func123, Tryz.ntmps123
    go_wp2_with fail
    refine (formed_any _ _ _ xs _ ha).mono ?_
    rintro e w' ⟨rfl, rfl⟩
    go_wp2_with fail
    refine (formed_any _ _ _ ys _ hb).mono ?_
    rintro e w' ⟨rfl, rfl⟩
    go_wp2
    go_ret2
    exact ⟨_, _, _, rfl, Nw.nil _ _, Below.refl _ _⟩
theorem Sub_any (A B : Option Addr) (n c m d : Nat) (xs ys : List Nat) (w : World) (ha : Rd w A n c xs) (hb : Rd w B m d ys) :
    Calls Tryz.prog 123 #[.slice A n c, .slice B m d] w (Out2 w (subR xs ys).1 (subR xs ys).2) := by
  cases f : fmB xs && fmB ys
  · have e : subR xs ys = ([], 1) := by unfold subR; rw [f]; rfl
    rw [e]; exact Sub_bad A B n c m d xs ys w ha hb f
  · have f' := f
    rw [Bool.and_eq_true] at f'
    by_cases hl : val xs < val ys
    · have e : subR xs ys = ([], 3) := by unfold subR; rw [f, if_pos rfl, if_pos hl]
      rw [e]; exact Sub_less A B n c m d xs ys w ha hb f'.1 f'.2 hl
    · have e : subR xs ys = (digs (val xs - val ys), 0) := by unfold subR; rw [f, if_pos rfl, if_neg hl]
      rw [e]; exact Sub_yes A B n c m d xs ys w ha hb f'.1 f'.2 (by omega)
set_option maxHeartbeats 400000 in
/-- limb.Cmp. -/
theorem Cmp_any (A B : Option Addr) (n c m d : Nat) (xs ys : List Nat) (w : World) (ha : Rd w A n c xs) (hb : Rd w B m d ys) :
    Calls Tryz.prog 45 #[.slice A n c, .slice B m d] w (Quiet w (.int .i64 (cmpR xs ys))) := by
  cases f : fmB xs && fmB ys
  · have e : cmpR xs ys = 0 := by unfold cmpR; rw [f]; rfl
    rw [e]
    clear e
    cases fa : fmB xs
    · clear f
      go_enter Tryz.func45, Tryz.ntmps45
      go_wp2_with fail
      refine (formed_any _ _ _ xs _ ha).mono ?_
      rintro e w' ⟨rfl, rfl⟩
      go_wp2
      go_ret
      exact ⟨rfl, 0, rfl⟩
    · have fb : fmB ys = false := by rw [fa] at f; simpa using f
      clear f
      go_enter Tryz.func45, Tryz.ntmps45
      go_wp2_with fail
      refine (formed_any _ _ _ xs _ ha).mono ?_
      rintro e w' ⟨rfl, rfl⟩
      go_wp2_with fail
      refine (formed_any _ _ _ ys _ hb).mono ?_
      rintro e w' ⟨rfl, rfl⟩
      go_wp2
      go_ret
      exact ⟨rfl, 0, rfl⟩
  · have e : cmpR xs ys = cmpN (val xs) (val ys) := by unfold cmpR; rw [f]; rfl
    rw [e]
    clear e
    rw [Bool.and_eq_true] at f
    obtain ⟨fa, fb⟩ := f
    go_enter Tryz.func45, Tryz.ntmps45
    go_wp2_with fail
    refine (formed_any _ _ _ xs _ ha).mono ?_
    rintro e w' ⟨rfl, rfl⟩
    go_wp2_with fail
    refine (formed_any _ _ _ ys _ hb).mono ?_
    rintro e w' ⟨rfl, rfl⟩
    go_wp2_with fail
    refine (cmp_any _ _ _ _ _ _ xs ys _ ha hb (fmB_nrm fa) (fmB_nrm fb)).mono ?_
    rintro e w' ⟨rfl, q, rfl⟩
    go_wp2
    go_ret
    exact ⟨rfl, q, rfl⟩

set_option maxHeartbeats 400000 in
/-- The reference's.Sub, of naturals that are well formed, a not less than b. -/
theorem rSub_yes (A B : Option Addr) (n c m d : Nat) (xs ys : List Nat) (w : World) (ha : Rd w A n c xs) (hb : Rd w B m d ys) (fa : fmB xs = true) (fb : fmB ys = true) (hle : val ys ≤ val xs) :
    Calls Tryz.prog 128 #[.slice A n c, .slice B m d] w (Out2 w (digs (val xs - val ys)) 0) := by
  have hn : n ≤ 400 := by rw [← ha.len]; exact fmB_len fa
  have hmn : m ≤ n := by
    rcases Nat.lt_or_ge n m with h | h
    · have := val_lt_of_len ha.lim hb.lim (fmB_nrm fb) (by rw [ha.len, hb.len]; exact h)
      omega
    · exact h
  have HLE := Lib.hid hle
  clear hle
  go_enter Tryz.func128, Tryz.ntmps128
  go_wp2_with fail
  refine (rformed_any _ _ _ xs _ ha).mono ?_
  rintro e w' ⟨rfl, rfl⟩
  go_wp2_with fail
  refine (rformed_any _ _ _ ys _ hb).mono ?_
  rintro e w' ⟨rfl, rfl⟩
  go_wp2_with fail
  refine (rcmp_any _ _ _ _ _ _ xs ys _ ha hb (fmB_nrm fa) (fmB_nrm fb)).mono ?_
  rintro e w' ⟨rfl, q, rfl⟩
  have hge := cmpN_ge HLE.out
  go_wp2_with fail
  refine (rsub_any _ _ _ _ _ _ xs ys _ (ha.drewN q) (hb.drewN q) (by omega) hmn HLE.out).mono ?_
  rintro e w1 ⟨R, k, cr, rfl, hN, hbel⟩
  have HN : Hid (Nw w1 w.heap.size R k cr (digs (val xs - val ys))) := hN
  have HB : Hid (Below w.heap.size w w1) := ⟨hbel.os, hbel.tape, hbel.output, hbel.size, hbel.block⟩
  clear hN hbel
  go_wp2
  go_ret2
  exact ⟨_, _, _, rfl, HN.out, HB.out⟩
set_option maxHeartbeats 400000 in
/-- The reference's.Sub, of a that is less than b. -/
theorem rSub_less (A B : Option Addr) (n c m d : Nat) (xs ys : List Nat) (w : World) (ha : Rd w A n c xs) (hb : Rd w B m d ys) (fa : fmB xs = true) (fb : fmB ys = true) (hlt : val xs < val ys) :
    Calls Tryz.prog 128 #[.slice A n c, .slice B m d] w (Out2 w [] 3) := by
  have HLE := Lib.hid hlt
  clear hlt
  go_enter Tryz.func128, Tryz.ntmps128
  go_wp2_with fail
  refine (rformed_any _ _ _ xs _ ha).mono ?_
  rintro e w' ⟨rfl, rfl⟩
  go_wp2_with fail
  refine (rformed_any _ _ _ ys _ hb).mono ?_
  rintro e w' ⟨rfl, rfl⟩
  go_wp2_with fail
  refine (rcmp_any _ _ _ _ _ _ xs ys _ ha hb (fmB_nrm fa) (fmB_nrm fb)).mono ?_
  rw [cmpN_lt HLE.out]
  rintro e w' ⟨rfl, q, rfl⟩
  go_wp2
  go_ret2
  exact ⟨_, _, _, rfl, Nw.nil _ _, below_drewN' (Below.refl _ _) q⟩
set_option maxHeartbeats 400000 in
/-- The reference's.Sub, of a natural that is not well formed. -/
theorem rSub_bad (A B : Option Addr) (n c m d : Nat) (xs ys : List Nat) (w : World) (ha : Rd w A n c xs) (hb : Rd w B m d ys) (f : (fmB xs && fmB ys) = false) :
    Calls Tryz.prog 128 #[.slice A n c, .slice B m d] w (Out2 w [] 1) := by
  cases fa : fmB xs
  · clear f
    go_enter Tryz.func128, Tryz.ntmps128
    go_wp2_with fail
    refine (rformed_any _ _ _ xs _ ha).mono ?_
    rintro e w' ⟨rfl, rfl⟩
    go_wp2
    go_ret2
    exact ⟨_, _, _, rfl, Nw.nil _ _, Below.refl _ _⟩
  · have fb : fmB ys = false := by rw [fa] at f; simpa using f
    clear f
    go_enter Tryz.func128, Tryz.ntmps128
    go_wp2_with fail
    refine (rformed_any _ _ _ xs _ ha).mono ?_
    rintro e w' ⟨rfl, rfl⟩
    go_wp2_with fail
    refine (rformed_any _ _ _ ys _ hb).mono ?_
    rintro e w' ⟨rfl, rfl⟩
    go_wp2
    go_ret2
    exact ⟨_, _, _, rfl, Nw.nil _ _, Below.refl _ _⟩
theorem rSub_any (A B : Option Addr) (n c m d : Nat) (xs ys : List Nat) (w : World) (ha : Rd w A n c xs) (hb : Rd w B m d ys) :
    Calls Tryz.prog 128 #[.slice A n c, .slice B m d] w (Out2 w (subR xs ys).1 (subR xs ys).2) := by
  cases f : fmB xs && fmB ys
  · have e : subR xs ys = ([], 1) := by unfold subR; rw [f]; rfl
    rw [e]; exact rSub_bad A B n c m d xs ys w ha hb f
  · have f' := f
    rw [Bool.and_eq_true] at f'
    by_cases hl : val xs < val ys
    · have e : subR xs ys = ([], 3) := by unfold subR; rw [f, if_pos rfl, if_pos hl]
      rw [e]; exact rSub_less A B n c m d xs ys w ha hb f'.1 f'.2 hl
    · have e : subR xs ys = (digs (val xs - val ys), 0) := by unfold subR; rw [f, if_pos rfl, if_neg hl]
      rw [e]; exact rSub_yes A B n c m d xs ys w ha hb f'.1 f'.2 (by omega)
set_option maxHeartbeats 400000 in
/-- The reference's.Cmp. -/
theorem rCmp_any (A B : Option Addr) (n c m d : Nat) (xs ys : List Nat) (w : World) (ha : Rd w A n c xs) (hb : Rd w B m d ys) :
    Calls Tryz.prog 57 #[.slice A n c, .slice B m d] w (Quiet w (.int .i64 (cmpR xs ys))) := by
  cases f : fmB xs && fmB ys
  · have e : cmpR xs ys = 0 := by unfold cmpR; rw [f]; rfl
    rw [e]
    clear e
    cases fa : fmB xs
    · clear f
      go_enter Tryz.func57, Tryz.ntmps57
      go_wp2_with fail
      refine (rformed_any _ _ _ xs _ ha).mono ?_
      rintro e w' ⟨rfl, rfl⟩
      go_wp2
      go_ret
      exact ⟨rfl, 0, rfl⟩
    · have fb : fmB ys = false := by rw [fa] at f; simpa using f
      clear f
      go_enter Tryz.func57, Tryz.ntmps57
      go_wp2_with fail
      refine (rformed_any _ _ _ xs _ ha).mono ?_
      rintro e w' ⟨rfl, rfl⟩
      go_wp2_with fail
      refine (rformed_any _ _ _ ys _ hb).mono ?_
      rintro e w' ⟨rfl, rfl⟩
      go_wp2
      go_ret
      exact ⟨rfl, 0, rfl⟩
  · have e : cmpR xs ys = cmpN (val xs) (val ys) := by unfold cmpR; rw [f]; rfl
    rw [e]
    clear e
    rw [Bool.and_eq_true] at f
    obtain ⟨fa, fb⟩ := f
    go_enter Tryz.func57, Tryz.ntmps57
    go_wp2_with fail
    refine (rformed_any _ _ _ xs _ ha).mono ?_
    rintro e w' ⟨rfl, rfl⟩
    go_wp2_with fail
    refine (rformed_any _ _ _ ys _ hb).mono ?_
    rintro e w' ⟨rfl, rfl⟩
    go_wp2_with fail
    refine (rcmp_any _ _ _ _ _ _ xs ys _ ha hb (fmB_nrm fa) (fmB_nrm fb)).mono ?_
    rintro e w' ⟨rfl, q, rfl⟩
    go_wp2
    go_ret
    exact ⟨rfl, q, rfl⟩

end Go.Proofs.YtehekjlakegkpaaGreat
end
