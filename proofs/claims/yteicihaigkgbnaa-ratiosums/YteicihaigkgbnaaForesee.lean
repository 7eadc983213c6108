/-
  What limb.foresee does: steps of Euclid's algorithm that both numbers begin with. For naturals of three limbs or more that can be read, b not above a.
-/
import Derived.Test.YteicihaigkgbnaaWords
import Derived.Test.YteicihaigkgbnaaLehmer
namespace Go.Proofs.Yteicihaigkgbnaa
open Go.RowKit

/-- A block that holds the steps. -/
def Bst (w : World) (g a0 b0 a1 b1 : Nat) (ev : Bool) : Prop := w.heap[g]? = some (.cells #[.int .u64 a0, .int .u64 b0, .int .u64 a1, .int .u64 b1, .bool ev] 92 (0, 0))
/-- The end of limb.foresee. -/
def ForP (w : World) (a b : Nat) (e : Ending) (w' : World) : Prop :=
  ∃ (a0 b0 a1 b1 : Nat) (ev : Bool), e = .returned (.agg #[.int .u64 a0, .int .u64 b0, .int .u64 a1, .int .u64 b1, .bool ev]) ∧ Below w.heap.size w w' ∧
    (b0 = 0 ∨ ∃ R0 R1, Pkg a b a0 b0 a1 b1 R0 R1 ev ∧ 1 ≤ b1 ∧ a0 < 4294967296 ∧ b0 < 4294967296 ∧ a1 < 4294967296 ∧ b1 < 4294967296)
def ForRel (w : World) (g4 g8 a b X Y : Nat) (xv yv av bv : Value) (wr : World) : Prop :=
  ∃ (x y a0 b0 a1 b1 a2 b2 : Nat) (ev : Bool), xv = .int .u64 x ∧ yv = .int .u64 y ∧ av = .int .u64 a2 ∧ bv = .int .u64 b2 ∧ Bst wr g4 0 0 0 0 false ∧ Bst wr g8 a0 b0 a1 b1 ev ∧ Below w.heap.size w wr ∧
    Sim X Y x y a1 b1 a2 b2 ev ∧ Fs a b a0 b0 a1 b1 a2 b2 ev

theorem Bst.cells {w : World} {g a0 b0 a1 b1 : Nat} {ev : Bool} (h : Bst w g a0 b0 a1 b1 ev) : w.cell? ⟨g, 0, none⟩ = some (.int .u64 a0) ∧ w.cell? ⟨g, 1, none⟩ = some (.int .u64 b0) ∧ w.cell? ⟨g, 2, none⟩ = some (.int .u64 a1) ∧ w.cell? ⟨g, 3, none⟩ = some (.int .u64 b1) ∧ w.cell? ⟨g, 4, none⟩ = some (.bool ev) :=
  ⟨cell_of_row w g 0 _ 92 (0, 0) h, cell_of_row w g 1 _ 92 (0, 0) h, cell_of_row w g 2 _ 92 (0, 0) h, cell_of_row w g 3 _ 92 (0, 0) h, cell_of_row w g 4 _ 92 (0, 0) h⟩
theorem Bst.frozen {w : World} {g a0 b0 a1 b1 : Nat} {ev : Bool} (h : Bst w g a0 b0 a1 b1 ev) (i : Nat) : w.frozen? ⟨g, i, none⟩ = false := by
  unfold Bst at h
  simp [World.frozen?, h]
theorem Bst.lt {w : World} {g a0 b0 a1 b1 : Nat} {ev : Bool} (h : Bst w g a0 b0 a1 b1 ev) : g < w.heap.size := by
  rcases Nat.lt_or_ge g w.heap.size with hlt | hge
  · exact hlt
  · unfold Bst at h; rw [Array.getElem?_eq_none hge] at h; cases h
theorem Bst.far {w : World} {g a0 b0 a1 b1 : Nat} {ev : Bool} (h : Bst w g a0 b0 a1 b1 ev) {p : Addr} (hp : g ≠ p.block) (u : Value) : Bst (w.setCell p u) g a0 b0 a1 b1 ev := (Below.heap_setCell w p u g hp).trans h
theorem Bst.set0 {w : World} {g a0 b0 a1 b1 : Nat} {ev : Bool} (h : Bst w g a0 b0 a1 b1 ev) (v : Nat) : Bst (w.setCell ⟨g, 0, none⟩ (.int .u64 v)) g v b0 a1 b1 ev := by
  unfold Bst at h ⊢; simp [World.setCell, Array.getElem?_modify, h]
theorem Bst.set1 {w : World} {g a0 b0 a1 b1 : Nat} {ev : Bool} (h : Bst w g a0 b0 a1 b1 ev) (v : Nat) : Bst (w.setCell ⟨g, 1, none⟩ (.int .u64 v)) g a0 v a1 b1 ev := by
  unfold Bst at h ⊢; simp [World.setCell, Array.getElem?_modify, h]
theorem Bst.set2 {w : World} {g a0 b0 a1 b1 : Nat} {ev : Bool} (h : Bst w g a0 b0 a1 b1 ev) (v : Nat) : Bst (w.setCell ⟨g, 2, none⟩ (.int .u64 v)) g a0 b0 v b1 ev := by
  unfold Bst at h ⊢; simp [World.setCell, Array.getElem?_modify, h]
theorem Bst.set3 {w : World} {g a0 b0 a1 b1 : Nat} {ev : Bool} (h : Bst w g a0 b0 a1 b1 ev) (v : Nat) : Bst (w.setCell ⟨g, 3, none⟩ (.int .u64 v)) g a0 b0 a1 v ev := by
  unfold Bst at h ⊢; simp [World.setCell, Array.getElem?_modify, h]
theorem Bst.set4 {w : World} {g a0 b0 a1 b1 : Nat} {ev : Bool} (h : Bst w g a0 b0 a1 b1 ev) (v : Bool) : Bst (w.setCell ⟨g, 4, none⟩ (.bool v)) g a0 b0 a1 b1 v := by
  unfold Bst at h ⊢; simp [World.setCell, Array.getElem?_modify, h]
theorem Bst.drewN {w : World} {g a0 b0 a1 b1 : Nat} {ev : Bool} (h : Bst w g a0 b0 a1 b1 ev) (k : Nat) : Bst (w.drewN k) g a0 b0 a1 b1 ev := h
theorem ForRel.step {w wr : World} {a b X Y y r a0 b0 a1 b1 a2 b2 q : Nat} {ev : Bool} (nq : Nat) (hB4 : Bst wr w.heap.size 0 0 0 0 false) (hB8 : Bst wr (w.heap.size + 1) a0 b0 a1 b1 ev) (hbel : Below w.heap.size w wr)
    (hs : Sim X Y y r a2 b2 (a1 + q * a2) (b1 + q * b2) (!ev)) (hf : Fs a b a1 b1 a2 b2 (a1 + q * a2) (b1 + q * b2) (!ev)) {S : Int} (hS : S = (r : Int)) :
    ForRel w w.heap.size (w.heap.size + 1) a b X Y (.int .u64 (y : Int)) (.int .u64 S) (.int .u64 ((a1 : Int) + (q : Int) * (a2 : Int))) (.int .u64 ((b1 : Int) + (q : Int) * (b2 : Int)))
      ((((((wr.drewN nq).setCell ⟨w.heap.size + 1, 0, none⟩ (.int .u64 (a1 : Int))).setCell ⟨w.heap.size + 1, 2, none⟩ (.int .u64 (a2 : Int))).setCell ⟨w.heap.size + 1, 1, none⟩ (.int .u64 (b1 : Int))).setCell ⟨w.heap.size + 1, 3, none⟩ (.int .u64 (b2 : Int))).setCell ⟨w.heap.size + 1, 4, none⟩ (.bool !ev)) := by
  subst hS
  have hne : ∀ o : Nat, w.heap.size ≠ (⟨w.heap.size + 1, o, none⟩ : Addr).block := fun o => by show w.heap.size ≠ w.heap.size + 1; omega
  have hle : ∀ o : Nat, w.heap.size ≤ (⟨w.heap.size + 1, o, none⟩ : Addr).block := fun o => by show w.heap.size ≤ w.heap.size + 1; omega
  refine ⟨y, r, a1, b1, a2, b2, a1 + q * a2, b1 + q * b2, !ev, rfl, rfl, by rw [Int.natCast_add, Int.natCast_mul], by rw [Int.natCast_add, Int.natCast_mul], ?_, ?_, ?_, hs, hf⟩
  · exact (((((hB4.drewN nq).far (hne 0) _).far (hne 2) _).far (hne 1) _).far (hne 3) _).far (hne 4) _
  · exact (((((hB8.drewN nq).set0 a1).set2 a2).set1 b1).set3 b2).set4 (!ev)
  · exact (((((below_drewN' hbel nq).setCell (hle 0) _).setCell (hle 2) _).setCell (hle 1) _).setCell (hle 3) _).setCell (hle 4) _
theorem for_end {w wr : World} {a b a0 b0 a1 b1 a2 b2 : Nat} {ev : Bool} (hbel : Below w.heap.size w wr) (hf : Fs a b a0 b0 a1 b1 a2 b2 ev) :
    ForP w a b (.returned (.agg #[.int .u64 a0, .int .u64 b0, .int .u64 a1, .int .u64 b1, .bool ev]))
      (((((wr.setCell ⟨w.heap.size, 0, none⟩ (.int .u64 (a0 : Int))).setCell ⟨w.heap.size, 1, none⟩ (.int .u64 (b0 : Int))).setCell ⟨w.heap.size, 2, none⟩ (.int .u64 (a1 : Int))).setCell ⟨w.heap.size, 3, none⟩ (.int .u64 (b1 : Int))).setCell ⟨w.heap.size, 4, none⟩ (.bool ev)) := by
  refine ⟨a0, b0, a1, b1, ev, rfl, ((((hbel.setCell (Nat.le_refl _) _).setCell (Nat.le_refl _) _).setCell (Nat.le_refl _) _).setCell (Nat.le_refl _) _).setCell (Nat.le_refl _) _, ?_⟩
  rcases hf with ⟨_, h, _⟩ | h
  · left; exact h
  · right; exact h
theorem for_start (w : World) (k : Nat) : Bst (((w.alloc (.cells #[.int .u64 0, .int .u64 0, .int .u64 0, .int .u64 0, .bool false] 92)).drewN k).alloc (.cells #[.int .u64 0, .int .u64 0, .int .u64 1, .int .u64 0, .bool false] 92)) w.heap.size 0 0 0 0 false ∧
    Bst (((w.alloc (.cells #[.int .u64 0, .int .u64 0, .int .u64 0, .int .u64 0, .bool false] 92)).drewN k).alloc (.cells #[.int .u64 0, .int .u64 0, .int .u64 1, .int .u64 0, .bool false] 92)) (w.heap.size + 1) 0 0 1 0 false ∧
    Below w.heap.size w (((w.alloc (.cells #[.int .u64 0, .int .u64 0, .int .u64 0, .int .u64 0, .bool false] 92)).drewN k).alloc (.cells #[.int .u64 0, .int .u64 0, .int .u64 1, .int .u64 0, .bool false] 92)) := by
  have hs : ((w.alloc (.cells #[.int .u64 0, .int .u64 0, .int .u64 0, .int .u64 0, .bool false] 92)).drewN k).heap.size = w.heap.size + 1 := by simp
  have h1 : Bst ((w.alloc (.cells #[.int .u64 0, .int .u64 0, .int .u64 0, .int .u64 0, .bool false] 92)).drewN k) w.heap.size 0 0 0 0 false := heap_alloc_new w _
  refine ⟨(Below.heap_alloc _ _ _ (by omega)).trans h1, ?_, (below_drewN' ((Below.refl _ _).alloc (Nat.le_refl _) _) k).alloc (by omega) _⟩
  have h2 := heap_alloc_new ((w.alloc (.cells #[.int .u64 0, .int .u64 0, .int .u64 0, .int .u64 0, .bool false] 92)).drewN k) (.cells #[.int .u64 0, .int .u64 0, .int .u64 1, .int .u64 0, .bool false] 92)
  rw [hs] at h2
  exact h2

set_option maxHeartbeats 3200000 in
theorem foresee_any (A B : Option Addr) (n c m d : Nat) (xs ys : List Nat) (w : World) (ha : Rd w A n c xs) (hb : Rd w B m d ys) (hn : 3 ≤ n) (hnn : n ≤ 900000) (hmn : m ≤ n) (htop : el xs (n - 1) ≠ 0) (hle : val ys ≤ val xs) :
    Calls Try.prog 73 #[.slice A n c, .slice B m d] w (ForP w (val xs) (val ys)) := by
  have hv0 : 0 < el xs (n - 1) := by omega
  have hv1 := el_lt ha.lim (n - 1)
  have hlz := (lz_facts hv0 hv1).1
  obtain ⟨s, hs⟩ : ∃ s, lz (el xs (n - 1)) = s := ⟨_, rfl⟩
  have HS := Lib.hid hs
  rw [hs] at hlz
  have HT := Lib.hid (show el xs (n - 1) * 2 ^ s < 4294967296 by rw [← hs]; exact (lz_facts hv0 hv1).2.2)
  clear hs
  have HLE := Lib.hid hle
  have HX := Lib.hid ha.len
  have HY := Lib.hid hb.len
  clear hle htop
  have hfa := hi_fits (n := n) (s := s) ha.lim ha.lim hn (by rw [HX.out]; exact Nat.le_refl _) (by rw [HX.out]; exact Nat.le_refl _) hlz (Nat.le_refl _) HT.out
  have hfb := hi_fits (n := n) (s := s) ha.lim hb.lim hn (by rw [HX.out]; exact Nat.le_refl _) (by rw [HY.out]; exact hmn) hlz HLE.out HT.out
  have HFA := Lib.hid hfa
  have HFB := Lib.hid hfb
  clear hfa hfb
  obtain ⟨bb, bo, rfl, hbb, hcA⟩ := ha.at_ (by omega)
  have hcx := hcA (n - 1) (by omega)
  clear hcA
  go_enter Try.func73, Try.ntmps73
  go_wp2_with fail
  refine (lz_any _ _ hv0 hv1).mono ?_
  rw [HS.out]
  rintro e w' ⟨rfl, rfl⟩
  go_wp2_with fail
  refine (highest_any _ _ _ n s xs _ (ha.alloc _) hn hnn hlz HFA.out).mono ?_
  rintro e w' ⟨rfl, q1, rfl⟩
  go_wp2_with fail
  refine (highest_any _ _ _ n s ys _ ((hb.alloc _).drewN _) hn hnn hlz HFB.out).mono ?_
  rintro e w' ⟨rfl, q2, rfl⟩
  obtain ⟨X, hX⟩ : ∃ X, hi64 xs n s = X := ⟨_, rfl⟩
  obtain ⟨Y, hY⟩ : ∃ Y, hi64 ys n s = Y := ⟨_, rfl⟩
  rw [hX, hY]
  have HXX := Lib.hid hX
  have HYY := Lib.hid hY
  have hXl : X < 18446744073709551616 := by rw [← hX]; exact hi_lt ha.lim hlz HFA.out
  clear hX hY
  go_wp2
  have HST := Lib.hid (for_start w (q1 + q2))
  generalize (((w.alloc (Obj.cells #[Value.int IntKind.u64 0, Value.int IntKind.u64 0, Value.int IntKind.u64 0, Value.int IntKind.u64 0, Value.bool false] 92)).drewN (q1 + q2)).alloc (Obj.cells #[Value.int IntKind.u64 0, Value.int IntKind.u64 0, Value.int IntKind.u64 1, Value.int IntKind.u64 0, Value.bool false] 92)) = w3 at *
  have HYX := Lib.hid (show Y ≤ X by rw [← HXX.out, ← HYY.out]; exact hi_le xs ys n s ha.lim hb.lim hn (by rw [HX.out]; exact Nat.le_refl _) (by rw [HY.out]; exact hmn) hlz HLE.out)
  have HDA := Lib.hid (hi_div xs n s ha.lim hn (by rw [HX.out]; exact Nat.le_refl _) hlz)
  have HDB := Lib.hid (hi_div ys n s hb.lim hn (by rw [HY.out]; exact hmn) hlz)
  rw [HXX.out] at HDA
  rw [HYY.out] at HDB
  go_loopw [6, 7, 9, 10] (fun xv yv av bv wr => ForRel w w.heap.size (w.heap.size + 1) (val xs) (val ys) X Y xv yv av bv wr) (fun _ yv _ _ _ => (intOf yv).toNat)
  case atStart => exact ⟨X, Y, 0, 0, 1, 0, 0, 1, false, rfl, rfl, rfl, rfl, HST.out.1, HST.out.2.1, HST.out.2.2, Sim.start HYX.out, .inl ⟨rfl, rfl, rfl, rfl, rfl, rfl, rfl⟩⟩
  case round =>
    obtain ⟨x, y, a0, b0, a1, b1, a2, b2, ev, rfl, rfl, rfl, rfl, hB4, hB8, hbel, hsim, hfs⟩ := hrel
    clear HST hcx
    obtain ⟨k0, k1, k2, k3, k4⟩ := hB8.cells
    obtain ⟨z0, z1, z2, z3, z4⟩ := hB4.cells
    have f0 := hB8.frozen 0
    have f1 := hB8.frozen 1
    have f2 := hB8.frozen 2
    have f3 := hB8.frozen 3
    have f4 := hB8.frozen 4
    have y0 := hB4.frozen 0
    have y1 := hB4.frozen 1
    have y2 := hB4.frozen 2
    have y3 := hB4.frozen 3
    have y4 := hB4.frozen 4
    have hyx := hsim.2.1
    have hxl : x < 18446744073709551616 := by
      have h1 := hsim.1
      have h2 : 1 * x ≤ b2 * x := Nat.mul_le_mul_right _ hsim.2.2.1
      omega
    have hb1 : b1 < 4294967296 := by
      rcases hfs with ⟨_, _, _, r4, _⟩ | ⟨_, _, _, _, _, _, _, p5⟩
      · omega
      · exact p5
    by_cases hc1 : b2 ≤ y
    · obtain ⟨hb2, ha2, hy0⟩ := sim_bounds hsim hXl hc1
      have hc1' : (b2 : Int) ≤ (y : Int) := by omega
      by_cases hc2 : b1 + b2 ≤ x - y
      · have hc2' : (b1 : Int) + (b2 : Int) ≤ (x : Int) - (y : Int) := by omega
        have hnx := hsim.next hc1
        obtain ⟨α, hα, hDA⟩ := HDA.out
        obtain ⟨β, hβ, hDB⟩ := HDB.out
        have hfn := hfs.next hDA hDB hα hβ hXl hsim hc1 hc2
        clear hDA hDB hα hβ
        have hqb : b1 + x / y * b2 ≤ X := by
          have h1 := hnx.1
          have h2 : (b1 + x / y * b2) * 1 ≤ (b1 + x / y * b2) * y := Nat.mul_le_mul_left _ hy0
          omega
        have hqa : a1 + x / y * a2 ≤ b1 + x / y * b2 := hnx.2.2.2.1
        have hml := Nat.mod_lt x hy0
        have hql : x / y ≤ x := Nat.div_le_self _ _
        have hqI : IntKind.u64.wrap ((x : Int) / (y : Int)) = ((x / y : Nat) : Int) := by
          rw [← Int.natCast_ediv, IntKind.wrap_u64]
          generalize x / y = z at *
          omega
        have hrI : ((x : Int) % (y : Int)) = ((x % y : Nat) : Int) := by rw [Int.natCast_emod]
        have HNX := Lib.hid hnx
        have HFN := Lib.hid hfn
        clear hnx hfn hsim hfs
        generalize x / y = q at *
        generalize x % y = r at *
        have hy1 : ((y : Int) == 0) = false := by simp; omega
        go_wp2
        go_quiet (fail)
        go_wp2
        go_roundw
        case rel => exact ForRel.step nq hB4 hB8 hbel HNX.out HFN.out hrI
        case measure => simp only [intOf]; rw [hrI]; omega
      · have hc2' : ¬ ((b1 : Int) + (b2 : Int) ≤ (x : Int) - (y : Int)) := by omega
        go_wp2
        refine bodyPost_ret (v := .agg #[.int .u64 a0, .int .u64 b0, .int .u64 a1, .int .u64 b1, .bool ev]) (by simp [results, Try.results73, go_sem, z0, z1, z2, z3, z4]) rfl ?_
        exact for_end hbel hfs
    · have hc1' : ¬ ((b2 : Int) ≤ (y : Int)) := by omega
      have hdd : decide ((b2 : Int) ≤ (y : Int)) = false := by simp; omega
      go_wp2
      refine bodyPost_ret (v := .agg #[.int .u64 a0, .int .u64 b0, .int .u64 a1, .int .u64 b1, .bool ev]) (by simp [results, Try.results73, go_sem, z0, z1, z2, z3, z4]) rfl ?_
      exact for_end hbel hfs
end Go.Proofs.Yteicihaigkgbnaa
