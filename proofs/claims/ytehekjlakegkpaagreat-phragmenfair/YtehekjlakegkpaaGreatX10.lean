/-
  What limb.foresee does: steps of Euclid's algorithm that both numbers begin with. For naturals of three limbs or more that can be read, b not above a.
  What limb.guessLimb does: a limb of the quotient, right or too great by 1. For a window and a divisor that lie in rows known whole, the divisor's last limb not 0.
  What limb.divideLong does: the quotient and the rest, in new memory. For slices that can be read, of at most 400000 limbs, the divisor's last limb not 0, of two limbs or more and no longer than what is divided.
-/
import Derived.Test.YtehekjlakegkpaaGreatX09
import Derived.Test.YtehekjlakegkpaaGreatX07
import Derived.Test.YtehekjlakegkpaaGreatX08
import Derived.Deep.RegionWith
section
namespace Go.Proofs.YtehekjlakegkpaaGreat
open Go.RowKit

/-- A block that holds the steps. -/
def Bst (w : World) (g a0 b0 a1 b1 : Nat) (ev : Bool) : Prop := w.heap[g]? = some (.cells #[.int .u64 a0, .int .u64 b0, .int .u64 a1, .int .u64 b1, .bool ev] 217 (0, 0))
/-- The end of limb.foresee. -/
def ForP (w : World) (a b : Nat) (e : Ending) (w' : World) : Prop :=
  ∃ (a0 b0 a1 b1 : Nat) (ev : Bool), e = .returned (.agg #[.int .u64 a0, .int .u64 b0, .int .u64 a1, .int .u64 b1, .bool ev]) ∧ Below w.heap.size w w' ∧
    (b0 = 0 ∨ ∃ R0 R1, Pkg a b a0 b0 a1 b1 R0 R1 ev ∧ 1 ≤ b1 ∧ a0 < 4294967296 ∧ b0 < 4294967296 ∧ a1 < 4294967296 ∧ b1 < 4294967296)
def ForRel (w : World) (g4 g8 a b X Y : Nat) (xv yv av bv : Value) (wr : World) : Prop :=
  ∃ (x y a0 b0 a1 b1 a2 b2 : Nat) (ev : Bool), xv = .int .u64 x ∧ yv = .int .u64 y ∧ av = .int .u64 a2 ∧ bv = .int .u64 b2 ∧ Bst wr g4 0 0 0 0 false ∧ Bst wr g8 a0 b0 a1 b1 ev ∧ Below w.heap.size w wr ∧
    Sim X Y x y a1 b1 a2 b2 ev ∧ Fs a b a0 b0 a1 b1 a2 b2 ev

theorem Bst.cells {w : World} {g a0 b0 a1 b1 : Nat} {ev : Bool} (h : Bst w g a0 b0 a1 b1 ev) : w.cell? ⟨g, 0, none⟩ = some (.int .u64 a0) ∧ w.cell? ⟨g, 1, none⟩ = some (.int .u64 b0) ∧ w.cell? ⟨g, 2, none⟩ = some (.int .u64 a1) ∧ w.cell? ⟨g, 3, none⟩ = some (.int .u64 b1) ∧ w.cell? ⟨g, 4, none⟩ = some (.bool ev) :=
  ⟨cell_of_row w g 0 _ 217 (0, 0) h, cell_of_row w g 1 _ 217 (0, 0) h, cell_of_row w g 2 _ 217 (0, 0) h, cell_of_row w g 3 _ 217 (0, 0) h, cell_of_row w g 4 _ 217 (0, 0) h⟩
theorem Bst.frozen {w : World} {g a0 b0 a1 b1 : Nat} {ev : Bool} (h : Bst w g a0 b0 a1 b1 ev) (i : Nat) : w.frozen? ⟨g, i, none⟩ = false := by
  unfold Bst at h
  simp [World.frozen?, h]
theorem Bst.lt {w : World} {g a0 b0 a1 b1 : Nat} {ev : Bool} (h : Bst w g a0 b0 a1 b1 ev) : g < w.heap.size := by
  rcases Nat.lt_or_ge g w.heap.size with hlt | hge
  · exact hlt
  · unfold Bst at h; rw [Array.getElem?_eq_none hge] at h; cases h
theorem Bst.far {w : World} {g a0 b0 a1 b1 : Nat} {ev : Bool} (h : Bst w g a0 b0 a1 b1 ev) {p : Addr} (hp : g ≠ p.block) (u : Value) : Bst (w.setCell p u) g a0 b0 a1 b1 ev := (Below.heap_setCell w p u g hp).trans h
theorem Bst.set0 {w : World} {g a0 b0 a1 b1 : Nat} {ev : Bool} (h : Bst w g a0 b0 a1 b1 ev) (v : Nat) : Bst (w.setCell ⟨g, 0, none⟩ (.int .u64 v)) g v b0 a1 b1 ev := by
  unfold Bst at h ⊢; simp [World.setCell, Array.getElem?_modify, h]
theorem Bst.set1 {w : World} {g a0 b0 a1 b1 : Nat} {ev : Bool} (h : Bst w g a0 b0 a1 b1 ev) (v : Nat) : Bst (w.setCell ⟨g, 1, none⟩ (.int .u64 v)) g a0 v a1 b1 ev := by
  unfold Bst at h ⊢; simp [World.setCell, Array.getElem?_modify, h]
theorem Bst.set2 {w : World} {g a0 b0 a1 b1 : Nat} {ev : Bool} (h : Bst w g a0 b0 a1 b1 ev) (v : Nat) : Bst (w.setCell ⟨g, 2, none⟩ (.int .u64 v)) g a0 b0 v b1 ev := by
  unfold Bst at h ⊢; simp [World.setCell, Array.getElem?_modify, h]
theorem Bst.set3 {w : World} {g a0 b0 a1 b1 : Nat} {ev : Bool} (h : Bst w g a0 b0 a1 b1 ev) (v : Nat) : Bst (w.setCell ⟨g, 3, none⟩ (.int .u64 v)) g a0 b0 a1 v ev := by
  unfold Bst at h ⊢; simp [World.setCell, Array.getElem?_modify, h]
theorem Bst.set4 {w : World} {g a0 b0 a1 b1 : Nat} {ev : Bool} (h : Bst w g a0 b0 a1 b1 ev) (v : Bool) : Bst (w.setCell ⟨g, 4, none⟩ (.bool v)) g a0 b0 a1 b1 v := by
  unfold Bst at h ⊢; simp [World.setCell, Array.getElem?_modify, h]
theorem Bst.drewN {w : World} {g a0 b0 a1 b1 : Nat} {ev : Bool} (h : Bst w g a0 b0 a1 b1 ev) (k : Nat) : Bst (w.drewN k) g a0 b0 a1 b1 ev := h
theorem ForRel.step {w wr : World} {a b X Y y r a0 b0 a1 b1 a2 b2 q : Nat} {ev : Bool} (nq : Nat) (hB4 : Bst wr w.heap.size 0 0 0 0 false) (hB8 : Bst wr (w.heap.size + 1) a0 b0 a1 b1 ev) (hbel : Below w.heap.size w wr)
    (hs : Sim X Y y r a2 b2 (a1 + q * a2) (b1 + q * b2) (!ev)) (hf : Fs a b a1 b1 a2 b2 (a1 + q * a2) (b1 + q * b2) (!ev)) {S : Int} (hS : S = (r : Int)) :
    ForRel w w.heap.size (w.heap.size + 1) a b X Y (.int .u64 (y : Int)) (.int .u64 S) (.int .u64 ((a1 : Int) + (q : Int) * (a2 : Int))) (.int .u64 ((b1 : Int) + (q : Int) * (b2 : Int)))
      ((((((wr.drewN nq).setCell ⟨w.heap.size + 1, 0, none⟩ (.int .u64 (a1 : Int))).setCell ⟨w.heap.size + 1, 2, none⟩ (.int .u64 (a2 : Int))).setCell ⟨w.heap.size + 1, 1, none⟩ (.int .u64 (b1 : Int))).setCell ⟨w.heap.size + 1, 3, none⟩ (.int .u64 (b2 : Int))).setCell ⟨w.heap.size + 1, 4, none⟩ (.bool !ev)) := by
  subst hS
  have hne : ∀ o : Nat, w.heap.size ≠ (⟨w.heap.size + 1, o, none⟩ : Addr).block := fun o => by show w.heap.size ≠ w.heap.size + 1; omega
  have hle : ∀ o : Nat, w.heap.size ≤ (⟨w.heap.size + 1, o, none⟩ : Addr).block := fun o => by show w.heap.size ≤ w.heap.size + 1; omega
  refine ⟨y, r, a1, b1, a2, b2, a1 + q * a2, b1 + q * b2, !ev, rfl, rfl, by rw [Int.natCast_add, Int.natCast_mul], by rw [Int.natCast_add, Int.natCast_mul], ?_, ?_, ?_, hs, hf⟩
  · exact (((((hB4.drewN nq).far (hne 0) _).far (hne 2) _).far (hne 1) _).far (hne 3) _).far (hne 4) _
  · exact (((((hB8.drewN nq).set0 a1).set2 a2).set1 b1).set3 b2).set4 (!ev)
  · exact (((((below_drewN' hbel nq).setCell (hle 0) _).setCell (hle 2) _).setCell (hle 1) _).setCell (hle 3) _).setCell (hle 4) _
theorem for_end {w wr : World} {a b a0 b0 a1 b1 a2 b2 : Nat} {ev : Bool} (hbel : Below w.heap.size w wr) (hf : Fs a b a0 b0 a1 b1 a2 b2 ev) :
    ForP w a b (.returned (.agg #[.int .u64 a0, .int .u64 b0, .int .u64 a1, .int .u64 b1, .bool ev]))
      (((((wr.setCell ⟨w.heap.size, 0, none⟩ (.int .u64 (a0 : Int))).setCell ⟨w.heap.size, 1, none⟩ (.int .u64 (b0 : Int))).setCell ⟨w.heap.size, 2, none⟩ (.int .u64 (a1 : Int))).setCell ⟨w.heap.size, 3, none⟩ (.int .u64 (b1 : Int))).setCell ⟨w.heap.size, 4, none⟩ (.bool ev)) := by
  refine ⟨a0, b0, a1, b1, ev, rfl, ((((hbel.setCell (Nat.le_refl _) _).setCell (Nat.le_refl _) _).setCell (Nat.le_refl _) _).setCell (Nat.le_refl _) _).setCell (Nat.le_refl _) _, ?_⟩
  rcases hf with ⟨_, h, _⟩ | h
  · left; exact h
  · right; exact h
theorem for_start (w : World) (k : Nat) : Bst (((w.alloc (.cells #[.int .u64 0, .int .u64 0, .int .u64 0, .int .u64 0, .bool false] 217)).drewN k).alloc (.cells #[.int .u64 0, .int .u64 0, .int .u64 1, .int .u64 0, .bool false] 217)) w.heap.size 0 0 0 0 false ∧
    Bst (((w.alloc (.cells #[.int .u64 0, .int .u64 0, .int .u64 0, .int .u64 0, .bool false] 217)).drewN k).alloc (.cells #[.int .u64 0, .int .u64 0, .int .u64 1, .int .u64 0, .bool false] 217)) (w.heap.size + 1) 0 0 1 0 false ∧
    Below w.heap.size w (((w.alloc (.cells #[.int .u64 0, .int .u64 0, .int .u64 0, .int .u64 0, .bool false] 217)).drewN k).alloc (.cells #[.int .u64 0, .int .u64 0, .int .u64 1, .int .u64 0, .bool false] 217)) := by
  have hs : ((w.alloc (.cells #[.int .u64 0, .int .u64 0, .int .u64 0, .int .u64 0, .bool false] 217)).drewN k).heap.size = w.heap.size + 1 := by simp
  have h1 : Bst ((w.alloc (.cells #[.int .u64 0, .int .u64 0, .int .u64 0, .int .u64 0, .bool false] 217)).drewN k) w.heap.size 0 0 0 0 false := heap_alloc_new w _
  refine ⟨(Below.heap_alloc _ _ _ (by omega)).trans h1, ?_, (below_drewN' ((Below.refl _ _).alloc (Nat.le_refl _) _) k).alloc (by omega) _⟩
  have h2 := heap_alloc_new ((w.alloc (.cells #[.int .u64 0, .int .u64 0, .int .u64 0, .int .u64 0, .bool false] 217)).drewN k) (.cells #[.int .u64 0, .int .u64 0, .int .u64 1, .int .u64 0, .bool false] 217)
  rw [hs] at h2
  exact h2

set_option maxHeartbeats 3200000 in
theorem foresee_any (A B : Option Addr) (n c m d : Nat) (xs ys : List Nat) (w : World) (ha : Rd w A n c xs) (hb : Rd w B m d ys) (hn : 3 ≤ n) (hnn : n ≤ 900000) (hmn : m ≤ n) (htop : el xs (n - 1) ≠ 0) (hle : val ys ≤ val xs) :
    Calls Tryz.prog 179 #[.slice A n c, .slice B m d] w (ForP w (val xs) (val ys)) := by
  have hv0 : 0 < el xs (n - 1) := by omega
  have hv1 := el_lt ha.lim (n - 1)
  have hlz := (lz_facts hv0 hv1).1
  obtain ⟨s, hs⟩ : ∃ s, lz (el xs (n - 1)) = s := ⟨_, rfl⟩
  have HS := Lib.hid hs
  rw [hs] at hlz
  have HT := Lib.hid (show el xs (n - 1) * 2 ^ s < 4294967296 by rw [← hs]; exact (lz_facts hv0 hv1).2.2)
  clear hs
  have HLE := Lib.hid hle
  have HX := Lib.hid ha.len
  have HY := Lib.hid hb.len
  clear hle htop
  have hfa := hi_fits (n := n) (s := s) ha.lim ha.lim hn (by rw [HX.out]; exact Nat.le_refl _) (by rw [HX.out]; exact Nat.le_refl _) hlz (Nat.le_refl _) HT.out
  have hfb := hi_fits (n := n) (s := s) ha.lim hb.lim hn (by rw [HX.out]; exact Nat.le_refl _) (by rw [HY.out]; exact hmn) hlz HLE.out HT.out
  have HFA := Lib.hid hfa
  have HFB := Lib.hid hfb
  clear hfa hfb
  obtain ⟨bb, bo, rfl, hbb, hcA⟩ := ha.at_ (by omega)
  have hcx := hcA (n - 1) (by omega)
  clear hcA
  go_enter Tryz.func179, Tryz.ntmps179
  go_wp2_with fail
  refine (lz_any _ _ hv0 hv1).mono ?_
  rw [HS.out]
  rintro e w' ⟨rfl, rfl⟩
  go_wp2_with fail
  refine (highest_any _ _ _ n s xs _ (ha.alloc _) hn hnn hlz HFA.out).mono ?_
  rintro e w' ⟨rfl, q1, rfl⟩
  go_wp2_with fail
  refine (highest_any _ _ _ n s ys _ ((hb.alloc _).drewN _) hn hnn hlz HFB.out).mono ?_
  rintro e w' ⟨rfl, q2, rfl⟩
  obtain ⟨X, hX⟩ : ∃ X, hi64 xs n s = X := ⟨_, rfl⟩
  obtain ⟨Y, hY⟩ : ∃ Y, hi64 ys n s = Y := ⟨_, rfl⟩
  rw [hX, hY]
  have HXX := Lib.hid hX
  have HYY := Lib.hid hY
  have hXl : X < 18446744073709551616 := by rw [← hX]; exact hi_lt ha.lim hlz HFA.out
  clear hX hY
  go_wp2
  have HST := Lib.hid (for_start w (q1 + q2))
  generalize (((w.alloc (Obj.cells #[Value.int IntKind.u64 0, Value.int IntKind.u64 0, Value.int IntKind.u64 0, Value.int IntKind.u64 0, Value.bool false] 217)).drewN (q1 + q2)).alloc (Obj.cells #[Value.int IntKind.u64 0, Value.int IntKind.u64 0, Value.int IntKind.u64 1, Value.int IntKind.u64 0, Value.bool false] 217)) = w3 at *
  have HYX := Lib.hid (show Y ≤ X by rw [← HXX.out, ← HYY.out]; exact hi_le xs ys n s ha.lim hb.lim hn (by rw [HX.out]; exact Nat.le_refl _) (by rw [HY.out]; exact hmn) hlz HLE.out)
  have HDA := Lib.hid (hi_div xs n s ha.lim hn (by rw [HX.out]; exact Nat.le_refl _) hlz)
  have HDB := Lib.hid (hi_div ys n s hb.lim hn (by rw [HY.out]; exact hmn) hlz)
  rw [HXX.out] at HDA
  rw [HYY.out] at HDB
  go_loopw [6, 7, 9, 10] (fun xv yv av bv wr => ForRel w w.heap.size (w.heap.size + 1) (val xs) (val ys) X Y xv yv av bv wr) (fun _ yv _ _ _ => (intOf yv).toNat)
  case atStart => exact ⟨X, Y, 0, 0, 1, 0, 0, 1, false, rfl, rfl, rfl, rfl, HST.out.1, HST.out.2.1, HST.out.2.2, Sim.start HYX.out, .inl ⟨rfl, rfl, rfl, rfl, rfl, rfl, rfl⟩⟩
  case round =>
    obtain ⟨x, y, a0, b0, a1, b1, a2, b2, ev, rfl, rfl, rfl, rfl, hB4, hB8, hbel, hsim, hfs⟩ := hrel
    clear HST hcx
    obtain ⟨k0, k1, k2, k3, k4⟩ := hB8.cells
    obtain ⟨z0, z1, z2, z3, z4⟩ := hB4.cells
    have f0 := hB8.frozen 0
    have f1 := hB8.frozen 1
    have f2 := hB8.frozen 2
    have f3 := hB8.frozen 3
    have f4 := hB8.frozen 4
    have y0 := hB4.frozen 0
    have y1 := hB4.frozen 1
    have y2 := hB4.frozen 2
    have y3 := hB4.frozen 3
    have y4 := hB4.frozen 4
    have hyx := hsim.2.1
    have hxl : x < 18446744073709551616 := by
      have h1 := hsim.1
      have h2 : 1 * x ≤ b2 * x := Nat.mul_le_mul_right _ hsim.2.2.1
      omega
    have hb1 : b1 < 4294967296 := by
      rcases hfs with ⟨_, _, _, r4, _⟩ | ⟨_, _, _, _, _, _, _, p5⟩
      · omega
      · exact p5
    by_cases hc1 : b2 ≤ y
    · obtain ⟨hb2, ha2, hy0⟩ := sim_bounds hsim hXl hc1
      have hc1' : (b2 : Int) ≤ (y : Int) := by omega
      by_cases hc2 : b1 + b2 ≤ x - y
      · have hc2' : (b1 : Int) + (b2 : Int) ≤ (x : Int) - (y : Int) := by omega
        have hnx := hsim.next hc1
        obtain ⟨α, hα, hDA⟩ := HDA.out
        obtain ⟨β, hβ, hDB⟩ := HDB.out
        have hfn := hfs.next hDA hDB hα hβ hXl hsim hc1 hc2
        clear hDA hDB hα hβ
        have hqb : b1 + x / y * b2 ≤ X := by
          have h1 := hnx.1
          have h2 : (b1 + x / y * b2) * 1 ≤ (b1 + x / y * b2) * y := Nat.mul_le_mul_left _ hy0
          omega
        have hqa : a1 + x / y * a2 ≤ b1 + x / y * b2 := hnx.2.2.2.1
        have hml := Nat.mod_lt x hy0
        have hql : x / y ≤ x := Nat.div_le_self _ _
        have hqI : IntKind.u64.wrap ((x : Int) / (y : Int)) = ((x / y : Nat) : Int) := by
          rw [← Int.natCast_ediv, IntKind.wrap_u64]
          generalize x / y = z at *
          omega
        have hrI : ((x : Int) % (y : Int)) = ((x % y : Nat) : Int) := by rw [Int.natCast_emod]
        have HNX := Lib.hid hnx
        have HFN := Lib.hid hfn
        clear hnx hfn hsim hfs
        generalize x / y = q at *
        generalize x % y = r at *
        have hy1 : ((y : Int) == 0) = false := by simp; omega
        go_wp2
        go_quiet (fail)
        go_wp2
        go_roundw
        case rel => exact ForRel.step nq hB4 hB8 hbel HNX.out HFN.out hrI
        case measure => simp only [intOf]; rw [hrI]; omega
      · have hc2' : ¬ ((b1 : Int) + (b2 : Int) ≤ (x : Int) - (y : Int)) := by omega
        go_wp2
        refine bodyPost_ret (v := .agg #[.int .u64 a0, .int .u64 b0, .int .u64 a1, .int .u64 b1, .bool ev]) (by simp [results, Tryz.results179, go_sem, z0, z1, z2, z3, z4]) rfl ?_
        exact for_end hbel hfs
    · have hc1' : ¬ ((b2 : Int) ≤ (y : Int)) := by omega
      have hdd : decide ((b2 : Int) ≤ (y : Int)) = false := by simp; omega
      go_wp2
      refine bodyPost_ret (v := .agg #[.int .u64 a0, .int .u64 b0, .int .u64 a1, .int .u64 b1, .bool ev]) (by simp [results, Tryz.results179, go_sem, z0, z1, z2, z3, z4]) rfl ?_
      exact for_end hbel hfs
end Go.Proofs.YtehekjlakegkpaaGreat
end
section
namespace Go.Proofs.YtehekjlakegkpaaGreat
open Go.RowKit

/-- The loop: Q is not above the guess, and the guess times the first limb, and the rest, are the top. -/
def GuRel (Q T v1 : Nat) (gv rv : Value) : Prop :=
  ∃ G R : Nat, gv = .int .u64 G ∧ rv = .int .u64 R ∧ G * v1 + R = T ∧ Q ≤ G ∧ R < 8589934592
def GuP (w : World) (Q D T3 : Nat) (e : Ending) (w' : World) : Prop :=
  ∃ G : Nat, e = .returned (.int .u64 G) ∧ (∃ q, w' = w.drewN q) ∧ Q ≤ G ∧ G < 4294967296 ∧ G * D ≤ T3
theorem gu_dec {G R T v1 v2 u0 Q : Nat} (h : G * v1 + R = T) (hlt : u0 + 4294967296 * R < G * v2) (hQ : Q * (v1 * 4294967296 + v2) ≤ T * 4294967296 + u0) : Q < G := by
  rcases Nat.lt_or_ge Q G with hh | hh
  · exact hh
  · have h1 : G * (v1 * 4294967296 + v2) ≤ Q * (v1 * 4294967296 + v2) := Nat.mul_le_mul_right _ hh
    rw [Nat.mul_add, ← Nat.mul_assoc] at h1
    have h2 : (G * v1 + R) * 4294967296 = T * 4294967296 := by rw [h]
    omega
theorem gu_small {G R T v1 u1 u2 : Nat} (h : G * v1 + R = T) (hT : u1 + 4294967296 * u2 = T) (hR : 4294967296 ≤ R) (hu : u2 ≤ v1) (h1 : u1 < 4294967296) : G < 4294967296 := by
  rcases Nat.lt_or_ge G 4294967296 with hh | hh
  · exact hh
  · have : 4294967296 * v1 ≤ G * v1 := Nat.mul_le_mul_right _ hh
    omega
theorem gu_exit {G R T v1 v2 u0 : Nat} (h : G * v1 + R = T) (hle : G * v2 ≤ u0 + 4294967296 * R) : G * (v1 * 4294967296 + v2) ≤ T * 4294967296 + u0 := by
  rw [Nat.mul_add, ← Nat.mul_assoc]
  have h2 : (G * v1 + R) * 4294967296 = T * 4294967296 := by rw [h]
  omega
theorem gu_big {G v2 u0 R : Nat} (hG : G < 4294967296) (hv : v2 < 4294967296) (hR : 4294967296 ≤ R) : G * v2 ≤ u0 + 4294967296 * R := by
  have := mul_le G v2 hG hv
  omega
theorem gu_start {T v1 v2 u0 Q : Nat} (hv : 0 < v1) (h0 : u0 < 4294967296) (hQ : Q * (v1 * 4294967296 + v2) ≤ T * 4294967296 + u0) : Q ≤ T / v1 := by
  rw [Nat.le_div_iff_mul_le hv]
  rw [Nat.mul_add, ← Nat.mul_assoc] at hQ
  omega

set_option maxHeartbeats 1600000 in
theorem guess_any (g g2 i n cw cd Q : Nat) (rs es : List Nat) (w : World) (hB : Blk w g rs) (hE : Blk w g2 es) (hrL : Lim rs) (heL : Lim es) (hn : 2 ≤ n) (hnn : n ≤ 900000) (hin : i + n + 1 ≤ rs.length) (hen : n ≤ es.length)
    (hv : 0 < el es (n - 1)) (hu : el rs (i + n) ≤ el es (n - 1)) (hQ : Q < 4294967296)
    (hQ2 : Q * (el es (n - 1) * 4294967296 + el es (n - 2)) ≤ (el rs (i + n) * 4294967296 + el rs (i + (n - 1))) * 4294967296 + el rs (i + (n - 2))) :
    Calls Tryz.prog 220 #[.slice (some ⟨g, i, none⟩) (n + 1) cw, .slice (some ⟨g2, 0, none⟩) n cd] w
      (GuP w Q (el es (n - 1) * 4294967296 + el es (n - 2)) ((el rs (i + n) * 4294967296 + el rs (i + (n - 1))) * 4294967296 + el rs (i + (n - 2)))) := by
  have c0 := hB.cell (i := i + (n - 2)) (by omega)
  have c1 := hB.cell (i := i + (n - 1)) (by omega)
  have c2 := hB.cell (i := i + n) (by omega)
  have d1 := hE.cell (i := n - 1) (by omega)
  have d2 := hE.cell (i := n - 2) (by omega)
  have b0 := el_lt hrL (i + (n - 2))
  have b1 := el_lt hrL (i + (n - 1))
  have b2 := el_lt hrL (i + n)
  have e1 := el_lt heL (n - 1)
  have e2 := el_lt heL (n - 2)
  generalize el rs (i + (n - 2)) = u0 at *
  generalize el rs (i + (n - 1)) = u1 at *
  generalize el rs (i + n) = u2 at *
  generalize el es (n - 1) = v1 at *
  generalize el es (n - 2) = v2 at *
  have hor := or_lo u1 u2 b1 b2
  obtain ⟨T, hT⟩ : ∃ T, u1 + 4294967296 * u2 = T := ⟨_, rfl⟩
  rw [hT] at hor
  have HT := Lib.hid hT
  have HQ2 := Lib.hid hQ2
  have hTl : T < 18446744073709551616 := by omega
  clear hT hQ2
  have hvz : ((v1 : Int) == 0) = false := by simp; omega
  have n1 : (0 : Int) ≤ (n : Int) - 1 := by omega
  have n2 : (0 : Int) ≤ (n : Int) - 2 := by omega
  have m1 : (n : Int) - 1 < (n : Int) + 1 := by omega
  have m2 : (n : Int) - 2 < (n : Int) + 1 := by omega
  have m3 : (n : Int) - 1 < (n : Int) := by omega
  have m4 : (n : Int) - 2 < (n : Int) := by omega
  have t1 : ((n : Int) - 1).toNat = n - 1 := by omega
  have t2 : ((n : Int) - 2).toNat = n - 2 := by omega
  go_enter Tryz.func220, Tryz.ntmps220
  go_wp2
  go_quiet (fail)
  go_wp2
  go_quiet (fail)
  go_wp2
  go_quiet (fail)
  go_wp2
  have HQ3 : Hid (Q * (v1 * 4294967296 + v2) ≤ T * 4294967296 + u0) := by
    have h1 := HQ2.out
    have h2 := HT.out
    show _ ≤ _
    rw [show (u2 * 4294967296 + u1) = T by omega] at h1
    exact h1
  have hdv : T / v1 ≤ T := Nat.div_le_self T v1
  have hmv : T % v1 < v1 := Nat.mod_lt T hv
  go_loop [9, 10] (fun gv rv => GuRel Q T v1 gv rv) (fun _ rv => 4294967296 - (intOf rv).toNat)
  case atStart =>
    refine ⟨T / v1, T % v1, ?_, ?_, ?_, gu_start hv b0 HQ3.out, by omega⟩
    · rw [← Int.natCast_ediv, IntKind.wrap_u64]
      generalize T / v1 = z at *
      congr 1; omega
    · rw [Int.natCast_emod]
    · rw [Nat.mul_comm]; exact Nat.div_add_mod T v1
  case round =>
    obtain ⟨G, R, rfl, rfl, hGR, hQG, hRl⟩ := hrel
    have HG := Lib.hid hGR
    clear hGR hdv hmv
    have hGT : G ≤ T := by
      have h1 := HG.out
      have h2 : G * 1 ≤ G * v1 := Nat.mul_le_mul_left _ hv
      omega
    by_cases hR : 4294967296 ≤ R
    · have hGs := gu_small HG.out HT.out hR hu b1
      have HF := Lib.hid (gu_exit HG.out (gu_big (u0 := u0) hGs e2 hR))
      have hR' : ¬ ((R : Int) < 4294967296) := by omega
      have hR2 : decide ((R : Int) < 4294967296) = false := by simp; omega
      go_wp2
      go_ret
      exact ⟨G, rfl, ⟨_, rfl⟩, hQG, hGs, by have := HF.out; have h2 := HT.out; rw [show (u2 * 4294967296 + u1) = T by omega]; exact this⟩
    · have hR' : ((R : Int) < 4294967296) := by omega
      by_cases hGb : 4294967296 ≤ G
      · have hG' : (4294967296 : Int) ≤ (G : Int) := by omega
        go_wp2
        go_round
        case rel => exact ⟨G - 1, R + v1, by go_num, by go_num, by have h1 := HG.out; have : (G - 1) * v1 + v1 = G * v1 := by rw [← Nat.succ_mul]; congr 1; omega
                                                                   omega, by omega, by omega⟩
        case measure => simp [intOf]; omega
      · have hG' : ¬ ((4294967296 : Int) ≤ (G : Int)) := by omega
        have hor2 := or_lo u0 R b0 (by omega)
        obtain ⟨S3, hS3⟩ : ∃ S3, u0 + 4294967296 * R = S3 := ⟨_, rfl⟩
        rw [hS3] at hor2
        have HS3 := Lib.hid hS3
        clear hS3
        have hmul := mul_le G v2 (by omega) e2
        by_cases hlt : S3 < G * v2
        · have hlt' : (S3 : Int) < (G : Int) * (v2 : Int) := by rw [← Int.natCast_mul]; omega
          have hQlt := gu_dec (u0 := u0) HG.out (by rw [HS3.out]; exact hlt) HQ3.out
          go_wp2
          go_round
          case rel => exact ⟨G - 1, R + v1, by go_num, by go_num, by have h1 := HG.out; have : (G - 1) * v1 + v1 = G * v1 := by rw [← Nat.succ_mul]; congr 1; omega
                                                                     omega, by omega, by omega⟩
          case measure => simp [intOf]; omega
        · have hlt' : ¬ ((S3 : Int) < (G : Int) * (v2 : Int)) := by rw [← Int.natCast_mul]; omega
          have HF := Lib.hid (gu_exit (u0 := u0) (v2 := v2) HG.out (by rw [HS3.out]; omega))
          go_wp2
          go_ret
          exact ⟨G, rfl, ⟨_, rfl⟩, hQG, by omega, by have := HF.out; have h2 := HT.out; rw [show (u2 * 4294967296 + u1) = T by omega]; exact this⟩
end Go.Proofs.YtehekjlakegkpaaGreat
end
section
namespace Go.Proofs.YtehekjlakegkpaaGreat
open Go.RowKit

/-- The end of a call that gives two naturals. -/
def OutQ (w : World) (q r : Nat) (e : Ending) (w' : World) : Prop :=
  ∃ A n c B m d, e = .returned (.tuple #[.slice A n c, .slice B m d]) ∧ Nw w' w.heap.size A n c (digs q) ∧ Nw w' w.heap.size B m d (digs r) ∧ Below w.heap.size w w'
/-- The loop: k windows are left. -/
def LongRel (w : World) (g2 g3 m L V N : Nat) (es : List Nat) (tv : Value) (wr : World) : Prop :=
  ∃ (k : Nat) (rs qs : List Nat), k ≤ m ∧ tv = .int .i64 ((k : Int) - 1) ∧ Blk wr w.heap.size rs ∧ rs.length = L ∧ Lim rs ∧ Blk wr g2 es ∧ Blk wr g3 qs ∧ qs.length = m ∧ Lim qs ∧ (∀ j, j < k → el qs j = 0) ∧
    val rs + V * val qs = N ∧ val rs < V * pw k ∧ Below w.heap.size w wr

/-- The window at place i. -/
def win (rs : List Nat) (i n : Nat) : List Nat := (rs.drop i).take (n + 1)
theorem win_len {rs : List Nat} {i n : Nat} (h : i + n + 1 ≤ rs.length) : (win rs i n).length = n + 1 := by
  unfold win; rw [List.length_take, List.length_drop]; omega
theorem win_lim {rs : List Nat} (hL : Lim rs) (i n : Nat) : Lim (win rs i n) := Lim_take (Lim_drop hL i) _
theorem win_el (rs : List Nat) (i n j : Nat) (hj : j ≤ n) : el (win rs i n) j = el rs (i + j) := by
  unfold win; rw [el_take _ _ _ (by omega), el_drop]
theorem win_split (rs : List Nat) (i n : Nat) : rs.take i ++ (win rs i n ++ rs.drop (i + n + 1)) = rs := by
  unfold win
  rw [show i + n + 1 = i + (n + 1) by omega, ← List.drop_drop, List.take_append_drop, List.take_append_drop]
theorem win_val {rs : List Nat} {i n V : Nat} (hl : i + n + 1 ≤ rs.length) (hV : V < pw n) (hlt : val rs < V * pw (i + 1)) :
    val (rs.drop (i + n + 1)) = 0 ∧ val rs = val (rs.take i) + pw i * val (win rs i n) ∧ val (win rs i n) < V * 4294967296 := by
  have h0 : val rs < pw (i + n + 1) := by
    have : V * pw (i + 1) ≤ pw n * pw (i + 1) := Nat.mul_le_mul_right _ (by omega)
    rw [← pw_add, show n + (i + 1) = i + n + 1 by omega] at this
    omega
  have h1 := (el_zero_of_lt h0).2
  have h2 : val rs = val (rs.take i) + pw i * val (win rs i n) := by
    have h3 : val (rs.take i ++ (win rs i n ++ rs.drop (i + n + 1))) = val rs := by rw [win_split]
    rw [val_append, val_append, h1, Nat.mul_zero, Nat.add_zero, List.length_take, Nat.min_eq_left (by omega)] at h3
    exact h3.symm
  refine ⟨h1, h2, ?_⟩
  have h4 : pw i * val (win rs i n) < pw i * (V * 4294967296) := by
    rw [pw_succ] at hlt
    have : V * (4294967296 * pw i) = pw i * (V * 4294967296) := by rw [Nat.mul_comm, Nat.mul_comm 4294967296, Nat.mul_assoc, Nat.mul_comm 4294967296]
    omega
  exact Nat.lt_of_mul_lt_mul_left h4
theorem take_at (i g g2 n cw cd G : Nat) (pre us post es : List Nat) (w : World) (hi : pre.length = i) (hB : Blk w g (pre ++ (us ++ post))) (hE : Blk w g2 es) (hne : g2 ≠ g) (hul : us.length = n + 1) (huL : Lim us) (heL : Lim es) (hen : n ≤ es.length) (hG : G < 4294967296) (hn : n ≤ 900000) :
    Calls Tryz.prog 221 #[.slice (some ⟨g, i, none⟩) (n + 1) cw, .slice (some ⟨g2, 0, none⟩) n cd, .int .u64 G] w (TakeP w g n G pre us post es) := by
  subst hi; exact take_any g g2 n cw cd G pre us post es w hB hE hne hul huL heL hen hG hn
theorem put_at (i g g2 n cw cd : Nat) (pre us post es : List Nat) (w : World) (hi : pre.length = i) (hB : Blk w g (pre ++ (us ++ post))) (hE : Blk w g2 es) (hne : g2 ≠ g) (hul : us.length = n + 1) (huL : Lim us) (heL : Lim es) (hen : n ≤ es.length) (hn : n ≤ 900000) :
    Calls Tryz.prog 222 #[.slice (some ⟨g, i, none⟩) (n + 1) cw, .slice (some ⟨g2, 0, none⟩) n cd] w (PutP w g n pre us post es) := by
  subst hi; exact put_any g g2 n cw cd pre us post es w hB hE hne hul huL heL hen hn
theorem LongRel.step {w wx : World} {g2 g3 m L V N n k : Nat} {es rs qs ws : List Nat} {S : Int} (hg2 : w.heap.size < g2) (hg3 : g2 < g3) (hk : k ≤ m) (hk0 : k ≠ 0) (hl : rs.length = L) (hiL : k - 1 + n + 1 ≤ L) (hrL : Lim rs) (hVn : V < pw n) (hV0 : 0 < V)
    (hB : Blk wx w.heap.size (rs.take (k - 1) ++ (ws ++ rs.drop (k - 1 + n + 1)))) (hwl : ws.length = n + 1) (hwL : Lim ws) (hE : Blk wx g2 es) (hQ : Blk wx g3 qs) (hql : qs.length = m) (hqL : Lim qs) (hqz : ∀ j, j < k → el qs j = 0)
    (heq : val rs + V * val qs = N) (hlt : val rs < V * pw k) (hbel : Below w.heap.size w wx) (hw : val ws = val (win rs (k - 1) n) % V) (hQl : val (win rs (k - 1) n) / V < 4294967296) (hS : S = ((val (win rs (k - 1) n) / V : Nat) : Int)) :
    LongRel w g2 g3 m L V N es (.int .i64 ((k : Int) - 1 - 1)) (wx.setCell ⟨g3, k - 1, none⟩ (.int .u32 S)) := by
  subst hS
  have hkk : k - 1 + 1 = k := by omega
  obtain ⟨h1, h2, h3⟩ := win_val (rs := rs) (i := k - 1) (n := n) (V := V) (by omega) hVn (by rw [hkk]; exact hlt)
  have hv : val (rs.take (k - 1) ++ (ws ++ rs.drop (k - 1 + n + 1))) = val (rs.take (k - 1)) + pw (k - 1) * (val (win rs (k - 1) n) % V) := by
    rw [val_append, val_append, h1, Nat.mul_zero, Nat.add_zero, List.length_take, Nat.min_eq_left (by omega), hw]
  have hset := val_set qs (k - 1) (val (win rs (k - 1) n) / V) (by omega)
  rw [hqz (k - 1) (by omega), Nat.mul_zero, Nat.add_zero] at hset
  have hdm := Nat.div_add_mod (val (win rs (k - 1) n)) V
  have hml := Nat.mod_lt (val (win rs (k - 1) n)) hV0
  have htl := val_take_lt hrL (k - 1)
  refine ⟨k - 1, rs.take (k - 1) ++ (ws ++ rs.drop (k - 1 + n + 1)), qs.set (k - 1) (val (win rs (k - 1) n) / V), by omega, by congr 1; omega, hB.far (by show _ ≠ g3; omega) _, ?_, Lim_append (Lim_take hrL _) (Lim_append hwL (Lim_drop hrL _)), hE.far (by show _ ≠ g3; omega) _, hQ.set_ _ _, by simp [hql], Lim_set hqL _ _ hQl, ?_, ?_, ?_, hbel.setCell (by show _ ≤ g3; omega) _⟩
  · rw [List.length_append, List.length_append, List.length_take, List.length_drop, hwl]; omega
  · intro j hj
    rw [el_set_other _ _ _ _ (by omega)]
    exact hqz j (by omega)
  · rw [hv, hset]
    generalize val (win rs (k - 1) n) / V = Q at *
    generalize val (win rs (k - 1) n) % V = R at *
    rw [h2, ← hdm] at heq
    rw [Nat.mul_add V, Nat.mul_left_comm V]
    rw [Nat.mul_add] at heq
    omega
  · rw [hv]
    generalize val (win rs (k - 1) n) % V = R at *
    have h5 : pw (k - 1) * (R + 1) ≤ pw (k - 1) * V := Nat.mul_le_mul_left _ hml
    rw [Nat.mul_add, Nat.mul_comm _ V] at h5
    omega

theorem long_end {x y s V N q r : Nat} (hV : V = y * 2 ^ s) (hN : N = x * 2 ^ s) (hr : r < V) (h : r + V * q = N) : q = x / y ∧ r / 2 ^ s = x % y := by
  have hp := Nat.two_pow_pos s
  have hy : 0 < y := by
    rcases Nat.eq_zero_or_pos y with e | e
    · subst e; rw [Nat.zero_mul] at hV; omega
    · exact e
  have h1 : N / V = q := by
    rw [← h, Nat.add_mul_div_left _ _ (by omega), Nat.div_eq_of_lt hr, Nat.zero_add]
  have h2 : N % V = r := by rw [← h, Nat.add_mul_mod_self_left, Nat.mod_eq_of_lt hr]
  constructor
  · rw [← h1, hV, hN, Nat.mul_div_mul_right _ _ hp]
  · rw [← h2, hV, hN, Nat.mul_mod_mul_right, Nat.mul_div_cancel _ hp]

theorem long_out {w wr w6 : World} {g3 m k1 k2 n q r : Nat} {qs es6 : List Nat} (hbel : Below w.heap.size w wr) (hN : Nw wr w.heap.size (some ⟨g3, 0, none⟩) m m qs) (hk1 : k1 ≤ m) (ht1 : qs.take k1 = digs q)
    (hB6 : Blk w6 wr.heap.size es6) (hL6 : Lim es6) (hl6 : es6.length = n) (hn : n ≤ 900000) (hv6 : val es6 = r) (hb6 : Below wr.heap.size wr.drew w6) (hk2 : k2 ≤ n) (ht2 : es6.take k2 = digs (val es6)) :
    OutQ w q r (.returned (.tuple #[.slice (some ⟨g3, 0, none⟩) k1 m, .slice (some ⟨wr.heap.size, 0, none⟩) k2 n])) w6 := by
  have hb6' : Below wr.heap.size wr w6 := ⟨hb6.os, hb6.tape, hb6.output, hb6.size, hb6.block⟩
  refine ⟨_, _, _, _, _, _, rfl, ?_, ?_, hbel.trans (hb6'.mono hbel.size)⟩
  · rw [← ht1]; exact (hN.take hk1).below hb6'
  · rw [← hv6, ← ht2]; exact (hB6.nw hL6 hl6 (by omega) hbel.size).take hk2

set_option maxHeartbeats 3200000 in
theorem long_any (A B : Option Addr) (na ca n cb : Nat) (xs ys : List Nat) (w : World) (ha : Rd w A na ca xs) (hb : Rd w B n cb ys) (hn : 2 ≤ n) (hnn : n ≤ na) (hna : na ≤ 400000) (hy : el ys (n - 1) ≠ 0) :
    Calls Tryz.prog 193 #[.slice A na ca, .slice B n cb] w (OutQ w (val xs / val ys) (val xs % val ys)) := by
  have hv0 : 0 < el ys (n - 1) := by omega
  have hv1 := el_lt hb.lim (n - 1)
  have hlz := (lz_facts hv0 hv1).1
  obtain ⟨s, hs⟩ : ∃ s, lz (el ys (n - 1)) = s := ⟨_, rfl⟩
  have HS := Lib.hid hs
  rw [hs] at hlz
  clear hs
  obtain ⟨bb, bo, rfl, hbb, hcB⟩ := hb.at_ (by omega)
  have hcy := hcB (n - 1) (by omega)
  clear hcB
  go_enter Tryz.func193, Tryz.ntmps193
  go_wp2_with fail
  refine (lz_any _ _ hv0 hv1).mono ?_
  rw [HS.out]
  rintro e w' ⟨rfl, rfl⟩
  go_wp2_with fail
  refine (shl_any _ _ _ s xs _ ha (by omega) hlz).mono ?_
  rintro e w1 ⟨r0, rfl, hB1, hr0l, hr0L, hr0v, hb1⟩
  go_wp2_with fail
  refine (shl_any _ _ _ s ys _ (hb.below hb1) (by omega) hlz).mono ?_
  rintro e w2 ⟨es, rfl, hB2, hesl, hesL, hesv, hb2⟩
  have HX : Hid (r0.length = na + 1 ∧ val r0 = val xs * 2 ^ s ∧ es.length = n + 1 ∧ val es = val ys * 2 ^ s) := ⟨hr0l, hr0v, hesl, hesv⟩
  clear hr0l hr0v hesl hesv
  have hmk := fun W => mk32 ((na : Int) - (n : Int) + 1) (na - n + 1) (by omega) (by omega) W
  go_wp2
  have hg2 : w.heap.size < w1.heap.size := hB1.lt
  have hg3 : w1.heap.size < w2.heap.size := hB2.lt
  have hB1' := hB1.below hb2 hg2
  have hb3 : Below w.heap.size w (w2.alloc (Obj.cells (vals (zeros (na - n + 1))) 69)) := (hb1.trans (hb2.mono hb1.size)).alloc (Nat.le_trans hb1.size hb2.size) _
  have hB1a := hB1'.alloc (Obj.cells (vals (zeros (na - n + 1))) 69)
  have hB2a := hB2.alloc (Obj.cells (vals (zeros (na - n + 1))) 69)
  have hB3a := Blk.new w2 (zeros (na - n + 1))
  generalize hw3 : w2.alloc (Obj.cells (vals (zeros (na - n + 1))) 69) = w3 at *
  clear hw3 hB1 hB2 hB1' hb1 hb2 hmk
  generalize w1.heap.size = g2 at *
  generalize w2.heap.size = g3 at *
  obtain ⟨V, N, hVN⟩ : ∃ V N, val es = V ∧ val r0 = N := ⟨_, _, rfl, rfl⟩
  have HNV := Lib.hid (norm_V hb.lim hb.len (by omega) hlz (by rw [← HS.out]; exact (lz_facts hv0 hv1).2.1) (by rw [← HS.out]; exact (lz_facts hv0 hv1).2.2))
  have HVn := Lib.hid (show V < pw n by rw [← hVN.1, HX.out.2.2.2]; exact HNV.out.2)
  have HVt := Lib.hid (show val (es.take n) = V by rw [← hVN.1]; exact (el_zero_of_lt (by rw [hVN.1]; exact HVn.out)).1)
  have HVl := Lib.hid (show 2147483648 * pw (n - 1) ≤ V by rw [← hVN.1, HX.out.2.2.2]; exact HNV.out.1)
  have HNl := Lib.hid (norm_N (N := N) (V := V) (na := na) (n := n) (by rw [← hVN.2]; exact HX.out.2.1) (by have := val_lt ha.lim; rw [ha.len] at this; exact this) hlz (by omega) hnn HVl.out)
  have HVN := Lib.hid hVN
  have hel : n ≤ es.length := by rw [HX.out.2.2.1]; omega
  have htop := top_pos hesL (by omega) HVt.out HVl.out
  clear hVN
  go_loopw [11] (fun tv wr => LongRel w g2 g3 (na - n + 1) (na + 1) V N es tv wr) (fun tv _ => (intOf tv + 1).toNat)
  case atStart => exact ⟨na - n + 1, r0, zeros (na - n + 1), Nat.le_refl _, by congr 1; omega, hB1a, HX.out.1, hr0L, hB2a, hB3a, zeros_len _, Lim_zeros _, fun j _ => el_zeros _ _, by rw [val_zeros_, Nat.mul_zero, HVN.out.2]; rfl, by rw [HVN.out.2]; exact HNl.out, hb3⟩
  case round =>
    obtain ⟨k, rs, qs, hk, rfl, hR, hrl, hrL, hE, hQ, hql, hqL, hqz, heq, hlt, hbel⟩ := hrel
    have HF := Lib.hid (show rs.length = na + 1 ∧ qs.length = na - n + 1 ∧ (∀ j, j < k → el qs j = 0) ∧ val rs + V * val qs = N ∧ val rs < V * pw k from ⟨hrl, hql, hqz, heq, hlt⟩)
    clear hrl hql hqz heq hlt hB1a hB2a hB3a hb3 hcy
    by_cases hk0 : k = 0
    · subst hk0
      have hr0 : Hid (val rs < V) := by
        show val rs < V
        have := HF.out.2.2.2.2
        rwa [show pw 0 = 1 from rfl, Nat.mul_one] at this
      have HEND := Lib.hid (long_end (x := val xs) (y := val ys) (s := s) (by rw [← HVN.out.1]; exact HX.out.2.2.2) (by rw [← HVN.out.2]; exact HX.out.2.1) hr0.out HF.out.2.2.2.1)
      have HRT := Lib.hid (el_zero_of_lt (es := rs) (n := n) (Nat.lt_trans hr0.out HVn.out)).1
      have HNq := Lib.hid (hQ.nw (n := na - n + 1) hqL HF.out.2.1 (by omega) (Nat.le_of_lt (Nat.lt_trans hg2 hg3)))
      have HNr := Lib.hid ((hR.nw (n := na + 1) hrL HF.out.1 (by omega) (Nat.le_refl w.heap.size)).take (k := n) (by omega))
      have hsz := hbel.size
      clear hR hE hQ
      go_wp2
      go_region_with (first
        | (go_at_call 223; refine (shr_any _ _ _ s (rs.take n) _ ?_ (by omega) hlz).mono ?_; exact HNr.out.1.drew; rintro e w6 ⟨es6, rfl, hB6, hl6, hL6, hv6, hb6⟩; have H6 := Lib.hid (And.intro hl6 hv6); clear hl6 hv6)
        | (go_at_call 101; refine (trimmed_any _ _ _ qs _ ?_).mono ?_; exact HNq.out.1.drew; rintro e w' ⟨k1, rfl, hk1, ht1, rfl⟩; have HT1 := Lib.hid ht1; clear ht1)
        | (go_at_call 101; (refine (trimmed_any _ _ _ es6 _ ?_).mono ?_; exact (hB6.nw hL6 H6.out.1 (by omega) (Nat.zero_le _)).1; rintro e w' ⟨k2, rfl, hk2, ht2, rfl⟩; have HT2 := Lib.hid ht2; clear ht2)))
      all_goals
        have HFIN := Lib.hid (long_out (w := w) (wr := wr) (w6 := w6) (q := val xs / val ys) (r := val xs % val ys) hbel HNq.out hk1 (by rw [HT1.out, HEND.out.1]) hB6 hL6 H6.out.1 (by omega) (by rw [H6.out.2, HRT.out]; exact HEND.out.2) hb6 hk2 HT2.out)
        clear hB6 hb6
        go_wp2
        go_ret2
        exact HFIN.out
    · have i0 : (0 : Int) ≤ (k : Int) - 1 := by omega
      have i1 : (k : Int) - 1 ≤ (k : Int) - 1 + (n : Int) + 1 := by omega
      have i2 : (k : Int) - 1 + (n : Int) + 1 ≤ (na : Int) + 1 := by omega
      have i3 : ¬ (na + 1 = k - 1) := by omega
      have hkk : Hid (k - 1 + 1 = k) := by show k - 1 + 1 = k; omega
      have hV0 : 0 < V := by have := HVl.out; have := pw_pos (n - 1); omega
      have HWV := Lib.hid (win_val (rs := rs) (i := k - 1) (n := n) (V := V) (by rw [HF.out.1]; omega) HVn.out (by rw [hkk.out]; exact HF.out.2.2.2.2))
      have hwl0 := win_len (rs := rs) (i := k - 1) (n := n) (by rw [HF.out.1]; omega)
      have HWL := Lib.hid hwl0
      clear hwl0
      have HKN := Lib.hid (knuth_all (win rs (k - 1) n) es n V hn HWL.out (win_lim hrL _ _) hesL HVt.out htop HWV.out.2.2)
      have E0 := Lib.hid (win_el rs (k - 1) n n (Nat.le_refl _))
      have E1 := Lib.hid (win_el rs (k - 1) n (n - 1) (by omega))
      have E2 := Lib.hid (win_el rs (k - 1) n (n - 2) (by omega))
      go_wp2_with fail
      rw [show k - 1 + n + 1 - (k - 1) = n + 1 by omega]
      refine (guess_any w.heap.size g2 (k - 1) n _ _ (val (win rs (k - 1) n) / V) rs es wr hR hE hrL hesL hn (by omega) (by rw [HF.out.1]; omega) hel htop (by rw [← E0.out]; exact HKN.out.1) HKN.out.2.1 (by rw [← E0.out, ← E1.out, ← E2.out]; exact HKN.out.2.2.1)).mono ?_
      rw [← E0.out, ← E1.out, ← E2.out]
      rintro e w' ⟨G, rfl, ⟨q, rfl⟩, hG1, hG2, hG3⟩
      have HOR := Lib.hid (HKN.out.2.2.2 G hG1 hG2 hG3)
      clear hG3
      have hpl : Hid ((rs.take (k - 1)).length = k - 1) := by show (rs.take (k - 1)).length = k - 1; rw [List.length_take, HF.out.1]; omega
      have hR2 : Blk (wr.drewN q) w.heap.size (rs.take (k - 1) ++ (win rs (k - 1) n ++ rs.drop (k - 1 + n + 1))) := by rw [win_split]; exact hR.drewN q
      go_wp2_with fail
      refine (take_at (k - 1) w.heap.size g2 n _ _ G (rs.take (k - 1)) (win rs (k - 1) n) (rs.drop (k - 1 + n + 1)) es _ hpl.out hR2 (hE.drewN q) (by omega) HWL.out (win_lim hrL _ _) hesL hel hG2 (by omega)).mono ?_
      rintro e w4 ⟨ws, bo', hbo, rfl, hB4, hwl, hwL, hg4, hval⟩
      rw [HVt.out] at hval
      have HW := Lib.hid hwl
      have HVAL := Lib.hid hval
      clear hwl hval
      have hQ4 := (hQ.drewN q).other hg4 (by omega)
      have hE4 := (hE.drewN q).other hg4 (by omega)
      have hbel4 : Below w.heap.size w w4 := (below_drewN' hbel q).grown hg4 (by exact hbel.size) (fun x hx => by injection hx with hx; omega)
      have hWP : Hid (val ws < pw (n + 1)) := by show val ws < pw (n + 1); have := val_lt hwL; rwa [HW.out] at this
      have hVP : Hid (V < pw (n + 1)) := by show V < pw (n + 1); exact Nat.lt_of_lt_of_le HVn.out (pw_le (by omega))
      clear hg4 hR2
      rcases HOR.out with hGe | hGe
      · have hst := step_right (U := val (win rs (k - 1) n)) (V := V) (W := val ws) (P := pw (n + 1)) (bo := bo') hV0 hWP.out hbo (by rw [← hGe]; exact HVAL.out)
        obtain rfl := hst.1
        have hf := hQ4.frozen (k - 1)
        have hc0 := hQ4.cell (i := k - 1) (by rw [HF.out.2.1]; omega)
        have R := fun S hS => LongRel.step (S := S) hg2 hg3 hk hk0 HF.out.1 (by omega) hrL HVn.out hV0 hB4 HW.out hwL hE4 hQ4 HF.out.2.1 hqL HF.out.2.2.1 HF.out.2.2.2.1 HF.out.2.2.2.2 hbel4 hst.2 HKN.out.2.1 hS
        have HR := Lib.hid R
        have HGE := Lib.hid hGe
        clear R hGe hst
        go_wp2
        go_roundw
        case rel => exact HR.out _ (by rw [HGE.out])
        case measure => simp [intOf]; omega
      · have hst := step_over (U := val (win rs (k - 1) n)) (V := V) (W := val ws) (P := pw (n + 1)) (bo := bo') hVP.out hV0 hbo (by rw [← hGe]; exact HVAL.out)
        obtain rfl := hst.1
        have HST := Lib.hid hst.2
        have HGE := Lib.hid hGe
        have hG0 : 1 ≤ G := by rw [hGe]; exact Nat.succ_pos _
        clear hst hGe
        go_wp2_with fail
        refine (put_at (k - 1) w.heap.size g2 n _ _ (rs.take (k - 1)) ws (rs.drop (k - 1 + n + 1)) es _ hpl.out hB4 hE4 (by omega) HW.out hwL hesL hel (by omega)).mono ?_
        rintro e w5 ⟨ws2, kk, rfl, hB5, hwl2, hwL2, hg5, hval2⟩
        rw [HVt.out] at hval2
        have hQ5 := hQ4.other hg5 (by omega)
        have hE5 := hE4.other hg5 (by omega)
        have hbel5 : Below w.heap.size w w5 := hbel4.grown hg5 hbel4.size (fun x hx => by injection hx with hx; omega)
        have hrem := HST.out (val ws2) kk (by have := val_lt hwL2; rwa [hwl2] at this) hval2
        have R := fun S hS => LongRel.step (S := S) hg2 hg3 hk hk0 HF.out.1 (by omega) hrL HVn.out hV0 hB5 hwl2 hwL2 hE5 hQ5 HF.out.2.1 hqL HF.out.2.2.1 HF.out.2.2.2.1 HF.out.2.2.2.2 hbel5 hrem HKN.out.2.1 hS
        have HR := Lib.hid R
        have hf := hQ5.frozen (k - 1)
        have hc0 := hQ5.cell (i := k - 1) (by rw [HF.out.2.1]; omega)
        clear R hrem hval2 hwl2 hg5 hB5
        go_wp2
        go_roundw
        case rel => exact HR.out _ (by have := HGE.out; generalize val (win rs (k - 1) n) / V = z at *; omega)
        case measure => simp [intOf]; omega
end Go.Proofs.YtehekjlakegkpaaGreat
end
