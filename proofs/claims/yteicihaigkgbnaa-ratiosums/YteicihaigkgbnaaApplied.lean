/-
  What (limb.steps).idle and applied do. For steps that make R0 and R1 of two naturals that can be read.
-/
import Derived.Test.YteicihaigkgbnaaForesee
import Derived.Test.YteicihaigkgbnaaLong
import Derived.Deep.RegionHeld3
namespace Go.Proofs.Yteicihaigkgbnaa
open Go.RowKit

set_option maxHeartbeats 400000 in
theorem idle_any (a0 b0 a1 b1 : Nat) (ev z : Bool) (w : World) (hz : ((b0 : Int) == 0) = z) :
    Calls Try.prog 74 #[.agg #[.int .u64 a0, .int .u64 b0, .int .u64 a1, .int .u64 b1, .bool ev]] w fun e w' => e = .returned (.bool z) ∧ Below w.heap.size w w' := by
  go_enter Try.func74, Try.ntmps74
  go_wp2
  go_ret
  exact ⟨rfl, (Below.refl _ _).alloc (Nat.le_refl _) _⟩

set_option maxHeartbeats 1600000 in
theorem applied_t (A B : Option Addr) (n c m d a0 b0 a1 b1 R0 R1 : Nat) (xs ys : List Nat) (w : World) (ha : Rd w A n c xs) (hb : Rd w B m d ys)
    (h0 : ∀ W, Rd W A n c xs → Rd W B m d ys → Calls Try.prog 85 #[.slice A n c, .int .u64 a0, .slice B m d, .int .u64 b0] W (Out W (digs R0)))
    (h1 : ∀ W, Rd W A n c xs → Rd W B m d ys → Calls Try.prog 85 #[.slice B m d, .int .u64 b1, .slice A n c, .int .u64 a1] W (Out W (digs R1))) :
    Calls Try.prog 75 #[.agg #[.int .u64 a0, .int .u64 b0, .int .u64 a1, .int .u64 b1, .bool true], .slice A n c, .slice B m d] w (OutQ w R0 R1) := by
  have H0 := Lib.hid h0
  have H1 := Lib.hid h1
  clear h0 h1
  go_enter Try.func75, Try.ntmps75
  go_wp2
  have hB : Bst (w.alloc (Obj.cells #[Value.int IntKind.u64 (a0 : Int), Value.int IntKind.u64 (b0 : Int), Value.int IntKind.u64 (a1 : Int), Value.int IntKind.u64 (b1 : Int), Value.bool true] 92)) w.heap.size a0 b0 a1 b1 true := heap_alloc_new w _
  have hbw : Below w.heap.size w (w.alloc (Obj.cells #[Value.int IntKind.u64 (a0 : Int), Value.int IntKind.u64 (b0 : Int), Value.int IntKind.u64 (a1 : Int), Value.int IntKind.u64 (b1 : Int), Value.bool true] 92)) := (Below.refl _ _).alloc (Nat.le_refl _) _
  generalize w.alloc (Obj.cells #[Value.int IntKind.u64 (a0 : Int), Value.int IntKind.u64 (b0 : Int), Value.int IntKind.u64 (a1 : Int), Value.int IntKind.u64 (b1 : Int), Value.bool true] 92) = W0 at *
  have K0 := hB.cells
  have haW := ha.below hbw
  have hbW := hb.below hbw
  have hsz := hbw.size
  have hlt := hB.lt
  go_region_held3 (fun w' => w'.cell? ⟨w.heap.size, 0, none⟩ = some (.int .u64 a0) ∧ w'.cell? ⟨w.heap.size, 1, none⟩ = some (.int .u64 b0) ∧ w'.cell? ⟨w.heap.size, 2, none⟩ = some (.int .u64 a1) ∧ w'.cell? ⟨w.heap.size, 3, none⟩ = some (.int .u64 b1) ∧ w'.cell? ⟨w.heap.size, 4, none⟩ = some (.bool true))
    (first | exact K0 | exact K1 | exact K2)
    (first
      | (go_at_call 85; (with_reducible refine (H0.out _ ?_ ?_).mono ?_); exact haW.drew; exact hbW.drew; rintro e w1 ⟨A1, n1, c1, rfl, hN1, hb1⟩; have hb1' : Below W0.heap.size W0 w1 := ⟨hb1.os, hb1.tape, hb1.output, hb1.size, hb1.block⟩; have K1 := (show Bst w1 w.heap.size a0 b0 a1 b1 true from (hb1'.block _ hlt).trans hB).cells)
      | (go_at_call 85; (with_reducible refine (H1.out _ ?_ ?_).mono ?_); exact haW.below hb1'; exact hbW.below hb1'; rintro e w2 ⟨A2, n2, c2, rfl, hN2, hb2⟩; have K2 := (show Bst w2 w.heap.size a0 b0 a1 b1 true from (hb2.block _ (Nat.lt_of_lt_of_le hlt hb1'.size)).trans ((hb1'.block _ hlt).trans hB)).cells))
  all_goals
    have HF := Lib.hid (show OutQ w R0 R1 (.returned (.tuple #[.slice A1 n1 c1, .slice A2 n2 c2])) w2 from
      ⟨_, _, _, _, _, _, rfl, (hN1.mono hsz).below hb2, hN2.mono (Nat.le_trans hsz hb1'.size), (hbw.trans (hb1'.mono hsz)).trans (hb2.mono (Nat.le_trans hsz hb1'.size))⟩)
    go_wp2
    go_ret2
    exact HF.out
set_option maxHeartbeats 1600000 in
theorem applied_f (A B : Option Addr) (n c m d a0 b0 a1 b1 R0 R1 : Nat) (xs ys : List Nat) (w : World) (ha : Rd w A n c xs) (hb : Rd w B m d ys)
    (h0 : ∀ W, Rd W A n c xs → Rd W B m d ys → Calls Try.prog 85 #[.slice B m d, .int .u64 b0, .slice A n c, .int .u64 a0] W (Out W (digs R0)))
    (h1 : ∀ W, Rd W A n c xs → Rd W B m d ys → Calls Try.prog 85 #[.slice A n c, .int .u64 a1, .slice B m d, .int .u64 b1] W (Out W (digs R1))) :
    Calls Try.prog 75 #[.agg #[.int .u64 a0, .int .u64 b0, .int .u64 a1, .int .u64 b1, .bool false], .slice A n c, .slice B m d] w (OutQ w R0 R1) := by
  have H0 := Lib.hid h0
  have H1 := Lib.hid h1
  clear h0 h1
  go_enter Try.func75, Try.ntmps75
  go_wp2
  have hB : Bst (w.alloc (Obj.cells #[Value.int IntKind.u64 (a0 : Int), Value.int IntKind.u64 (b0 : Int), Value.int IntKind.u64 (a1 : Int), Value.int IntKind.u64 (b1 : Int), Value.bool false] 92)) w.heap.size a0 b0 a1 b1 false := heap_alloc_new w _
  have hbw : Below w.heap.size w (w.alloc (Obj.cells #[Value.int IntKind.u64 (a0 : Int), Value.int IntKind.u64 (b0 : Int), Value.int IntKind.u64 (a1 : Int), Value.int IntKind.u64 (b1 : Int), Value.bool false] 92)) := (Below.refl _ _).alloc (Nat.le_refl _) _
  generalize w.alloc (Obj.cells #[Value.int IntKind.u64 (a0 : Int), Value.int IntKind.u64 (b0 : Int), Value.int IntKind.u64 (a1 : Int), Value.int IntKind.u64 (b1 : Int), Value.bool false] 92) = W0 at *
  have K0 := hB.cells
  have haW := ha.below hbw
  have hbW := hb.below hbw
  have hsz := hbw.size
  have hlt := hB.lt
  go_region_held3 (fun w' => w'.cell? ⟨w.heap.size, 0, none⟩ = some (.int .u64 a0) ∧ w'.cell? ⟨w.heap.size, 1, none⟩ = some (.int .u64 b0) ∧ w'.cell? ⟨w.heap.size, 2, none⟩ = some (.int .u64 a1) ∧ w'.cell? ⟨w.heap.size, 3, none⟩ = some (.int .u64 b1) ∧ w'.cell? ⟨w.heap.size, 4, none⟩ = some (.bool false))
    (first | exact K0 | exact K1 | exact K2)
    (first
      | (go_at_call 85; (with_reducible refine (H0.out _ ?_ ?_).mono ?_); exact haW.drew; exact hbW.drew; rintro e w1 ⟨A1, n1, c1, rfl, hN1, hb1⟩; have hb1' : Below W0.heap.size W0 w1 := ⟨hb1.os, hb1.tape, hb1.output, hb1.size, hb1.block⟩; have K1 := (show Bst w1 w.heap.size a0 b0 a1 b1 false from (hb1'.block _ hlt).trans hB).cells)
      | (go_at_call 85; (with_reducible refine (H1.out _ ?_ ?_).mono ?_); exact haW.below hb1'; exact hbW.below hb1'; rintro e w2 ⟨A2, n2, c2, rfl, hN2, hb2⟩; have K2 := (show Bst w2 w.heap.size a0 b0 a1 b1 false from (hb2.block _ (Nat.lt_of_lt_of_le hlt hb1'.size)).trans ((hb1'.block _ hlt).trans hB)).cells))
  all_goals
    have HF := Lib.hid (show OutQ w R0 R1 (.returned (.tuple #[.slice A1 n1 c1, .slice A2 n2 c2])) w2 from
      ⟨_, _, _, _, _, _, rfl, (hN1.mono hsz).below hb2, hN2.mono (Nat.le_trans hsz hb1'.size), (hbw.trans (hb1'.mono hsz)).trans (hb2.mono (Nat.le_trans hsz hb1'.size))⟩)
    go_wp2
    go_ret2
    exact HF.out
end Go.Proofs.Yteicihaigkgbnaa
