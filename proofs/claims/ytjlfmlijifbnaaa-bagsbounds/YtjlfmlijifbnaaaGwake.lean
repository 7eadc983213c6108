/-
  What the law's own awake does: it answers true, and writes nothing that was there. No conditions.
-/
import Derived.Test.YtjlfmlijifbnaaaGbnd
namespace Go.Proofs.Ytjlfmlijifbnaaa
open Go.RowKit
set_option linter.unusedVariables false

theorem belowDrG {B : Nat} {a w : World} (h : Below B a w) (q : Nat) : Below B a (w.drewN q) := ⟨h.os, h.tape, h.output, h.size, h.block⟩
theorem rk_two (k : IntKind) (T : TypeId) (w : World) (v u : Int) (N M : Nat) (h : v = N) (h2 : u = M) : Rk k (w.alloc (.cells #[.int k v, .int k u] T)) (some ⟨w.heap.size, 0, none⟩) 2 2 [N, M] := by
  subst h h2
  exact (Bkk.new k T w [N, M]).rk rfl (by omega)
theorem bagM_wake : bagM [10, 20] 11 = (1, 0) := by decide
set_option maxHeartbeats 800000 in
theorem gwake_any (w : World) : Calls Try.prog 5 #[] w fun e w' => e = .returned (.bool true) ∧ Below w.heap.size w w' := by
  have hR := rk_two .u64 23 w 10 20 10 20 rfl rfl
  have hB := bag_any _ _ _ [10, 20] 11 _ hR (Bl_cons (by omega) (Bl_cons (by omega) (Bl_nil _)))
  rw [bagM_wake] at hB
  have HB := Lib.hid hB
  clear hR hB
  go_enter Try.func5, Try.ntmps5
  go_wp2_with fail
  refine HB.out.mono ?_
  rintro e w1 ⟨rfl, q, rfl⟩
  have HA := Lib.hid (belowDrG ((Below.refl w.heap.size w).alloc (Nat.le_refl _) (.cells #[.int .u64 10, .int .u64 20] 23)) q)
  go_wp2
  go_ret
  exact ⟨rfl, HA.out⟩
end Go.Proofs.Ytjlfmlijifbnaaa
