/-
  The walk of the law VotersNil: it returns true, whatever the call, and writes nothing that was there.
-/
import Derived.Test.YtblclpagfbpamaaVsome
import Derived.BigQuiet
namespace Go.Proofs.Ytblclpagfbpamaa
open Go.RowKit
set_option linter.unusedVariables false
set_option maxRecDepth 100000 in
set_option maxHeartbeats 3200000 in
theorem vnil_walk (k a b : Int) (v : Nat) (ha : (Lit.int .i64 a).wf = true) (w : World) :
    Calls Try.prog 6 #[.agg #[.int .i64 k, .int .i64 a, .int .i64 b, .int .u64 (v : Nat)]] w fun e w' => e = .returned (.bool true) ∧ Below w.heap.size w w' := by
  have hb0 : Below w.heap.size w (w.alloc (.cells #[.int .i64 k, .int .i64 a, .int .i64 b, .int .u64 (v : Nat)] 36)) := (Below.refl _ _).alloc (Nat.le_refl _) _
  have hk := KB.new w 36 #[.int .i64 k, .int .i64 a, .int .i64 b, .int .u64 (v : Nat)]
  go_enter Try.func6, Try.ntmps6
  go_wp2_with fail
  generalize hGe : w.heap.size = G at hk hb0 ⊢
  have HGe := Lib.hid hGe
  clear hGe
  generalize (w.alloc (.cells #[.int .i64 k, .int .i64 a, .int .i64 b, .int .u64 (v : Nat)] 36)) = wA at hk hb0 ⊢
  refine (wakeV_any _).mono ?_
  rintro e w0 ⟨rfl, hb⟩
  have K := Lib.hid (hk.below hb hk.lt)
  have B := Lib.hid (hb0.trans (hb.mono (by have := hk.lt; omega)))
  clear hk hb hb0
  have x1 := K.out.cell 1
  have x2 := K.out.cell 2
  have x3 := K.out.cell 3
  simp at x1 x2 x3
  go_wp2_with fail
  refine (vbag_nil a _).mono ?_
  rintro e w1 ⟨rfl, hb⟩
  have K' := Lib.hid (K.out.below hb K.out.lt)
  have B' := Lib.hid (B.out.trans (hb.mono (by have := K.out.lt; omega)))
  clear K B hb x1 x2 x3
  have K := K'
  have B := B'
  clear K' B'
  have x1 := K.out.cell 1
  have x2 := K.out.cell 2
  have x3 := K.out.cell 3
  simp at x1 x2 x3
  go_wp2_with fail
  refine (vstake_nil a _).mono ?_
  rintro e w2 ⟨rfl, hb⟩
  have K' := Lib.hid (K.out.below hb K.out.lt)
  have B' := Lib.hid (B.out.trans (hb.mono (by have := K.out.lt; omega)))
  clear K B hb x1 x2 x3
  have K := K'
  have B := B'
  clear K' B'
  have x1 := K.out.cell 1
  have x2 := K.out.cell 2
  have x3 := K.out.cell 3
  simp at x1 x2 x3
  go_wp2_with fail
  refine (vins_nil a v _).mono ?_
  rintro e w3 ⟨rfl, rfl⟩
  go_wp2_with fail
  refine (vrem_nil a _).mono ?_
  rintro e w4 ⟨rfl, hb⟩
  have K' := Lib.hid (K.out.below hb K.out.lt)
  have B' := Lib.hid (B.out.trans (hb.mono (by have := K.out.lt; omega)))
  clear K B hb x1 x2 x3
  have K := K'
  have B := B'
  clear K' B'
  have x1 := K.out.cell 1
  have x2 := K.out.cell 2
  have x3 := K.out.cell 3
  simp at x1 x2 x3
  go_wp2_with fail
  refine (vupd_nil a v _).mono ?_
  rintro e w5 ⟨rfl, hb⟩
  have K' := Lib.hid (K.out.below hb K.out.lt)
  have B' := Lib.hid (B.out.trans (hb.mono (by have := K.out.lt; omega)))
  clear K B hb x1 x2 x3
  have K := K'
  have B := B'
  clear K' B'
  have x1 := K.out.cell 1
  have x2 := K.out.cell 2
  have x3 := K.out.cell 3
  simp at x1 x2 x3
  go_wp2_with fail
  refine (vreb_nil a _).mono ?_
  rintro e w6 ⟨rfl, hb⟩
  have K' := Lib.hid (K.out.below hb K.out.lt)
  have B' := Lib.hid (B.out.trans (hb.mono (by have := K.out.lt; omega)))
  clear K B hb x1 x2 x3
  have K := K'
  have B := B'
  clear K' B'
  have x1 := K.out.cell 1
  have x2 := K.out.cell 2
  have x3 := K.out.cell 3
  simp at x1 x2 x3
  go_wp2_with fail
  refine (vfro_nil a b _).mono ?_
  rintro e w7 ⟨rfl, hb⟩
  have K' := Lib.hid (K.out.below hb K.out.lt)
  have B' := Lib.hid (B.out.trans (hb.mono (by have := K.out.lt; omega)))
  clear K B hb x1 x2 x3
  have K := K'
  have B := B'
  clear K' B'
  have x1 := K.out.cell 1
  have x2 := K.out.cell 2
  have x3 := K.out.cell 3
  simp at x1 x2 x3
  go_wp2_with fail
  refine (vlen_nil _).mono ?_
  rintro e w8 ⟨rfl, rfl⟩
  go_wp2_with fail
  refine (lall_nil _).mono ?_
  rintro e w9 ⟨⟨Ax, cx, rfl⟩, hb⟩
  have K' := Lib.hid (K.out.below hb K.out.lt)
  have B' := Lib.hid (B.out.trans (hb.mono (by have := K.out.lt; omega)))
  clear K B hb x1 x2 x3
  have K := K'
  have B := B'
  clear K' B'
  have x1 := K.out.cell 1
  have x2 := K.out.cell 2
  have x3 := K.out.cell 3
  simp at x1 x2 x3
  go_wp2_with fail
  refine (lrows_nil _).mono ?_
  rintro e w10 ⟨⟨Ay, cy, rfl⟩, hb⟩
  have K' := Lib.hid (K.out.below hb K.out.lt)
  have B' := Lib.hid (B.out.trans (hb.mono (by have := K.out.lt; omega)))
  clear K B hb x1 x2 x3
  have K := K'
  have B := B'
  clear K' B'
  have x1 := K.out.cell 1
  have x2 := K.out.cell 2
  have x3 := K.out.cell 3
  simp at x1 x2 x3
  go_wp2_with fail
  refine (vtake_nil a ha _).mono ?_
  rintro e w11 ⟨rfl, hb⟩
  have K' := Lib.hid (K.out.below hb K.out.lt)
  have B' := Lib.hid (B.out.trans (hb.mono (by have := K.out.lt; omega)))
  clear K B hb x1 x2 x3
  have K := K'
  have B := B'
  clear K' B'
  have x1 := K.out.cell 1
  have x2 := K.out.cell 2
  have x3 := K.out.cell 3
  simp at x1 x2 x3
  go_wp2
  go_ret
  exact ⟨rfl, by rw [HGe.out]; exact B.out⟩
end Go.Proofs.Ytblclpagfbpamaa
