/-
  What find, Bag, Stake, Len and proper of package voters answer; of nil voters too. The conditions stand in each theorem.
-/
import Derived.Test.YtblclpagfbpamaaVmem
import Derived.Test.YtblclpagfbpamaaGbin
import Derived.Handy
import Derived.Deep.DeepCutAuto
import Derived.Lib.Hide
import Derived.Laws.Rows
import Derived.Laws.ResultCell
namespace Go.Proofs.Ytblclpagfbpamaa
open Go.RowKit
set_option linter.unusedVariables false

theorem vzero (w : World) : (zeroValue 65).run Try.prog w = .ok (voP v00) w := Try.zeroValue65 w
section
variable {base : Nat} {w : World} {s : VS} {T : List Nat} {R : Nat → List (Int × Int)} {f : Int → Option V3} {n : Nat}
/-- The error of a voter that is there or not. -/
def erV (x : Option V3) : Int := if x.isSome then 0 else 5
theorem Vl.look (h : Vl base w s T R f n) (i : Int) (hi : (Lit.int .i64 i).wf = true) : (Instr.lookup 61 (.map s.m) (.int .i64 i) true).run Try.prog w = .ok (.tuple #[voP ((f i).getD v00), .bool (f i).isSome]) w :=
  h.mp.look2 Try.underlying3 Try.underlying61 (vzero w) hi
end
theorem vres {tmps : Array Value} {W : World} {g : Nat} {cs : Array Value} (hk : KB W g 65 cs) (hs : cs.size = 3) (h4 : tmps.getD 4 undef = .pointer (some ⟨g, 0, none⟩)) :
    (results Try.f35 tmps).run Try.prog W = .ok (.tuple #[.agg cs, tmps.getD 5 undef]) W := by
  rw [results_cell_tmp (fn := Try.f35) rfl, h4]
  simp only [asAddr, Sem.run_pure, Result.andThen_ok]
  have := run_loadVar_row (P := Try.prog) W g 65 65 cs (0, 0) _ hk Try.underlying65 rfl (by rw [hs]; kernel_rfl)
  rw [this]
  rfl
theorem KB.set3 {W : World} {g : Nat} {t : TypeId} {a b c : Value} (h : KB W g t #[a, b, c]) (x y z : Value) : KB (((W.setCell ⟨g, 0, none⟩ x).setCell ⟨g, 1, none⟩ y).setCell ⟨g, 2, none⟩ z) g t #[x, y, z] := by
  simpa using ((h.set 0 x).set 1 y).set 2 z
theorem below_set3 {B : Nat} {w W : World} {g : Nat} (h : Below B w W) (hg : B ≤ g) (x y z : Value) : Below B w (((W.setCell ⟨g, 0, none⟩ x).setCell ⟨g, 1, none⟩ y).setCell ⟨g, 2, none⟩ z) :=
  ((h.setCell (p := ⟨g, 0, none⟩) hg x).setCell (p := ⟨g, 1, none⟩) hg y).setCell (p := ⟨g, 2, none⟩) hg z
section
variable {base : Nat} {w : World} {s : VS} {T : List Nat} {R : Nat → List (Int × Int)} {f : Int → Option V3} {n : Nat}
set_option maxHeartbeats 800000 in
/-- find, of a voter that is not there. -/
theorem vfind_no (h : Vl base w s T R f n) (i : Int) (hi : (Lit.int .i64 i).wf = true) (hf : f i = none) :
    Calls Try.prog 35 #[.pointer (some ⟨s.p, 0, none⟩), .int .i64 i] w fun e w' => e = .returned (.tuple #[.agg #[.int .u64 0, .int .i64 0, .int .i64 0], .int .i64 5]) ∧ Below w.heap.size w w' := by
  have b1 : Below w.heap.size w (w.alloc (.cells #[.int .u64 0, .int .i64 0, .int .i64 0] 65)) := (Below.refl _ w).alloc (Nat.le_refl _) _
  have h1 := h.below b1
  have c2 := h1.blk.cell 2
  have hl1 := h1.look i hi
  rw [hf] at hl1
  replace hl1 : (Instr.lookup 61 (.map s.m) (.int .i64 i) true).run Try.prog (w.alloc (.cells #[.int .u64 0, .int .i64 0, .int .i64 0] 65)) = .ok (.tuple #[.agg #[.int .u64 0, .int .i64 0, .int .i64 0], .bool false]) (w.alloc (.cells #[.int .u64 0, .int .i64 0, .int .i64 0] 65)) := hl1
  simp at c2
  have KR := KB.new w 65 #[.int .u64 0, .int .i64 0, .int .i64 0]
  clear h h1 hf
  go_enter Try.func35, Try.ntmps35
  go_upto_region 1 with (fail)
  generalize (w.alloc (.cells #[.int .u64 0, .int .i64 0, .int .i64 0] 65)) = w1 at *
  go_upto_region 4 with (fail)
  have b2 : Below w.heap.size w (w1.alloc (.cells #[.int .u64 0, .int .i64 0, .int .i64 0] 65)) := b1.alloc b1.size _
  have K2 := KR.alloc (.cells #[.int .u64 0, .int .i64 0, .int .i64 0] 65)
  clear c2 hl1 b1
  generalize hG : w1.heap.size = G at *
  generalize (w1.alloc (.cells #[.int .u64 0, .int .i64 0, .int .i64 0] 65)) = w2 at *
  have k0 := K2.cell 0
  have k1 := K2.cell 1
  have k2 := K2.cell 2
  have f0 := K2.frozen 0
  have f1 := K2.frozen 1
  have f2 := K2.frozen 2
  simp at k0 k1 k2
  clear KR
  go_wp2
  (try simp only [Exit.inBlock, Exit.then])
  refine bodyPost_ret (vres (K2.set3 (.int .u64 0) (.int .i64 0) (.int .i64 0)) rfl rfl) rfl ?_
  exact ⟨rfl, below_set3 b2 (Nat.le_refl _) (.int .u64 0) (.int .i64 0) (.int .i64 0)⟩
set_option maxHeartbeats 800000 in
/-- find, of a voter that is there. -/
theorem vfind_yes (h : Vl base w s T R f n) (i : Int) (hi : (Lit.int .i64 i).wf = true) {a b : Nat} {c : Int} (hf : f i = some (a, b, c)) :
    Calls Try.prog 35 #[.pointer (some ⟨s.p, 0, none⟩), .int .i64 i] w fun e w' => e = .returned (.tuple #[.agg #[.int .u64 (a : Nat), .int .i64 (b : Nat), .int .i64 c], .int .i64 0]) ∧ Below w.heap.size w w' := by
  have b1 : Below w.heap.size w (w.alloc (.cells #[.int .u64 0, .int .i64 0, .int .i64 0] 65)) := (Below.refl _ w).alloc (Nat.le_refl _) _
  have h1 := h.below b1
  have c2 := h1.blk.cell 2
  have hl1 := h1.look i hi
  rw [hf] at hl1
  replace hl1 : (Instr.lookup 61 (.map s.m) (.int .i64 i) true).run Try.prog (w.alloc (.cells #[.int .u64 0, .int .i64 0, .int .i64 0] 65)) = .ok (.tuple #[.agg #[.int .u64 (a : Nat), .int .i64 (b : Nat), .int .i64 c], .bool true]) (w.alloc (.cells #[.int .u64 0, .int .i64 0, .int .i64 0] 65)) := hl1
  simp at c2
  have KR := KB.new w 65 #[.int .u64 0, .int .i64 0, .int .i64 0]
  clear h h1 hf
  go_enter Try.func35, Try.ntmps35
  go_upto_region 1 with (fail)
  generalize (w.alloc (.cells #[.int .u64 0, .int .i64 0, .int .i64 0] 65)) = w1 at *
  go_upto_region 4 with (fail)
  have b2 : Below w.heap.size w (w1.alloc (.cells #[.int .u64 (a : Nat), .int .i64 (b : Nat), .int .i64 c] 65)) := b1.alloc b1.size _
  have K2 := KR.alloc (.cells #[.int .u64 (a : Nat), .int .i64 (b : Nat), .int .i64 c] 65)
  have K6 := KB.new w1 65 #[.int .u64 (a : Nat), .int .i64 (b : Nat), .int .i64 c]
  clear c2 hl1 b1
  generalize hG : w1.heap.size = G at *
  generalize (w1.alloc (.cells #[.int .u64 (a : Nat), .int .i64 (b : Nat), .int .i64 c] 65)) = w2 at *
  have g0 := K6.cell 0
  have g1 := K6.cell 1
  have g2 := K6.cell 2
  simp at g0 g1 g2
  clear K6 hG
  have k0 := K2.cell 0
  have k1 := K2.cell 1
  have k2 := K2.cell 2
  have f0 := K2.frozen 0
  have f1 := K2.frozen 1
  have f2 := K2.frozen 2
  simp at k0 k1 k2
  clear KR
  go_wp2
  (try simp only [Exit.inBlock, Exit.then])
  refine bodyPost_ret (vres (K2.set3 (.int .u64 (a : Nat)) (.int .i64 (b : Nat)) (.int .i64 c)) rfl rfl) rfl ?_
  exact ⟨rfl, below_set3 b2 (Nat.le_refl _) (.int .u64 (a : Nat)) (.int .i64 (b : Nat)) (.int .i64 c)⟩
end
set_option maxHeartbeats 800000 in
theorem vfind_nil (i : Int) (w : World) :
    Calls Try.prog 35 #[.pointer none, .int .i64 i] w fun e w' => e = .returned (.tuple #[.agg #[.int .u64 0, .int .i64 0, .int .i64 0], .int .i64 1]) ∧ Below w.heap.size w w' := by
  have b1 : Below w.heap.size w (w.alloc (.cells #[.int .u64 0, .int .i64 0, .int .i64 0] 65)) := (Below.refl _ w).alloc (Nat.le_refl _) _
  have K2 := KB.new w 65 #[.int .u64 0, .int .i64 0, .int .i64 0]
  go_enter Try.func35, Try.ntmps35
  go_upto_region 1 with (fail)
  generalize (w.alloc (.cells #[.int .u64 0, .int .i64 0, .int .i64 0] 65)) = w1 at *
  have k0 := K2.cell 0
  have k1 := K2.cell 1
  have k2 := K2.cell 2
  have f0 := K2.frozen 0
  have f1 := K2.frozen 1
  have f2 := K2.frozen 2
  simp at k0 k1 k2
  go_wp2
  (try simp only [Exit.inBlock, Exit.then])
  refine bodyPost_ret (vres (K2.set3 (.int .u64 0) (.int .i64 0) (.int .i64 0)) rfl rfl) rfl ?_
  exact ⟨rfl, below_set3 b1 (Nat.le_refl _) (.int .u64 0) (.int .i64 0) (.int .i64 0)⟩

/-- What find leaves is loaded from a block of its own. -/
theorem box3 {w w1 : World} (hb : Below w.heap.size w w1) (a b : Nat) (c : Int) : ∃ W, W = w1.alloc (.cells #[.int .u64 (a : Nat), .int .i64 (b : Nat), .int .i64 c] 65) ∧ Below w.heap.size w W ∧ KB W w1.heap.size 65 #[.int .u64 (a : Nat), .int .i64 (b : Nat), .int .i64 c] :=
  ⟨_, rfl, hb.alloc hb.size _, KB.new w1 _ _⟩
set_option maxHeartbeats 800000 in
theorem vbag_of (p : Option Addr) (i : Int) (w : World) (a b : Nat) (c er : Int) (ok : Bool) (hok : (er == 0) = ok)
    (hf : Calls Try.prog 35 #[.pointer p, .int .i64 i] w fun e w' => e = .returned (.tuple #[.agg #[.int .u64 (a : Nat), .int .i64 (b : Nat), .int .i64 c], .int .i64 er]) ∧ Below w.heap.size w w') :
    Calls Try.prog 20 #[.pointer p, .int .i64 i] w fun e w' => e = .returned (.tuple #[.int .i64 (b : Nat), .bool ok]) ∧ Below w.heap.size w w' := by
  go_enter Try.func20, Try.ntmps20
  go_wp2_with fail
  refine hf.mono ?_
  rintro e w1 ⟨rfl, hb⟩
  clear hf
  obtain ⟨W, hW, hbW, hK⟩ := box3 hb a b c
  go_upto_region 2 with (fail)
  rw [← hW]
  have k := hK.cell 1
  simp at k
  clear hW hb
  go_wp2
  go_ret2
  exact ⟨rfl, hbW⟩
set_option maxHeartbeats 800000 in
theorem vstake_of (p : Option Addr) (i : Int) (w : World) (a b : Nat) (c er : Int) (ok : Bool) (hok : (er == 0) = ok)
    (hf : Calls Try.prog 35 #[.pointer p, .int .i64 i] w fun e w' => e = .returned (.tuple #[.agg #[.int .u64 (a : Nat), .int .i64 (b : Nat), .int .i64 c], .int .i64 er]) ∧ Below w.heap.size w w') :
    Calls Try.prog 25 #[.pointer p, .int .i64 i] w fun e w' => e = .returned (.tuple #[.int .u64 (a : Nat), .bool ok]) ∧ Below w.heap.size w w' := by
  go_enter Try.func25, Try.ntmps25
  go_wp2_with fail
  refine hf.mono ?_
  rintro e w1 ⟨rfl, hb⟩
  clear hf
  obtain ⟨W, hW, hbW, hK⟩ := box3 hb a b c
  go_upto_region 2 with (fail)
  rw [← hW]
  have k := hK.cell 0
  simp at k
  clear hW hb
  go_wp2
  go_ret2
  exact ⟨rfl, hbW⟩

section
variable {base : Nat} {w : World} {p : Nat} {T : List Nat} {L : List Vt} {G : Nat}
/-- Bag: a voter's bag, or 0. -/
def bagA (L : List Vt) (i : Int) : Nat := ((fnd L i).map Vt.bag).getD 0
def stA (L : List Vt) (i : Int) : Nat := ((fnd L i).map Vt.st).getD 0
def hasA (L : List Vt) (i : Int) : Bool := (fnd L i).isSome
theorem f3_none {hd : Int → Int} {i : Int} (h : fnd L i = none) : f3 hd L i = none := by unfold f3; rw [h]; rfl
theorem f3_some {hd : Int → Int} {i : Int} {x : Vt} (h : fnd L i = some x) : f3 hd L i = some (x.st, x.bag, hd i) := by unfold f3; rw [h]; rfl
theorem vbag_any (h : VA base w p T L G) (i : Int) (hi : (Lit.int .i64 i).wf = true) :
    Calls Try.prog 20 #[.pointer (some ⟨p, 0, none⟩), .int .i64 i] w fun e w' => e = .returned (.tuple #[.int .i64 (bagA L i : Nat), .bool (hasA L i)]) ∧ Below w.heap.size w w' := by
  obtain ⟨s, hd, rfl, hs⟩ := h
  unfold bagA hasA
  cases hf : fnd L i with
  | none => exact vbag_of _ i w 0 0 0 5 false rfl (vfind_no hs.lay i hi (f3_none hf))
  | some x => exact vbag_of _ i w x.st x.bag (hd i) 0 true rfl (vfind_yes hs.lay i hi (f3_some hf))
theorem vstake_any (h : VA base w p T L G) (i : Int) (hi : (Lit.int .i64 i).wf = true) :
    Calls Try.prog 25 #[.pointer (some ⟨p, 0, none⟩), .int .i64 i] w fun e w' => e = .returned (.tuple #[.int .u64 (stA L i : Nat), .bool (hasA L i)]) ∧ Below w.heap.size w w' := by
  obtain ⟨s, hd, rfl, hs⟩ := h
  unfold stA hasA
  cases hf : fnd L i with
  | none => exact vstake_of _ i w 0 0 0 5 false rfl (vfind_no hs.lay i hi (f3_none hf))
  | some x => exact vstake_of _ i w x.st x.bag (hd i) 0 true rfl (vfind_yes hs.lay i hi (f3_some hf))
theorem vbag_nil (i : Int) (w : World) : Calls Try.prog 20 #[.pointer none, .int .i64 i] w fun e w' => e = .returned (.tuple #[.int .i64 0, .bool false]) ∧ Below w.heap.size w w' :=
  vbag_of none i w 0 0 0 1 false rfl (vfind_nil i w)
theorem vstake_nil (i : Int) (w : World) : Calls Try.prog 25 #[.pointer none, .int .i64 i] w fun e w' => e = .returned (.tuple #[.int .u64 0, .bool false]) ∧ Below w.heap.size w w' :=
  vstake_of none i w 0 0 0 1 false rfl (vfind_nil i w)
set_option maxHeartbeats 400000 in
/-- Len. -/
theorem vlen_any (h : VA base w p T L G) : Calls Try.prog 24 #[.pointer (some ⟨p, 0, none⟩)] w fun e w' => e = .returned (.int .i64 (L.length : Nat)) ∧ w = w' := by
  obtain ⟨s, hd, rfl, hs⟩ := h
  have c2 := hs.lay.blk.cell 2
  have hl := hs.lay.mp.len (t := 61) Try.underlying61 3
  simp at c2
  clear hs
  go_enter Try.func24, Try.ntmps24
  go_wp2
  go_ret
  exact ⟨rfl, rfl⟩
theorem vlen_nil (w : World) : Calls Try.prog 24 #[.pointer none] w fun e w' => e = .returned (.int .i64 0) ∧ w = w' := by
  go_enter Try.func24, Try.ntmps24
  go_wp2
  go_ret
  exact ⟨rfl, rfl⟩
end
section
variable {base : Nat} {w : World} {s : VS} {T : List Nat} {R : Nat → List (Int × Int)} {f : Int → Option V3} {n : Nat}
set_option maxHeartbeats 400000 in
/-- proper. -/
theorem vproper_any (h : Vl base w s T R f n) (x : Nat) :
    Calls Try.prog 39 #[.pointer (some ⟨s.p, 0, none⟩), .int .u64 x] w fun e w' => e = .returned (.int .i64 (bagN T x : Nat)) ∧ ∃ q, w' = w.drewN q := by
  have hB := bag_any s.tA s.tn s.tc T x w h.th.rk h.thB
  rw [show bagM T x = (bagN T x, 0) from if_pos h.ris] at hB
  have c0 := h.blk.cell 0
  simp at c0
  clear h
  go_enter Try.func39, Try.ntmps39
  go_wp2_with fail
  refine hB.mono ?_
  rintro e w1 ⟨rfl, q, rfl⟩
  clear hB
  go_wp2
  go_ret
  exact ⟨rfl, q, rfl⟩
end
end Go.Proofs.Ytblclpagfbpamaa
