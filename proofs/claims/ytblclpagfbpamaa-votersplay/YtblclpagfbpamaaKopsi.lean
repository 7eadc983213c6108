/-
  What the smallest functions of package chain do, at members of the type int: next, previous, at, find, Len, New. The conditions stand in each theorem.
-/
import Derived.Test.YtblclpagfbpamaaKmem
import Derived.Handy
import Derived.Deep.DeepCutAuto
import Derived.Lib.Hide
namespace Go.Proofs.Ytblclpagfbpamaa
open Go.RowKit
set_option linter.unusedVariables false

/-- How a member's value lies in memory. -/
abbrev evi (v : Int) : Value := .int .i64 v
/-- A chain in memory. -/
abbrev Chi (w : World) (s : ChS Int) : Prop := Ch evi 93 95 w s
theorem tnei : (93 : TypeId) ≠ 95 := by decide

set_option maxHeartbeats 400000 in
/-- at: where the neighbours of a member, or of the ends, lie. -/
theorem at_anyi (s : ChS Int) (h : Int) (w : World) (hc : Chi w s) (hh : h = 0 ∨ h ∈ s.hs) :
    Calls Try.prog 59 #[.pointer (some ⟨s.C, 0, none⟩), .int .i64 h] w fun e w' => e = .returned (.pointer (some ⟨nB s.C s.bl h, nO h, none⟩)) ∧ w = w' := by
  by_cases h0 : h = 0
  · subst h0
    go_enter Try.func59, Try.ntmps59
    go_wp2
    go_ret
    exact ⟨rfl, rfl⟩
  · have hm := hh.resolve_left h0
    have hw := hc.wf hh
    have c0 := hc.blk.cell 0
    have hl := hc.mp.look (t := 89) Try.underlying3 Try.underlying89 (Try.zeroValue86 w) hw
    rw [fH_mem hm] at hl
    simp only [chP] at hl
    have hb : (h == 0) = false := by simpa using h0
    have e1 : nB s.C s.bl h = s.bl h := if_neg h0
    have e2 : nO h = 0 := if_neg h0
    rw [e1, e2]
    clear e1 e2 hh h0 hc hw
    simp at c0
    go_enter Try.func59, Try.ntmps59
    go_wp2
    go_ret
    exact ⟨rfl, rfl⟩

set_option maxHeartbeats 400000 in
/-- find: the member's block, or nil. -/
theorem find_anyi (s : ChS Int) (h : Int) (w : World) (hc : Chi w s) (hw : (Lit.int .i64 h).wf = true) :
    Calls Try.prog 47 #[.pointer (some ⟨s.C, 0, none⟩), .int .i64 h] w fun e w' => e = .returned (chP (fH s.hs s.bl h)) ∧ w = w' := by
  have c0 := hc.blk.cell 0
  have hl := hc.mp.look (t := 89) Try.underlying3 Try.underlying89 (Try.zeroValue86 w) hw
  generalize fH s.hs s.bl h = x at hl ⊢
  clear hc hw
  simp at c0
  rcases x with _ | b
  all_goals
    simp only [chP] at hl ⊢
    go_enter Try.func47, Try.ntmps47
    go_wp2
    go_ret
    exact ⟨rfl, rfl⟩
theorem find_nili (h : Int) (w : World) :
    Calls Try.prog 47 #[.pointer none, .int .i64 h] w fun e w' => e = .returned (.pointer none) ∧ w = w' := by
  go_enter Try.func47, Try.ntmps47
  go_wp2
  go_ret
  exact ⟨rfl, rfl⟩

set_option maxHeartbeats 400000 in
/-- Len. -/
theorem len_anyi (s : ChS Int) (w : World) (hc : Chi w s) :
    Calls Try.prog 67 #[.pointer (some ⟨s.C, 0, none⟩)] w fun e w' => e = .returned (.int .i64 s.hs.length) ∧ w = w' := by
  have c0 := hc.blk.cell 0
  have hl := hc.mp.len (t := 89) Try.underlying89 3
  clear hc
  simp at c0
  go_enter Try.func67, Try.ntmps67
  go_wp2
  go_ret
  exact ⟨rfl, rfl⟩
theorem len_nili (w : World) :
    Calls Try.prog 67 #[.pointer none] w fun e w' => e = .returned (.int .i64 0) ∧ w = w' := by
  go_enter Try.func67, Try.ntmps67
  go_wp2
  go_ret
  exact ⟨rfl, rfl⟩

/-- The chain that is new. -/
def newi (C : Nat) : ChS Int := ⟨C, none, 0, [], fun _ => 0, fun _ => 0, fun _ => 0, fun _ => default⟩
theorem new_chi (w : World) : Chi (w.alloc (.cells #[.map none, .int .i64 0, .int .i64 0, .int .i64 0] 93)) (newi w.heap.size) := by
  refine ⟨KB.new w _ _, ⟨rfl, fun h => fH_not (by simp [newi])⟩, ?_, ?_, ?_, ?_, ?_, (by decide : (Lit.int .i64 0).wf = true)⟩ <;> simp [newi]
set_option maxHeartbeats 400000 in
theorem new_anyi (w : World) :
    Calls Try.prog 45 #[] w fun e w' => e = .returned (.pointer (some ⟨w.heap.size, 0, none⟩)) ∧ w' = w.alloc (.cells #[.map none, .int .i64 0, .int .i64 0, .int .i64 0] 93) := by
  go_enter Try.func45, Try.ntmps45
  go_wp2
  go_ret
  exact ⟨rfl, rfl⟩
end Go.Proofs.Ytblclpagfbpamaa
