/-
  What the smallest functions of package chain do, at members of the type string: next, previous, at, find, Len, New. The conditions stand in each theorem.
-/
import Derived.Test.YtlpaaehpcmnopaaKmem
import Derived.Handy
import Derived.Deep.DeepCutAuto
import Derived.Lib.Hide
namespace Go.Proofs.Ytlpaaehpcmnopaa
open Go.RowKit
set_option linter.unusedVariables false

/-- How a member's value lies in memory. -/
abbrev evs (v : ByteArray) : Value := .string v
/-- A chain in memory. -/
abbrev Chs (w : World) (s : ChS ByteArray) : Prop := Ch evs 66 74 w s
theorem tnes : (66 : TypeId) ≠ 74 := by decide

set_option maxHeartbeats 400000 in
/-- at: where the neighbours of a member, or of the ends, lie. -/
theorem at_anys (s : ChS ByteArray) (h : Int) (w : World) (hc : Chs w s) (hh : h = 0 ∨ h ∈ s.hs) :
    Calls Try.prog 48 #[.pointer (some ⟨s.C, 0, none⟩), .int .i64 h] w fun e w' => e = .returned (.pointer (some ⟨nB s.C s.bl h, nO h, none⟩)) ∧ w = w' := by
  by_cases h0 : h = 0
  · subst h0
    go_enter Try.func48, Try.ntmps48
    go_wp2
    go_ret
    exact ⟨rfl, rfl⟩
  · have hm := hh.resolve_left h0
    have hw := hc.wf hh
    have c0 := hc.blk.cell 0
    have hl := hc.mp.look (t := 64) Try.underlying3 Try.underlying64 (Try.zeroValue70 w) hw
    rw [fH_mem hm] at hl
    simp only [chP] at hl
    have hb : (h == 0) = false := by simpa using h0
    have e1 : nB s.C s.bl h = s.bl h := if_neg h0
    have e2 : nO h = 0 := if_neg h0
    rw [e1, e2]
    clear e1 e2 hh h0 hc hw
    simp at c0
    go_enter Try.func48, Try.ntmps48
    go_wp2
    go_ret
    exact ⟨rfl, rfl⟩

set_option maxHeartbeats 400000 in
/-- find: the member's block, or nil. -/
theorem find_anys (s : ChS ByteArray) (h : Int) (w : World) (hc : Chs w s) (hw : (Lit.int .i64 h).wf = true) :
    Calls Try.prog 35 #[.pointer (some ⟨s.C, 0, none⟩), .int .i64 h] w fun e w' => e = .returned (chP (fH s.hs s.bl h)) ∧ w = w' := by
  have c0 := hc.blk.cell 0
  have hl := hc.mp.look (t := 64) Try.underlying3 Try.underlying64 (Try.zeroValue70 w) hw
  generalize fH s.hs s.bl h = x at hl ⊢
  clear hc hw
  simp at c0
  rcases x with _ | b
  all_goals
    simp only [chP] at hl ⊢
    go_enter Try.func35, Try.ntmps35
    go_wp2
    go_ret
    exact ⟨rfl, rfl⟩
theorem find_nils (h : Int) (w : World) :
    Calls Try.prog 35 #[.pointer none, .int .i64 h] w fun e w' => e = .returned (.pointer none) ∧ w = w' := by
  go_enter Try.func35, Try.ntmps35
  go_wp2
  go_ret
  exact ⟨rfl, rfl⟩

set_option maxHeartbeats 400000 in
/-- Len. -/
theorem len_anys (s : ChS ByteArray) (w : World) (hc : Chs w s) :
    Calls Try.prog 49 #[.pointer (some ⟨s.C, 0, none⟩)] w fun e w' => e = .returned (.int .i64 s.hs.length) ∧ w = w' := by
  have c0 := hc.blk.cell 0
  have hl := hc.mp.len (t := 64) Try.underlying64 3
  clear hc
  simp at c0
  go_enter Try.func49, Try.ntmps49
  go_wp2
  go_ret
  exact ⟨rfl, rfl⟩
theorem len_nils (w : World) :
    Calls Try.prog 49 #[.pointer none] w fun e w' => e = .returned (.int .i64 0) ∧ w = w' := by
  go_enter Try.func49, Try.ntmps49
  go_wp2
  go_ret
  exact ⟨rfl, rfl⟩

/-- The chain that is new. -/
def news (C : Nat) : ChS ByteArray := ⟨C, none, 0, [], fun _ => 0, fun _ => 0, fun _ => 0, fun _ => default⟩
theorem new_chs (w : World) : Chs (w.alloc (.cells #[.map none, .int .i64 0, .int .i64 0, .int .i64 0] 66)) (news w.heap.size) := by
  refine ⟨KB.new w _ _, ⟨rfl, fun h => fH_not (by simp [news])⟩, ?_, ?_, ?_, ?_, ?_, (by decide : (Lit.int .i64 0).wf = true)⟩ <;> simp [news]
set_option maxHeartbeats 400000 in
theorem new_anys (w : World) :
    Calls Try.prog 11 #[] w fun e w' => e = .returned (.pointer (some ⟨w.heap.size, 0, none⟩)) ∧ w' = w.alloc (.cells #[.map none, .int .i64 0, .int .i64 0, .int .i64 0] 66) := by
  go_enter Try.func11, Try.ntmps11
  go_wp2
  go_ret
  exact ⟨rfl, rfl⟩
end Go.Proofs.Ytlpaaehpcmnopaa
