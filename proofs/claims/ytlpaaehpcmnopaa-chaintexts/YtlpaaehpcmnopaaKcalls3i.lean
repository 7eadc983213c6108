/-
  What Get and Set do, at members of the type int; on a nil chain too. The conditions stand in each theorem.
-/
import Derived.Test.YtlpaaehpcmnopaaKcalls2i
namespace Go.Proofs.Ytlpaaehpcmnopaa
open Go.RowKit
set_option linter.unusedVariables false

set_option maxHeartbeats 400000 in
theorem get_yesi (s : ChS Int) (h : Int) (w : World) (hc : Gdi w s) (hh : h ∈ s.hs) :
    Calls Try.prog 24 #[.pointer (some ⟨s.C, 0, none⟩), .int .i64 h] w fun e w' => e = .returned (.tuple #[.int .i64 (s.vl h), .bool true]) ∧ w = w' := by
  have hf := find_anyi s h w hc.ch (hc.ch.wf (.inr hh))
  rw [fH_mem hh] at hf
  simp only [chP] at hf
  have hv := (hc.ch.mem h hh).cell 2
  simp at hv
  go_enter Try.func24, Try.ntmps24
  go_wp2_with fail
  refine hf.mono ?_
  rintro e w' ⟨rfl, rfl⟩
  clear hf
  go_wp2
  go_ret2
  exact ⟨rfl, rfl⟩
set_option maxHeartbeats 400000 in
theorem get_noi (s : ChS Int) (h : Int) (w : World) (hc : Gdi w s) (hh : h ∉ s.hs) (hw : (Lit.int .i64 h).wf = true) :
    Calls Try.prog 24 #[.pointer (some ⟨s.C, 0, none⟩), .int .i64 h] w fun e w' => e = .returned (.tuple #[.int .i64 0, .bool false]) ∧ w = w' := by
  have hf := find_anyi s h w hc.ch hw
  rw [fH_not hh] at hf
  simp only [chP] at hf
  go_enter Try.func24, Try.ntmps24
  go_wp2_with fail
  refine hf.mono ?_
  rintro e w' ⟨rfl, rfl⟩
  clear hf
  go_wp2
  go_ret2
  exact ⟨rfl, rfl⟩
set_option maxHeartbeats 400000 in
theorem get_nili (h : Int) (w : World) :
    Calls Try.prog 24 #[.pointer none, .int .i64 h] w fun e w' => e = .returned (.tuple #[.int .i64 0, .bool false]) ∧ w = w' := by
  go_enter Try.func24, Try.ntmps24
  go_wp2_with fail
  refine (find_nili h w).mono ?_
  rintro e w' ⟨rfl, rfl⟩
  go_wp2
  go_ret2
  exact ⟨rfl, rfl⟩

theorem setToi {s : ChS Int} {h : Int} {w : World} (hc : Gdi w s) (hh : h ∈ s.hs) (x : Int) : ChToi w (w.setCell ⟨s.bl h, 2, none⟩ (.int .i64 x)) s s.g (setR h x s.row) := by
  refine ⟨_, ⟨hc.ch.setV tnei hh x, hc.ring⟩, rfl, rfl, ?_, Turns.setCell _ _ _ (.inr (.inr ⟨h, hh, rfl⟩)), fun b hb => .inl hb⟩
  show s.hs.map (fun y => (y, upd s.vl h x y)) = setR h x (s.hs.map fun y => (y, s.vl y))
  unfold setR
  rw [List.map_map]
  refine List.map_congr_left fun y hy => ?_
  unfold upd
  by_cases e : y = h <;> simp [e]
set_option maxHeartbeats 400000 in
theorem set_yesi (s : ChS Int) (h : Int) (x : Int) (w : World) (hc : Gdi w s) (hh : h ∈ s.hs) :
    Calls Try.prog 27 #[.pointer (some ⟨s.C, 0, none⟩), .int .i64 h, .int .i64 x] w fun e w' => e = .returned (.bool true) ∧ ChToi w w' s s.g (setR h x s.row) := by
  have hf := find_anyi s h w hc.ch (hc.ch.wf (.inr hh))
  rw [fH_mem hh] at hf
  simp only [chP] at hf
  have hv := (hc.ch.mem h hh).cell 2
  have fv := (hc.ch.mem h hh).frozen 2
  simp at hv
  go_enter Try.func27, Try.ntmps27
  go_wp2_with fail
  refine hf.mono ?_
  rintro e w' ⟨rfl, rfl⟩
  clear hf
  go_wp2
  go_ret
  exact ⟨rfl, setToi hc hh x⟩
set_option maxHeartbeats 400000 in
theorem set_noi (s : ChS Int) (h : Int) (x : Int) (w : World) (hc : Gdi w s) (hh : h ∉ s.hs) (hw : (Lit.int .i64 h).wf = true) :
    Calls Try.prog 27 #[.pointer (some ⟨s.C, 0, none⟩), .int .i64 h, .int .i64 x] w fun e w' => e = .returned (.bool false) ∧ w = w' := by
  have hf := find_anyi s h w hc.ch hw
  rw [fH_not hh] at hf
  simp only [chP] at hf
  go_enter Try.func27, Try.ntmps27
  go_wp2_with fail
  refine hf.mono ?_
  rintro e w' ⟨rfl, rfl⟩
  clear hf
  go_wp2
  go_ret
  exact ⟨rfl, rfl⟩
set_option maxHeartbeats 400000 in
theorem set_nili (h : Int) (x : Int) (w : World) :
    Calls Try.prog 27 #[.pointer none, .int .i64 h, .int .i64 x] w fun e w' => e = .returned (.bool false) ∧ w = w' := by
  go_enter Try.func27, Try.ntmps27
  go_wp2_with fail
  refine (find_nili h w).mono ?_
  rintro e w' ⟨rfl, rfl⟩
  go_wp2
  go_ret
  exact ⟨rfl, rfl⟩
end Go.Proofs.Ytlpaaehpcmnopaa
