/-
  What Get and Set do, at members of the type string; on a nil chain too. The conditions stand in each theorem.
-/
import Derived.Test.YtlpaaehpcmnopaaKcalls2s
namespace Go.Proofs.Ytlpaaehpcmnopaa
open Go.RowKit
set_option linter.unusedVariables false

theorem setTos {s : ChS ByteArray} {h : Int} {w : World} (hc : Gds w s) (hh : h ∈ s.hs) (x : ByteArray) : ChTos w (w.setCell ⟨s.bl h, 2, none⟩ (.string x)) s s.g (setR h x s.row) := by
  refine ⟨_, ⟨hc.ch.setV tnes hh x, hc.ring⟩, rfl, rfl, ?_, Turns.setCell _ _ _ (.inr (.inr ⟨h, hh, rfl⟩)), fun b hb => .inl hb⟩
  show s.hs.map (fun y => (y, upd s.vl h x y)) = setR h x (s.hs.map fun y => (y, s.vl y))
  unfold setR
  rw [List.map_map]
  refine List.map_congr_left fun y hy => ?_
  unfold upd
  by_cases e : y = h <;> simp [e]
end Go.Proofs.Ytlpaaehpcmnopaa
