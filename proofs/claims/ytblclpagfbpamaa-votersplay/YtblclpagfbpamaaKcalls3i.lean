/-
  What Get and Set do, at members of the type int; on a nil chain too. The conditions stand in each theorem.
-/
import Derived.Test.YtblclpagfbpamaaKcalls2i
namespace Go.Proofs.Ytblclpagfbpamaa
open Go.RowKit
set_option linter.unusedVariables false

theorem setToi {s : ChS Int} {h : Int} {w : World} (hc : Gdi w s) (hh : h ∈ s.hs) (x : Int) : ChToi w (w.setCell ⟨s.bl h, 2, none⟩ (.int .i64 x)) s s.g (setR h x s.row) := by
  refine ⟨_, ⟨hc.ch.setV tnei hh x, hc.ring⟩, rfl, rfl, ?_, Turns.setCell _ _ _ (.inr (.inr ⟨h, hh, rfl⟩)), fun b hb => .inl hb⟩
  show s.hs.map (fun y => (y, upd s.vl h x y)) = setR h x (s.hs.map fun y => (y, s.vl y))
  unfold setR
  rw [List.map_map]
  refine List.map_congr_left fun y hy => ?_
  unfold upd
  by_cases e : y = h <;> simp [e]
end Go.Proofs.Ytblclpagfbpamaa
