/-
  What the law's own awake does: it answers true, and writes nothing that was there. No conditions.
-/
import Derived.Test.YtblclpagfbpamaaVnew
namespace Go.Proofs.Ytblclpagfbpamaa
open Go.RowKit
set_option linter.unusedVariables false

theorem ris_nil : Ris [] := by decide
theorem rk_none (k : IntKind) (w : World) : Rk k w none 0 0 [] := Rk.nil k w
theorem VTo.below_out {base : Nat} {w0 w w' : World} {p : Nat} {T : List Nat} {L : List Vt} {G : Nat} (h : VTo base w w' p T L G) (hb : Below base w0 w) : Below base w0 w' := hb.trans h.bel
set_option maxRecDepth 100000 in
set_option maxHeartbeats 800000 in
theorem wakeV_any (w : World) : Calls Try.prog 7 #[] w fun e w' => e = .returned (.bool true) ∧ Below w.heap.size w w' := by
  have hN := vnew_any none 0 0 [] w (rk_none _ _) (Bl_nil _)
  have HN := Lib.hid hN
  clear hN
  go_enter Try.func7, Try.ntmps7
  go_wp2_with fail
  refine HN.out.mono ?_
  rintro e w1 ⟨hb1, ⟨h1, _⟩ | ⟨_, p, rfl, hva⟩⟩
  · exact absurd ris_nil h1
  · have hI := vins_any hva (by simp [maxLen]) (by omega) 3 (by decide) 5 (by omega)
    rw [show (insM [] [] 3 5) = ([⟨3, 5, 0⟩], 0) from rfl] at hI
    have HI := Lib.hid hI
    have HB := Lib.hid hb1
    clear hI hva hb1
    go_wp2_with fail
    refine HI.out.mono ?_
    rintro e w2 ⟨rfl, hto⟩
    have hL := vlen_any hto.va
    have HL := Lib.hid hL
    have HB2 := Lib.hid (hto.below_out HB.out)
    clear hL hto
    go_wp2_with fail
    refine HL.out.mono ?_
    rintro e w3 ⟨rfl, rfl⟩
    go_wp2
    go_ret
    exact ⟨rfl, HB2.out⟩
end Go.Proofs.Ytblclpagfbpamaa
