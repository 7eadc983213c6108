/-
  The law's own function awake: it returns true, and writes nothing that was there.
-/
import Derived.Test.YtlpaaehpcmnopaaKcalls3i
namespace Go.Proofs.Ytlpaaehpcmnopaa
open Go.RowKit
set_option linter.unusedVariables false

set_option maxHeartbeats 800000 in
theorem awake_any (w : World) : Calls Try.prog 7 #[] w fun e w' => e = .returned (.bool true) ∧ Below w.heap.size w w' := by
  have hg := new_gdi w
  have hb : Below w.heap.size w (w.alloc (.cells #[.map none, .int .i64 0, .int .i64 0, .int .i64 0] 34)) := (Below.refl _ _).alloc (Nat.le_refl _) _
  have hl := last_anyi (newi w.heap.size) 5 _ hg (show (Lit.int .i64 (0 + 1)).wf = true by decide) (by simp [newi, maxLen])
  go_enter Try.func7, Try.ntmps7
  go_wp2_with fail
  refine (new_anyi w).mono ?_
  rintro e w1 ⟨rfl, rfl⟩
  generalize (w.alloc (.cells #[.map none, .int .i64 0, .int .i64 0, .int .i64 0] 34)) = w1 at hg hb hl ⊢
  have hs := hb.size
  go_wp2_with fail
  refine hl.mono ?_
  rintro e w2 ⟨rfl, s', hg', e1, e2, e3, ht, hf⟩
  clear hl
  have hlen : s'.hs.length = 1 := by rw [← row_len, e3]; rfl
  have hb2 : Below w.heap.size w w2 := hb.trans (ht.below hs (fun b hbf => by
    rcases hbf with h | h | ⟨x, hx, _⟩
    · rw [h]; exact Nat.le_refl _
    · cases h
    · cases hx))
  have hln := len_anyi s' w2 hg'.ch
  rw [e1, hlen] at hln
  have HB := Lib.hid hb2
  clear hg hb ht hf hg' e1 e2 e3 hlen hb2
  go_wp2_with fail
  refine hln.mono ?_
  rintro e w3 ⟨rfl, rfl⟩
  clear hln
  go_wp2
  go_ret
  exact ⟨rfl, HB.out⟩
end Go.Proofs.Ytlpaaehpcmnopaa
