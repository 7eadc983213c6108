/-
  The law's own all and rows of voters, and of nil ones. The conditions stand in each theorem.
-/
import Derived.Test.YtblclpagfbpamaaVrws
namespace Go.Proofs.Ytblclpagfbpamaa
open Go.RowKit Go.Shelf
set_option linter.unusedVariables false
attribute [local go_sem] Oper.semAt_some

section
variable {base : Nat} {w : World} {p : Nat} {T : List Nat} {L : List Vt} {G : Nat}
theorem lall_any (h : VA base w p T L G) (hl : L.length ≤ 1000000) (hG : G < 4611686018427387904) :
    Calls Try.prog 29 #[.pointer (some ⟨p, 0, none⟩)] w fun e w' => (∃ A c, e = .returned (.slice A L.length c) ∧ w'.ownsRow w.heap.size 47 3 (.slice A L.length c) L.length (vcs L)) ∧ Below w.heap.size w w' :=
  lall_of _ w L hl (fun Bv K0 W hW hBv hB => all_U Bv K0 (h.below hW) hBv hB hl hG)
theorem lrows_any (h : VA base w p T L G) (hl : L.length ≤ 1000000) (hG : G < 4611686018427387904) :
    Calls Try.prog 28 #[.pointer (some ⟨p, 0, none⟩)] w fun e w' => (∃ A c, e = .returned (.slice A L.length c) ∧ w'.ownsRow w.heap.size 47 3 (.slice A L.length c) L.length (pcs (pairs L))) ∧ Below w.heap.size w w' :=
  lrows_of _ w L hl (fun Bv K0 W hW hBv hB => bags_of _ Bv K0 W L hBv hB hl (fun W2 hW2 => filled_any ((h.below hW).below hW2) hl hG))
theorem lall_nil (w : World) : Calls Try.prog 29 #[.pointer none] w fun e w' => (∃ A c, e = .returned (.slice A 0 c)) ∧ Below w.heap.size w w' :=
  (lall_of none w [] (by simp) (fun Bv K0 W hW hBv hB => all_nil_U Bv K0 W hBv hB)).mono fun e w' ⟨⟨A, c, h1, _⟩, h2⟩ => ⟨⟨A, c, h1⟩, h2⟩
theorem lrows_nil (w : World) : Calls Try.prog 28 #[.pointer none] w fun e w' => (∃ A c, e = .returned (.slice A 0 c)) ∧ Below w.heap.size w w' :=
  (lrows_of none w [] (by simp) (fun Bv K0 W hW hBv hB => bags_of none Bv K0 W [] hBv hB (by simp) (fun W2 _ => filled_nil W2))).mono fun e w' ⟨⟨A, c, h1, _⟩, h2⟩ => ⟨⟨A, c, h1⟩, h2⟩
end
end Go.Proofs.Ytblclpagfbpamaa
