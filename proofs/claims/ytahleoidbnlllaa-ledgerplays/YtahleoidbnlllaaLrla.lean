/-
  The reference's calls by what the ledger says, whatever its blocks. The conditions stand in each theorem.
-/
import Derived.Test.YtahleoidbnlllaaLla
import Derived.Test.YtahleoidbnlllaaLrsix
import Derived.Test.YtahleoidbnlllaaLrtr
import Derived.Test.YtahleoidbnlllaaLrunb
import Derived.Test.YtahleoidbnlllaaLrnew
namespace Go.Proofs.Ytahleoidbnlllaa
open Go.RowKit
set_option linter.unusedVariables false
theorem LA.drew {T : Tys} {base : Nat} {w : World} {L : Nat} {A : Ab} (h : LA T base w L A) : LA T base w.drew L A := by obtain ⟨s, h1, h2, h3⟩ := h; exact ⟨s, h1, h2, h3.drew⟩
theorem LA.drewN {T : Tys} {base : Nat} {w : World} {L : Nat} {A : Ab} (h : LA T base w L A) (q : Nat) : LA T base (w.drewN q) L A := by obtain ⟨s, h1, h2, h3⟩ := h; exact ⟨s, h1, h2, h3.drewN q⟩
theorem LTo.undrew {T : Tys} {base : Nat} {w w' : World} {L : Nat} {A : Ab} (h : LTo T base w.drew w' L A) : LTo T base w w' L A := ⟨h.la, ⟨h.bel.os, h.bel.tape, h.bel.output, h.bel.size, h.bel.block⟩, h.side⟩
section
variable {base : Nat} {w : World} {L : Nat} {A : Ab}
theorem rbondL (h : LA TR base w L A) (hok : A.ok) (i : Int) (n : Nat) (hn : n < 18446744073709551616) :
    Calls Try.prog 33 #[.pointer (some ⟨L, 0, none⟩), .int .i64 i, .int .u64 n] w fun e w' => e = .returned (.int .i64 (bondM A i n).2) ∧ LTo TR base w w' L (bondM A i n).1 := by
  obtain ⟨s, rfl, rfl, hs⟩ := h
  exact (rbond_any hs hok i n hn).mono fun e w' ⟨h1, h2⟩ => ⟨h1, h2.la hs⟩
theorem rdepL (h : LA TR base w L A) (hok : A.ok) (i : Int) (n : Nat) (hn : n < 18446744073709551616) :
    Calls Try.prog 36 #[.pointer (some ⟨L, 0, none⟩), .int .i64 i, .int .u64 n] w fun e w' => e = .returned (.int .i64 (depM A i n).2) ∧ LTo TR base w w' L (depM A i n).1 := by
  obtain ⟨s, rfl, rfl, hs⟩ := h
  exact (rdep_any hs hok i n hn).mono fun e w' ⟨h1, h2⟩ => ⟨h1, h2.la hs⟩
theorem rrelL (h : LA TR base w L A) (hok : A.ok) (i : Int) (n : Nat) (hn : n < 18446744073709551616) :
    Calls Try.prog 37 #[.pointer (some ⟨L, 0, none⟩), .int .i64 i, .int .u64 n] w fun e w' => e = .returned (.int .i64 (relM A i n).2) ∧ LTo TR base w w' L (relM A i n).1 := by
  obtain ⟨s, rfl, rfl, hs⟩ := h
  exact (rrel_any hs hok i n hn).mono fun e w' ⟨h1, h2⟩ => ⟨h1, h2.la hs⟩
theorem rforL (h : LA TR base w L A) (hok : A.ok) (i : Int) (n : Nat) (hn : n < 18446744073709551616) :
    Calls Try.prog 38 #[.pointer (some ⟨L, 0, none⟩), .int .i64 i, .int .u64 n] w fun e w' => e = .returned (.int .i64 (forM A i n).2) ∧ LTo TR base w w' L (forM A i n).1 := by
  obtain ⟨s, rfl, rfl, hs⟩ := h
  exact (rfor_any hs hok i n hn).mono fun e w' ⟨h1, h2⟩ => ⟨h1, h2.la hs⟩
theorem rpayL (h : LA TR base w L A) (hok : A.ok) (i : Int) (n : Nat) (hn : n < 18446744073709551616) :
    Calls Try.prog 40 #[.pointer (some ⟨L, 0, none⟩), .int .i64 i, .int .u64 n] w fun e w' => e = .returned (.int .i64 (payM A i n).2) ∧ LTo TR base w w' L (payM A i n).1 := by
  obtain ⟨s, rfl, rfl, hs⟩ := h
  exact (rpay_any hs hok i n hn).mono fun e w' ⟨h1, h2⟩ => ⟨h1, h2.la hs⟩
theorem rkeepL (h : LA TR base w L A) (hok : A.ok) (n : Nat) (hn : n < 18446744073709551616) :
    Calls Try.prog 41 #[.pointer (some ⟨L, 0, none⟩), .int .u64 n] w fun e w' => e = .returned (.int .i64 (keepM A n).2) ∧ LTo TR base w w' L (keepM A n).1 := by
  obtain ⟨s, rfl, rfl, hs⟩ := h
  exact (rkeep_any hs hok n hn).mono fun e w' ⟨h1, h2⟩ => ⟨h1, h2.la hs⟩
theorem rmintL (h : LA TR base w L A) (hok : A.ok) (n : Nat) (hn : n < 18446744073709551616) :
    Calls Try.prog 39 #[.pointer (some ⟨L, 0, none⟩), .int .u64 n] w fun e w' => e = .returned (.int .i64 (mintM A n).2) ∧ LTo TR base w w' L (mintM A n).1 := by
  obtain ⟨s, rfl, rfl, hs⟩ := h
  exact (rmint_any hs hok n hn).mono fun e w' ⟨h1, h2⟩ => ⟨h1, h2.la hs⟩
theorem rtrL (h : LA TR base w L A) (hok : A.ok) (i : Int) (j : Int) (n : Nat) (hn : n < 18446744073709551616) :
    Calls Try.prog 32 #[.pointer (some ⟨L, 0, none⟩), .int .i64 i, .int .i64 j, .int .u64 n] w fun e w' => e = .returned (.int .i64 (trM A i j n).2) ∧ LTo TR base w w' L (trM A i j n).1 := by
  obtain ⟨s, rfl, rfl, hs⟩ := h
  exact (rtr_any hs hok i j n hn).mono fun e w' ⟨h1, h2⟩ => ⟨h1, h2.la hs⟩
theorem runbL (h : LA TR base w L A) (hok : A.ok) (i : Int) (n : Nat) (hn : n < 18446744073709551616) (era : Int) :
    Calls Try.prog 34 #[.pointer (some ⟨L, 0, none⟩), .int .i64 i, .int .u64 n, .int .i64 era] w fun e w' => e = .returned (.int .i64 (unbM A i n era).2) ∧ LTo TR base w w' L (unbM A i n era).1 := by
  obtain ⟨s, rfl, rfl, hs⟩ := h
  exact (runb_any hs hok i n hn era).mono fun e w' ⟨h1, h2⟩ => ⟨h1, h2.la hs⟩
theorem rwdrL (h : LA TR base w L A) (hok : A.ok) (i : Int) (era : Int) :
    Calls Try.prog 35 #[.pointer (some ⟨L, 0, none⟩), .int .i64 i, .int .i64 era] w fun e w' => e = .returned (.tuple #[.int .u64 ((wdrM A i era).2.1 : Nat), .int .i64 (wdrM A i era).2.2]) ∧ LTo TR base w w' L (wdrM A i era).1 := by
  obtain ⟨s, rfl, rfl, hs⟩ := h
  exact (rwdr_any hs hok i era).mono fun e w' ⟨h1, h2⟩ => ⟨h1, h2.la hs⟩
theorem rslaL (h : LA TR base w L A) (hok : A.ok) (i : Int) (n : Nat) (hn : n < 18446744073709551616) :
    Calls Try.prog 42 #[.pointer (some ⟨L, 0, none⟩), .int .i64 i, .int .u64 n] w fun e w' => e = .returned (.tuple #[.int .u64 ((slaM A i n).2.1 : Nat), .int .i64 (slaM A i n).2.2]) ∧ LTo TR base w w' L (slaM A i n).1 := by
  obtain ⟨s, rfl, rfl, hs⟩ := h
  exact (rsla_any hs hok i n hn).mono fun e w' ⟨h1, h2⟩ => ⟨h1, h2.la hs⟩
theorem rissL (h : LA TR base w L A) (hok : A.ok) :
    Calls Try.prog 43 #[.pointer (some ⟨L, 0, none⟩)] w fun e w' => e = .returned (.int .u64 (A.tot : Nat)) ∧ ∃ q, w' = w.drewN q := by
  obtain ⟨s, rfl, rfl, hs⟩ := h
  exact riss_any hs hok
end
end Go.Proofs.Ytahleoidbnlllaa
