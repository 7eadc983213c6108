/-
  The ledger's calls by what the ledger says, whatever its blocks: the row of accounts, the treasury, the pot. The conditions stand in each theorem.
-/
import Derived.Test.YtahleoidbnlllaaLacc
import Derived.Test.YtahleoidbnlllaaLtr
import Derived.Test.YtahleoidbnlllaaLsla
import Derived.Test.YtahleoidbnlllaaLunb
import Derived.Test.YtahleoidbnlllaaLwd
namespace Go.Proofs.Ytahleoidbnlllaa
open Go.RowKit
set_option linter.unusedVariables false

/-- At block L lies a ledger that says A. -/
def LA (T : Tys) (base : Nat) (w : World) (L : Nat) (A : Ab) : Prop := ∃ s : Lm, s.L = L ∧ s.ab = A ∧ Lg T base w s
/-- Blocks of other types have not turned. -/
def Sd (T : Tys) (w w' : World) : Prop := ∀ b t cs, KB w b t cs → t ≠ T.L → t ≠ T.A → t ≠ T.C → KB w' b t cs
theorem Sd.refl (T : Tys) (w : World) : Sd T w w := fun _ _ _ h _ _ _ => h
theorem Sd.trans {T : Tys} {w w1 w2 : World} (h : Sd T w w1) (k : Sd T w1 w2) : Sd T w w2 := fun b t cs hk h1 h2 h3 => k b t cs (h b t cs hk h1 h2 h3) h1 h2 h3
theorem Sd.of_below {T : Tys} {w w' : World} (h : Below w.heap.size w w') : Sd T w w' := fun b t cs hk _ _ _ => hk.below h hk.lt
/-- What a call made of the ledger at L. -/
structure LTo (T : Tys) (base : Nat) (w w' : World) (L : Nat) (A : Ab) : Prop where
  la : LA T base w' L A
  bel : Below base w w'
  side : Sd T w w'
section
variable {T : Tys} {base : Nat} {w w' : World} {L : Nat} {A : Ab}
theorem LA.below (h : LA T base w L A) (hb : Below w.heap.size w w') : LA T base w' L A := by obtain ⟨s, h1, h2, h3⟩ := h; exact ⟨s, h1, h2, h3.below hb⟩
theorem LA.lt (h : LA T base w L A) : base ≤ L ∧ L < w.heap.size := by obtain ⟨s, rfl, h2, h3⟩ := h; exact h3.foot_lt (.inl rfl)
theorem LA.base_le (h : LA T base w L A) : base ≤ w.heap.size := by have := h.lt; omega
theorem LA.side {U : Tys} (h : LA T base w L A) (hs : Sd U w w') (hU : ∀ t, (t = T.L ∨ t = T.A ∨ t = T.C) → t ≠ U.L ∧ t ≠ U.A ∧ t ≠ U.C) : LA T base w' L A := by
  obtain ⟨s, h1, h2, h3⟩ := h
  refine ⟨s, h1, h2, h3.keep fun b hb => ?_⟩
  obtain ⟨t, cur, hk, ht⟩ := h3.kind hb
  obtain ⟨u1, u2, u3⟩ := hU t ht
  have := hs b t cur hk u1 u2 u3
  unfold KB at this hk
  rw [this, hk]
theorem LgTo.la {s : Lm} (h : LgTo T base w w' s A) (hs : Lg T base w s) : LTo T base w w' s.L A := by
  obtain ⟨s', h1, h2, h3, h4⟩ := h
  have hb : base ≤ w.heap.size := by have := hs.foot_lt (b := s.L) (.inl rfl); omega
  exact ⟨⟨s', h1, h2, h3⟩, h4.below hb (fun b hb => (hs.foot_lt hb).1), fun b t cs hk t1 t2 t3 => hk.turns h4 (hs.not_foot hk t1 t2 t3)⟩
theorem LTo.of_below (h : LA T base w L A) (hb : Below w.heap.size w w') : LTo T base w w' L A := ⟨h.below hb, hb.mono h.base_le, Sd.of_below hb⟩
end
theorem tp_tr : ∀ t, (t = TR.L ∨ t = TR.A ∨ t = TR.C) → t ≠ TP.L ∧ t ≠ TP.A ∧ t ≠ TP.C := by rintro t (rfl | rfl | rfl) <;> decide
theorem tr_tp : ∀ t, (t = TP.L ∨ t = TP.A ∨ t = TP.C) → t ≠ TR.L ∧ t ≠ TR.A ∧ t ≠ TR.C := by rintro t (rfl | rfl | rfl) <;> decide

section
variable {base : Nat} {w : World} {L : Nat} {A : Ab}
theorem bondL (h : LA TP base w L A) (hok : A.ok) (i : Int) (n : Nat) (hn : n < 18446744073709551616) :
    Calls Try.prog 19 #[.pointer (some ⟨L, 0, none⟩), .int .i64 i, .int .u64 n] w fun e w' => e = .returned (.int .i64 (bondM A i n).2) ∧ LTo TP base w w' L (bondM A i n).1 := by
  obtain ⟨s, rfl, rfl, hs⟩ := h
  exact (bond_any hs hok i n hn).mono fun e w' ⟨h1, h2⟩ => ⟨h1, h2.la hs⟩
theorem depL (h : LA TP base w L A) (hok : A.ok) (i : Int) (n : Nat) (hn : n < 18446744073709551616) :
    Calls Try.prog 20 #[.pointer (some ⟨L, 0, none⟩), .int .i64 i, .int .u64 n] w fun e w' => e = .returned (.int .i64 (depM A i n).2) ∧ LTo TP base w w' L (depM A i n).1 := by
  obtain ⟨s, rfl, rfl, hs⟩ := h
  exact (dep_any hs hok i n hn).mono fun e w' ⟨h1, h2⟩ => ⟨h1, h2.la hs⟩
theorem relL (h : LA TP base w L A) (hok : A.ok) (i : Int) (n : Nat) (hn : n < 18446744073709551616) :
    Calls Try.prog 21 #[.pointer (some ⟨L, 0, none⟩), .int .i64 i, .int .u64 n] w fun e w' => e = .returned (.int .i64 (relM A i n).2) ∧ LTo TP base w w' L (relM A i n).1 := by
  obtain ⟨s, rfl, rfl, hs⟩ := h
  exact (rel_any hs hok i n hn).mono fun e w' ⟨h1, h2⟩ => ⟨h1, h2.la hs⟩
theorem forL (h : LA TP base w L A) (hok : A.ok) (i : Int) (n : Nat) (hn : n < 18446744073709551616) :
    Calls Try.prog 22 #[.pointer (some ⟨L, 0, none⟩), .int .i64 i, .int .u64 n] w fun e w' => e = .returned (.int .i64 (forM A i n).2) ∧ LTo TP base w w' L (forM A i n).1 := by
  obtain ⟨s, rfl, rfl, hs⟩ := h
  exact (for_any hs hok i n hn).mono fun e w' ⟨h1, h2⟩ => ⟨h1, h2.la hs⟩
theorem payL (h : LA TP base w L A) (hok : A.ok) (i : Int) (n : Nat) (hn : n < 18446744073709551616) :
    Calls Try.prog 23 #[.pointer (some ⟨L, 0, none⟩), .int .i64 i, .int .u64 n] w fun e w' => e = .returned (.int .i64 (payM A i n).2) ∧ LTo TP base w w' L (payM A i n).1 := by
  obtain ⟨s, rfl, rfl, hs⟩ := h
  exact (pay_any hs hok i n hn).mono fun e w' ⟨h1, h2⟩ => ⟨h1, h2.la hs⟩
theorem keepL (h : LA TP base w L A) (hok : A.ok) (n : Nat) (hn : n < 18446744073709551616) :
    Calls Try.prog 24 #[.pointer (some ⟨L, 0, none⟩), .int .u64 n] w fun e w' => e = .returned (.int .i64 (keepM A n).2) ∧ LTo TP base w w' L (keepM A n).1 := by
  obtain ⟨s, rfl, rfl, hs⟩ := h
  exact (keep_any hs hok n hn).mono fun e w' ⟨h1, h2⟩ => ⟨h1, h2.la hs⟩
theorem mintL (h : LA TP base w L A) (hok : A.ok) (n : Nat) (hn : n < 18446744073709551616) :
    Calls Try.prog 16 #[.pointer (some ⟨L, 0, none⟩), .int .u64 n] w fun e w' => e = .returned (.int .i64 (mintM A n).2) ∧ LTo TP base w w' L (mintM A n).1 := by
  obtain ⟨s, rfl, rfl, hs⟩ := h
  exact (mint_any hs hok n hn).mono fun e w' ⟨h1, h2⟩ => ⟨h1, h2.la hs⟩
theorem trL (h : LA TP base w L A) (hok : A.ok) (i j : Int) (n : Nat) (hn : n < 18446744073709551616) :
    Calls Try.prog 18 #[.pointer (some ⟨L, 0, none⟩), .int .i64 i, .int .i64 j, .int .u64 n] w fun e w' => e = .returned (.int .i64 (trM A i j n).2) ∧ LTo TP base w w' L (trM A i j n).1 := by
  obtain ⟨s, rfl, rfl, hs⟩ := h
  exact (tr_any hs hok i j n hn).mono fun e w' ⟨h1, h2⟩ => ⟨h1, h2.la hs⟩
theorem unbL (h : LA TP base w L A) (hok : A.ok) (i : Int) (n : Nat) (hn : n < 18446744073709551616) (era : Int) :
    Calls Try.prog 14 #[.pointer (some ⟨L, 0, none⟩), .int .i64 i, .int .u64 n, .int .i64 era] w fun e w' => e = .returned (.int .i64 (unbM A i n era).2) ∧ LTo TP base w w' L (unbM A i n era).1 := by
  obtain ⟨s, rfl, rfl, hs⟩ := h
  exact (unb_any hs hok i n hn era).mono fun e w' ⟨h1, h2⟩ => ⟨h1, h2.la hs⟩
theorem wdrL (h : LA TP base w L A) (hok : A.ok) (i era : Int) :
    Calls Try.prog 15 #[.pointer (some ⟨L, 0, none⟩), .int .i64 i, .int .i64 era] w fun e w' => e = .returned (.tuple #[.int .u64 ((wdrM A i era).2.1 : Nat), .int .i64 (wdrM A i era).2.2]) ∧ LTo TP base w w' L (wdrM A i era).1 := by
  obtain ⟨s, rfl, rfl, hs⟩ := h
  exact (wdr_any hs hok i era).mono fun e w' ⟨h1, h2⟩ => ⟨h1, h2.la hs⟩
theorem slaL (h : LA TP base w L A) (hok : A.ok) (i : Int) (n : Nat) (hn : n < 18446744073709551616) :
    Calls Try.prog 17 #[.pointer (some ⟨L, 0, none⟩), .int .i64 i, .int .u64 n] w fun e w' => e = .returned (.tuple #[.int .u64 ((slaM A i n).2.1 : Nat), .int .i64 (slaM A i n).2.2]) ∧ LTo TP base w w' L (slaM A i n).1 := by
  obtain ⟨s, rfl, rfl, hs⟩ := h
  exact (sla_any hs hok i n hn).mono fun e w' ⟨h1, h2⟩ => ⟨h1, h2.la hs⟩
theorem issL (h : LA TP base w L A) (hok : A.ok) :
    Calls Try.prog 13 #[.pointer (some ⟨L, 0, none⟩)] w fun e w' => e = .returned (.int .u64 (A.tot : Nat)) ∧ Below w.heap.size w w' := by
  obtain ⟨s, rfl, rfl, hs⟩ := h
  exact iss_any hs hok
theorem treL (h : LA TP base w L A) :
    Calls Try.prog 28 #[.pointer (some ⟨L, 0, none⟩)] w fun e w' => e = .returned (.int .u64 (A.t : Nat)) ∧ w = w' := by
  obtain ⟨s, rfl, rfl, hs⟩ := h
  exact tre_any hs
theorem potL (h : LA TP base w L A) :
    Calls Try.prog 29 #[.pointer (some ⟨L, 0, none⟩)] w fun e w' => e = .returned (.int .u64 (A.p : Nat)) ∧ w = w' := by
  obtain ⟨s, rfl, rfl, hs⟩ := h
  exact pot_any hs
theorem accsL (h : LA TP base w L A) :
    Calls Try.prog 27 #[.pointer (some ⟨L, 0, none⟩)] w fun e w' => e = .returned (.int .i64 (A.a.length : Nat)) ∧ w = w' := by
  obtain ⟨s, rfl, rfl, hs⟩ := h
  rw [s.ab_len]
  exact accs_any hs
theorem accL_yes (h : LA TP base w L A) (hok : A.ok) {i : Int} {x : Ac} (hx : A.ac i = some x) :
    Calls Try.prog 26 #[.pointer (some ⟨L, 0, none⟩), .int .i64 i] w fun e w' => ∃ v, e = .returned (.tuple #[.agg #[.int .u64 (x.f : Nat), .int .u64 (x.b : Nat), .int .u64 (x.d : Nat), v], .bool true]) ∧ w'.ownsRow w.heap.size 53 2 v x.ch.length (ccs x.ch) ∧ Below w.heap.size w w' := by
  obtain ⟨s, rfl, rfl, hs⟩ := h
  refine (acc_any hs hok i).mono fun e w' h => ?_
  unfold AccTo at h
  rw [hx] at h
  obtain ⟨hb, v, h1, h2⟩ := h
  exact ⟨v, h1, h2, hb⟩
theorem accL_no (h : LA TP base w L A) (hok : A.ok) {i : Int} (hx : A.ac i = none) :
    Calls Try.prog 26 #[.pointer (some ⟨L, 0, none⟩), .int .i64 i] w fun e w' => e = .returned (.tuple #[.agg #[.int .u64 0, .int .u64 0, .int .u64 0, .slice none 0 0], .bool false]) ∧ Below w.heap.size w w' := by
  obtain ⟨s, rfl, rfl, hs⟩ := h
  refine (acc_any hs hok i).mono fun e w' h => ?_
  unfold AccTo at h
  rw [hx] at h
  exact ⟨h.2, h.1⟩
end
end Go.Proofs.Ytahleoidbnlllaa
