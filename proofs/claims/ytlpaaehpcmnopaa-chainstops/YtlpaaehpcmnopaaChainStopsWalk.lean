/-
  The walk of the law ChainStops: it returns true, whatever the two numbers, and writes nothing that was there.
-/
import Derived.Test.YtlpaaehpcmnopaaKawake
import Derived.Test.YtlpaaehpcmnopaaKsome
namespace Go.Proofs.Ytlpaaehpcmnopaa
open Go.RowKit
set_option linter.unusedVariables false

theorem wf_small {x : Int} (h0 : -9223372036854775808 ≤ x) (h : x ≤ 9223372036854775807) : (Lit.int .i64 x).wf = true := by
  have h1 : IntKind.i64.max = 9223372036854775807 := by decide
  have h2 : IntKind.i64.min = -9223372036854775808 := by decide
  simp only [Lit.wf, decide_eq_true_eq, Bool.and_eq_true]
  omega

/-- Between two rounds: so many members have been put in. -/
def StRel (w : World) (C N : Nat) (tv : Value) (wr : World) : Prop :=
  ∃ (s : ChS Int) (i : Nat), i ≤ N ∧ tv = .int .i64 i ∧ Gdi wr s ∧ s.C = C ∧ s.hs.length = i ∧ s.g = i ∧ (∀ b, s.foot b → w.heap.size ≤ b) ∧ Below w.heap.size w wr

set_option maxRecDepth 100000 in
set_option maxHeartbeats 1600000 in
theorem cstops_walk (n m : Nat) (hn : n < 256) (hm : m < 256) (w : World) :
    Calls Try.prog 5 #[.int .u8 n, .int .u8 m] w fun e w' => e = .returned (.bool true) ∧ Below w.heap.size w w' := by
  obtain ⟨N, hN, hNl⟩ : ∃ N : Nat, (n : Int) % 40 = N ∧ N < 40 := ⟨n % 40, by omega, by omega⟩
  obtain ⟨M, hM, hMl⟩ : ∃ M : Nat, (m : Int) % 50 = M ∧ M < 50 := ⟨m % 50, by omega, by omega⟩
  go_enter Try.func5, Try.ntmps5
  go_wp2_with fail
  refine (awake_any _).mono ?_
  rintro e w1 ⟨rfl, hb1⟩
  go_wp2_with fail
  refine (new_anyi w1).mono ?_
  rintro e w2 ⟨rfl, rfl⟩
  have hg2 := new_gdi w1
  have hb2 : Below w.heap.size w (w1.alloc (.cells #[.map none, .int .i64 0, .int .i64 0, .int .i64 0] 34)) := hb1.alloc hb1.size _
  have hf2 : ∀ b, (newi w1.heap.size).foot b → w.heap.size ≤ b := by
    rintro b (h | h | ⟨x, hx, _⟩)
    · rw [h]; exact hb1.size
    · cases h
    · cases hx
  generalize (w1.alloc (.cells #[.map none, .int .i64 0, .int .i64 0, .int .i64 0] 34)) = w2 at hg2 hb2 ⊢
  generalize w1.heap.size = C at hg2 hf2 ⊢
  clear hb1
  go_wp2_with fail
  simp only [hN]
  go_loopw [14] (fun tv wr => StRel w C N tv wr) (fun tv _ => N - (intOf tv).toNat)
  case atStart => exact ⟨_, 0, Nat.zero_le _, rfl, hg2, rfl, rfl, rfl, hf2, hb2⟩
  case round =>
    obtain ⟨s, i, hi, rfl, hg, hC, hlen, hgi, hf, hb⟩ := hrel
    clear hg2 hb2 hf2
    by_cases hlt : i < N
    · have hl := last_anyi s i wr hg (by rw [hgi]; exact wf_small (by omega) (by omega)) (by rw [hlen]; unfold maxLen; omega)
      rw [hC] at hl
      go_wp2_with fail
      refine hl.mono ?_
      rintro e w3 ⟨rfl, s', hg', e1, e2, e3, ht, hf'⟩
      clear hl
      have hlen' : s'.hs.length = i + 1 := by rw [← row_len, e3]; simp [row_len, hlen]
      have hsz := hb.size
      have hb3 : Below w.heap.size w w3 := hb.trans (ht.below hsz (fun b hbf => hf b hbf))
      have hf3 : ∀ b, s'.foot b → w.heap.size ≤ b := fun b h => (hf' b h).elim (hf b) (fun h => Nat.le_trans hsz h)
      have hC3 : s'.C = C := by rw [e1, hC]
      have hg3 : s'.g = ((i + 1 : Nat) : Int) := by rw [e2, hgi]; simp
      clear hg ht hf hf' hb e1 e2 e3
      go_wp2
      go_roundw
      case rel => exact ⟨s', i + 1, by omega, by go_num, hg', hC3, hlen', hg3, hf3, hb3⟩
      case measure => simp [intOf]; omega
    · have hiN : i = N := by omega
      subst hiN
      clear hlt hi
      have hs1 := some_any s M wr hg (by omega) (by omega)
      rw [hC, hlen] at hs1
      go_wp2_with fail
      refine hs1.mono ?_
      rintro e w4 ⟨rfl, hb4⟩
      clear hs1
      have hft : ∀ b, s.foot b → b < wr.heap.size := fun b h => hg.ch.lt h
      have hg4 := hg.below hb4 hft
      have hB4 := hb.trans (hb4.mono hb.size)
      have hs2 := some_any s 1000 w4 hg4 (by omega) (by omega)
      rw [hC, hlen] at hs2
      have hmin : min i 1000 = i := by omega
      rw [hmin] at hs2
      clear hg hb hb4 hft hmin
      go_wp2_with fail
      all_goals
        refine hs2.mono ?_
        rintro e w5 ⟨rfl, hb5⟩
        clear hs2
        have hln := len_anyi s w5 (hg4.below hb5 (fun b h => hg4.ch.lt h)).ch
        rw [hC, hlen] at hln
        have HB5 := Lib.hid (hB4.trans (hb5.mono hB4.size))
        clear hg4 hB4 hb5
        go_wp2_with fail
        refine hln.mono ?_
        rintro e w6 ⟨rfl, rfl⟩
        clear hln
        go_wp2
        go_ret
        exact ⟨rfl, HB5.out⟩
end Go.Proofs.Ytlpaaehpcmnopaa
