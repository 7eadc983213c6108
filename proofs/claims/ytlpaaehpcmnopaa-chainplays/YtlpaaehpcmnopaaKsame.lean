/-
  The law's own function same, at a chain of numbers and the reference's that are alike: it answers true, and writes nothing that was there.
-/
import Derived.Test.YtlpaaehpcmnopaaKdo
import Derived.Test.YtlpaaehpcmnopaaKlrow
import Derived.Deep.QuietTactic
import Derived.BigQuiet
import Derived.Laws.StructEq
namespace Go.Proofs.Ytlpaaehpcmnopaa
open Go.RowKit
set_option linter.unusedVariables false

theorem mc_rm (R : List (Int × Int)) : mc R = rm R := rfl
theorem own_slice {w : World} {base sz n : Nat} {t : TypeId} {v : Value} {cs : List Value} (h : w.ownsRow base t sz v n cs) : ∃ A c, v = .slice A n c := by
  rcases h.2 with ⟨rfl, rfl⟩ | ⟨g, cap, cur, rfl, _⟩
  · exact ⟨_, _, rfl⟩
  · exact ⟨_, _, rfl⟩
theorem mem_neq (w : World) (a b : Int) : (binOp .neq 54 (.agg #[.int .i64 a, .int .i64 b]) (.agg #[.int .i64 a, .int .i64 b])).run Try.prog w = .ok (.bool false) w := by
  have u3 := Try.underlying3
  have a3 := Try.isAgg3
  have z3 := Try.sizeOf3
  have hS : Try.prog.underlying 54 = some (.struct (Try.prog.fieldsOf 54)) := by kernel_rfl
  have hp : Try.prog.stoodInHeld 54 = false := by kernel_rfl
  rw [run_neq_struct, show (10000 : Nat) = 9999 + 1 from rfl, run_equalIn_agg w 9999 54 _ _ hS hp]
  simp only [Program.fieldsOf, Try.underlying54]
  go_simp
theorem mem_guard (w : World) (op : BinOp) (x y : Operand) (xs ys : Array Value) : (eqGuard op 54 x y (.agg xs) (.agg ys)).run Try.prog w = .ok () w := run_eqGuard_agg w op _ x y xs ys (by kernel_rfl)

set_option maxRecDepth 100000 in
set_option maxHeartbeats 3200000 in
theorem same_yes (base K : Nat) (s : ChS Int) (w : World) (hB : Bti base K w s) (hl : s.hs.length ≤ 1000) :
    Calls Try.prog 10 #[.pointer (some ⟨s.C, 0, none⟩), .pointer (some ⟨K, 0, none⟩)] w fun e w' => e = .returned (.bool true) ∧ Below w.heap.size w w' := by
  have H1 := Lib.hid (row_there s w hB.gd hl)
  go_enter Try.func10, Try.ntmps10
  go_wp2_with fail
  refine H1.out.mono ?_
  rintro e w1 ⟨v1, rfl, o1, b1⟩
  have hg1 := hB.gd.below b1 (fun b hb => hB.gd.ch.lt hb)
  have H2 := Lib.hid (row_back s w1 hg1 hl)
  go_wp2_with fail
  refine H2.out.mono ?_
  rintro e w2 ⟨v2, rfl, o2, b2⟩
  have hg2 := hg1.below b2 (fun b hb => hg1.ch.lt hb)
  obtain ⟨v3, hk, o3⟩ := hB.rc
  have o1' := own_below o1 b2 (fun g hg => (o1.lt g hg).2)
  have hk2 := (hk.below b1 hk.lt).below b2 (by have := hk.lt; have := b1.size; omega)
  have o3' := own_below (own_below o3 b1 (fun g hg => (o3.lt g hg).2)) b2 (fun g hg => by have := (o3.lt g hg).2; have := b1.size; omega)
  have HB2 := Lib.hid (b1.trans (b2.mono b1.size))
  clear o1 o3 hk b1 b2 hg1
  obtain ⟨A1, c1, rfl⟩ := own_slice o1'
  obtain ⟨A2, c2, rfl⟩ := own_slice o2
  obtain ⟨A3, c3, rfl⟩ := own_slice o3'
  rw [mc_rm] at o1' o2
  rw [List.length_reverse] at o2
  have O1 := Lib.hid o1'
  have O2 := Lib.hid o2
  have O3 := Lib.hid o3'
  have d0 := hk2.cell 0
  simp at d0
  have hn : s.row.length ≤ 1000 := by rw [row_len]; exact hl
  have hln := len_anyi s
  rw [← row_len] at hln
  have HL := Lib.hid (fun q => hln (w2.drewN q) ⟨hg2.ch.blk, hg2.ch.mp, hg2.ch.mem, hg2.ch.inj, hg2.ch.pos, hg2.ch.nd, hg2.ch.g0, hg2.ch.gw⟩)
  clear o1' o2 o3' hk2 hg2 hln
  generalize hR : s.row = R at O1 O2 O3 d0 hn HL ⊢
  clear hR
  have hq0 : (((R.length : Int)) != (R.length : Int)) = false := by simp
  go_wp2_with fail
  go_quiet (first | (go_at_call 21; exact Calls.quiet_of_same ((HL.out _).mono fun e w' h => ⟨h.1, h.2.symm⟩)))
  go_wp2_with fail
  go_loopg [42] R.length (fun g t wr => ∃ k q : Nat, k + g = R.length ∧ t = .int .i64 k ∧ wr = w2.drewN q)
  case atStart => exact ⟨0, nq, by omega, rfl, rfl⟩
  case round =>
    obtain ⟨k, q, hk, rfl, rfl⟩ := hrel
    have HK := Lib.hid hk
    clear hk
    by_cases hkn : k < R.length
    · obtain ⟨x, hx⟩ : ∃ x, R[k]? = some x := ⟨_, List.getElem?_eq_getElem hkn⟩
      have hxr : R.reverse[R.length - 1 - k]? = some x := by
        rw [List.getElem?_reverse (by omega), show R.length - 1 - (R.length - 1 - k) = k by omega]; exact hx
      have p1 := rm_get R k x hx
      have p2 := rm_get R.reverse (R.length - 1 - k) x hxr
      rcases own_forms O1.out with ⟨_, h0, _⟩ | ⟨g1, d1, e1, _, hc1, _, _, _⟩
      · omega
      rcases own_forms O2.out with ⟨_, h0, _⟩ | ⟨g2, d2, e2, _, hc2, _, _, _⟩
      · omega
      rcases own_forms O3.out with ⟨_, h0, _⟩ | ⟨g3, d3, e3, _, hc3, _, _, _⟩
      · omega
      injection e1 with ea _ eb
      subst ea eb
      injection e2 with ea _ eb
      subst ea eb
      injection e3 with ea _ eb
      subst ea eb
      have y1 := (O1.out.cellAt (k * 2) (by omega)).trans p1.1
      have y2 := (O1.out.cellAt (k * 2 + 1) (by omega)).trans p1.2
      have y3 := (O2.out.cellAt ((R.length - 1 - k) * 2) (by omega)).trans p2.1
      have y4 := (O2.out.cellAt ((R.length - 1 - k) * 2 + 1) (by omega)).trans p2.2
      have y5 := (O3.out.cellAt (k * 2) (by omega)).trans p1.1
      have y6 := (O3.out.cellAt (k * 2 + 1) (by omega)).trans p1.2
      clear hx hxr p1 p2
      have hkn' : (k : Int) < (R.length : Int) := by omega
      have hsub : IntKind.i64.wrap ((R.length : Int) - 1) = (R.length : Int) - 1 := IntWalk.i64_in _ (by omega)
      have hsub2 : IntKind.i64.wrap ((R.length : Int) - 1 - (k : Int)) = ((R.length - 1 - k : Nat) : Int) := by rw [show (R.length : Int) - 1 - (k : Int) = ((R.length - 1 - k : Nat) : Int) by omega]; exact IntWalk.i64_in _ (by omega)
      have hm : R.length - 1 - k < R.length := by omega
      have hm' : ((R.length - 1 - k : Nat) : Int) < (R.length : Int) := by omega
      have hneq := mem_neq
      have hgrd := mem_guard
      go_wp2_with fail
      go_quiet (fail)
      go_wp2
      go_roundg (gk - 1)
      case rel => exact ⟨k + 1, _, by have := HK.out; omega, rfl, rfl⟩
      case measure => have := HK.out; omega
    · have hkn' : ¬ ((k : Int) < (R.length : Int)) := by omega
      go_wp2
      go_ret
      exact ⟨rfl, HB2.out.trans ⟨rfl, rfl, rfl, Nat.le_refl _, fun _ _ => rfl⟩⟩
end Go.Proofs.Ytlpaaehpcmnopaa
