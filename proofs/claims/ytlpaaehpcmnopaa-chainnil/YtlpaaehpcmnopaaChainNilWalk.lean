/-
  The walk of the law ChainNil: it returns true, whatever the call, and writes nothing that was there.
-/
import Derived.Test.YtlpaaehpcmnopaaKawake
import Derived.Test.YtlpaaehpcmnopaaKlrow
namespace Go.Proofs.Ytlpaaehpcmnopaa
open Go.RowKit
set_option linter.unusedVariables false

theorem own_len0 {w : World} {base : Nat} {v : Value} (h : w.ownsRow base 54 2 v ([] : List (Int × Int)).length (mc [])) : ∃ A c, v = .slice A 0 c := by
  rcases h.2 with ⟨rfl, _⟩ | ⟨g, cap, cur, rfl, _⟩
  · exact ⟨_, _, rfl⟩
  · exact ⟨_, _, rfl⟩

set_option maxRecDepth 100000 in
set_option maxHeartbeats 1600000 in
theorem cnil_walk (k a b v : Int) (w : World) :
    Calls Try.prog 6 #[.agg #[.int .i64 k, .int .i64 a, .int .i64 b, .int .i64 v]] w fun e w' => e = .returned (.bool true) ∧ Below w.heap.size w w' := by
  have hk := KB.new w 37 #[.int .i64 k, .int .i64 a, .int .i64 b, .int .i64 v]
  have hb0 : Below w.heap.size w (w.alloc (.cells #[.int .i64 k, .int .i64 a, .int .i64 b, .int .i64 v] 37)) := (Below.refl _ _).alloc (Nat.le_refl _) _
  go_enter Try.func6, Try.ntmps6
  go_wp2_with fail
  refine (awake_any _).mono ?_
  rintro e w1 ⟨rfl, hb1⟩
  have hk1 := hk.below hb1 hk.lt
  have HB := Lib.hid (hb0.trans (hb1.mono hb0.size))
  have c1 := hk1.cell 1
  have c2 := hk1.cell 2
  have c3 := hk1.cell 3
  simp at c1 c2 c3
  clear hk hb0 hb1 hk1
  go_wp2_with fail
  refine (ahead_nili a v w1).mono ?_
  rintro e w' ⟨rfl, rfl⟩
  go_wp2_with fail
  refine (remove_nili a w1).mono ?_
  rintro e w' ⟨rfl, rfl⟩
  go_wp2_with fail
  refine (get_nili a w1).mono ?_
  rintro e w' ⟨rfl, rfl⟩
  go_wp2_with fail
  refine (last_nili v w1).mono ?_
  rintro e w' ⟨rfl, rfl⟩
  go_wp2_with fail
  refine (first_nili v w1).mono ?_
  rintro e w' ⟨rfl, rfl⟩
  go_wp2_with fail
  refine (move_nili a b w1).mono ?_
  rintro e w' ⟨rfl, rfl⟩
  go_wp2_with fail
  refine (set_nili a v w1).mono ?_
  rintro e w' ⟨rfl, rfl⟩
  go_wp2_with fail
  refine (len_nili w1).mono ?_
  rintro e w' ⟨rfl, rfl⟩
  go_wp2_with fail
  refine (row_there_nil w1).mono ?_
  rintro e w2 ⟨x, rfl, ho, hb2⟩
  obtain ⟨A, c, rfl⟩ := own_len0 ho
  have HB2 := Lib.hid (HB.out.trans (hb2.mono HB.out.size))
  clear c1 c2 c3 ho hb2
  go_wp2_with fail
  refine (row_back_nil w2).mono ?_
  rintro e w3 ⟨x, rfl, ho, hb3⟩
  obtain ⟨A', c', rfl⟩ := own_len0 ho
  have HB3 := Lib.hid (HB2.out.trans (hb3.mono HB2.out.size))
  clear ho hb3
  go_wp2
  go_ret
  exact ⟨rfl, HB3.out⟩
end Go.Proofs.Ytlpaaehpcmnopaa
