/-
  The walk of the law ChainPlays: it returns true, whatever the script, and writes nothing that was there.
-/
import Derived.Test.YtlpaaehpcmnopaaKawake
import Derived.Test.YtlpaaehpcmnopaaKdo2
import Derived.Test.YtlpaaehpcmnopaaKsame
import Derived.Test.YtlpaaehpcmnopaaKargs
namespace Go.Proofs.Ytlpaaehpcmnopaa
open Go.RowKit
set_option linter.unusedVariables false

theorem do_any (base K : Nat) (o : Cl) (s : ChS Int) (w : World) (hB : Bti base K w s) (hg : s.g ≤ 1000) (hl : s.hs.length ≤ 1000) (ho : o.ok) :
    Calls Try.prog 9 #[.pointer (some ⟨s.C, 0, none⟩), .pointer (some ⟨K, 0, none⟩), .agg #[.int .i64 o.k, .int .i64 o.a, .int .i64 o.b, .int .i64 o.v]] w fun e w' => e = .returned (.bool true) ∧ DoTo base K w w' s := by
  obtain ⟨k, a, b, v⟩ := o
  obtain ⟨hk, ha, hb, hv⟩ := ho
  by_cases h1 : k = 1
  · subst h1; exact do_last base K a b v s w hB hg hl
  by_cases h2 : k = 2
  · subst h2; exact do_first base K a b v s w hB hg hl
  by_cases h3 : k = 3
  · subst h3; exact do_ahead base K a b v s w hB hg hl ha
  by_cases h4 : k = 4
  · subst h4; exact do_remove base K a b v s w hB hg hl ha
  by_cases h5 : k = 5
  · subst h5; exact do_move base K a b v s w hB hg hl ha hb
  by_cases h6 : k = 6
  · subst h6; exact do_set base K a b v s w hB hg hl ha
  exact do_get base K k a b v s w hB hg hl ha ⟨h1, h2, h3, h4, h5, h6⟩

theorem Bti.below {base K : Nat} {w w' : World} {s : ChS Int} (h : Bti base K w s) (hb : Below w.heap.size w w') : Bti base K w' s := by
  refine ⟨h.gd.below hb (fun b hf => h.gd.ch.lt hf), ?_, h.ft, h.kb⟩
  obtain ⟨v, hk, hr⟩ := h.rc
  exact ⟨v, hk.below hb hk.lt, own_below hr hb (fun g hg => (hr.lt g hg).2)⟩

/-- Between two rounds: so many calls have been made. -/
def PlRel (w : World) (C K n : Nat) (tv : Value) (wr : World) : Prop :=
  ∃ (s : ChS Int) (i : Nat), i ≤ n ∧ tv = .int .i64 i ∧ s.C = C ∧ s.g ≤ i ∧ Bti w.heap.size K wr s ∧ Below w.heap.size w wr

theorem newR (w : World) (base : Nat) : RC base w.heap.size (w.alloc (.cells #[.slice none 0 0, .int .i64 0] 29)) [] 0 := ⟨_, KB.new w _ _, World.ownsRow_nil _ _ _ _⟩
theorem new_rowi (C : Nat) : (newi C).row = [] := rfl

theorem add_succ_ {a : Addr} {j : Nat} (h : j ≠ 0) : a.add j = ⟨a.block, a.off + j, none⟩ := by unfold Addr.add; rw [if_neg h]
theorem new_foot {C B : Nat} (h : B ≤ C) : ∀ b, (newi C).foot b → B ≤ b := by
  rintro b (h1 | h1 | ⟨x, hx, _⟩)
  · rw [h1]; exact h
  · cases h1
  · cases hx

set_option maxRecDepth 100000 in
set_option maxHeartbeats 3200000 in
theorem cplays_walk (A : Option Addr) (n c : Nat) (os : List Cl) (z : Bool) (w : World) (hA : IsOps w A n c os) :
    Calls Try.prog 3 #[.slice A n c, .bool z] w fun e w' => e = .returned (.bool true) ∧ Below w.heap.size w w' := by
  have hlen := hA.1
  have hnc := hA.2.1
  have hmax := hA.2.2.1
  by_cases hn : n ≤ 200
  · go_enter Try.func3, Try.ntmps3
    have hn' : decide ((200 : Int) < (n : Int)) = false := by simp; omega
    go_wp2_with fail
    refine (awake_any _).mono ?_
    rintro e w1 ⟨rfl, hb1⟩
    go_wp2_with fail
    refine (new_anyi w1).mono ?_
    rintro e w2 ⟨rfl, rfl⟩
    cases z
    · have hB : Bti w.heap.size (w1.heap.size + 1) ((w1.alloc (.cells #[.map none, .int .i64 0, .int .i64 0, .int .i64 0] 34)).alloc (.cells #[.slice none 0 0, .int .i64 0] 29)) (newi w1.heap.size) := by
        refine ⟨⟨(new_gdi w1).ch.alloc _, (new_gdi w1).ring⟩, ?_, new_foot hb1.size, by have := hb1.size; omega⟩
        have := newR (w1.alloc (.cells #[.map none, .int .i64 0, .int .i64 0, .int .i64 0] 34)) w.heap.size
        simp only [World.size_alloc] at this
        exact this
      have hb2 : Below w.heap.size w ((w1.alloc (.cells #[.map none, .int .i64 0, .int .i64 0, .int .i64 0] 34)).alloc (.cells #[.slice none 0 0, .int .i64 0] 29)) := (hb1.alloc hb1.size _).alloc (by have := hb1.size; simp; omega) _
      have hC : (newi w1.heap.size).C = w1.heap.size := rfl
      have hG : (newi w1.heap.size).g = 0 := rfl
      go_wp2_with fail
      generalize ((w1.alloc (.cells #[.map none, .int .i64 0, .int .i64 0, .int .i64 0] 34)).alloc (.cells #[.slice none 0 0, .int .i64 0] 29)) = w3 at hB hb2 ⊢
      generalize newi w1.heap.size = s0 at hB hC hG
      generalize w1.heap.size = C at hB hC ⊢
      go_loopw [24] (fun tv wr => PlRel w C (C + 1) n tv wr) (fun tv _ => n - (intOf tv).toNat)
      case atStart => exact ⟨s0, 0, Nat.zero_le _, rfl, hC, by omega, hB, hb2⟩
      case round =>
        clear hB hb2 hC hG hb1
        obtain ⟨s, i, hi, rfl, hC, hgi, hB, hb⟩ := hrel
        have hlg := hB.gd.len_le
        by_cases hlt : i < n
        · obtain ⟨o, ho⟩ : ∃ o, os[i]? = some o := ⟨_, List.getElem?_eq_getElem (by omega)⟩
          have hA2 := hA.below hb (Nat.le_refl _)
          obtain ⟨x, rfl⟩ : ∃ x, A = some x := by
            cases A with
            | none => have := (hA.2.2.2.1 rfl).1; omega
            | some x => exact ⟨x, rfl⟩
          obtain ⟨hok, c0, c1, c2, c3⟩ := (hA2.2.2.2.2 x rfl).2 i o ho
          rw [← add_two, add_succ_ (by omega)] at c1 c2 c3
          have hd := do_any w.heap.size (C + 1) o s wr hB (by omega) (by omega) hok
          rw [hC] at hd
          have hlt' : (i : Int) < (n : Int) := by omega
          have HA := Lib.hid hA
          have HO := Lib.hid ho
          clear hA hA2 ho
          go_wp2_with fail
          refine hd.mono ?_
          rintro e w4 ⟨rfl, s', e1, e2, e3, hB4, hb4⟩
          clear hd c0 c1 c2 c3
          have hlg4 := hB4.gd.len_le
          have hsm := same_yes w.heap.size (C + 1) s' w4 hB4 (by omega)
          rw [e1, hC] at hsm
          have HB4 := Lib.hid hB4
          have HB := Lib.hid (hb.trans hb4)
          clear hB4 hb4 hb hB
          go_wp2_with fail
          refine hsm.mono ?_
          rintro e w5 ⟨rfl, hb5⟩
          clear hsm
          go_wp2
          go_roundw
          case rel => exact ⟨s', i + 1, by omega, by go_num, by rw [e1, hC], by omega, HB4.out.below hb5, HB.out.trans (hb5.mono HB.out.size)⟩
          case measure => simp [intOf]; omega
        · have hlt' : ¬ ((i : Int) < (n : Int)) := by omega
          go_wp2
          go_ret
          exact ⟨rfl, hb⟩
    · have hB : Bti w.heap.size (w1.heap.size + 1) (((w1.alloc (.cells #[.map none, .int .i64 0, .int .i64 0, .int .i64 0] 34)).alloc (.cells #[.slice none 0 0, .int .i64 0] 29)).alloc (.cells #[.map none, .int .i64 0, .int .i64 0, .int .i64 0] 34)) (newi (w1.heap.size + 1 + 1)) := by
        have hnew := new_gdi ((w1.alloc (.cells #[.map none, .int .i64 0, .int .i64 0, .int .i64 0] 34)).alloc (.cells #[.slice none 0 0, .int .i64 0] 29))
        simp only [World.size_alloc] at hnew
        refine ⟨hnew, ?_, new_foot (by have := hb1.size; omega), by have := hb1.size; omega⟩
        have := (newR (w1.alloc (.cells #[.map none, .int .i64 0, .int .i64 0, .int .i64 0] 34)) w.heap.size).alloc (.cells #[.map none, .int .i64 0, .int .i64 0, .int .i64 0] 34)
        simp only [World.size_alloc] at this
        exact this
      have hb2 : Below w.heap.size w (((w1.alloc (.cells #[.map none, .int .i64 0, .int .i64 0, .int .i64 0] 34)).alloc (.cells #[.slice none 0 0, .int .i64 0] 29)).alloc (.cells #[.map none, .int .i64 0, .int .i64 0, .int .i64 0] 34)) := ((hb1.alloc hb1.size _).alloc (by have := hb1.size; simp; omega) _).alloc (by have := hb1.size; simp; omega) _
      have hC : (newi (w1.heap.size + 1 + 1)).C = w1.heap.size + 1 + 1 := rfl
      have hG : (newi (w1.heap.size + 1 + 1)).g = 0 := rfl
      go_wp2_with fail
      generalize (((w1.alloc (.cells #[.map none, .int .i64 0, .int .i64 0, .int .i64 0] 34)).alloc (.cells #[.slice none 0 0, .int .i64 0] 29)).alloc (.cells #[.map none, .int .i64 0, .int .i64 0, .int .i64 0] 34)) = w3 at hB hb2 ⊢
      generalize newi (w1.heap.size + 1 + 1) = s0 at hB hC hG
      generalize w1.heap.size = C at hB hC ⊢
      go_loopw [24] (fun tv wr => PlRel w (C + 1 + 1) (C + 1) n tv wr) (fun tv _ => n - (intOf tv).toNat)
      case atStart => exact ⟨s0, 0, Nat.zero_le _, rfl, hC, by omega, hB, hb2⟩
      case round =>
        clear hB hb2 hC hG hb1
        obtain ⟨s, i, hi, rfl, hC, hgi, hB, hb⟩ := hrel
        have hlg := hB.gd.len_le
        by_cases hlt : i < n
        · obtain ⟨o, ho⟩ : ∃ o, os[i]? = some o := ⟨_, List.getElem?_eq_getElem (by omega)⟩
          have hA2 := hA.below hb (Nat.le_refl _)
          obtain ⟨x, rfl⟩ : ∃ x, A = some x := by
            cases A with
            | none => have := (hA.2.2.2.1 rfl).1; omega
            | some x => exact ⟨x, rfl⟩
          obtain ⟨hok, c0, c1, c2, c3⟩ := (hA2.2.2.2.2 x rfl).2 i o ho
          rw [← add_two, add_succ_ (by omega)] at c1 c2 c3
          have hd := do_any w.heap.size (C + 1) o s wr hB (by omega) (by omega) hok
          rw [hC] at hd
          have hlt' : (i : Int) < (n : Int) := by omega
          have HA := Lib.hid hA
          have HO := Lib.hid ho
          clear hA hA2 ho
          go_wp2_with fail
          refine hd.mono ?_
          rintro e w4 ⟨rfl, s', e1, e2, e3, hB4, hb4⟩
          clear hd c0 c1 c2 c3
          have hlg4 := hB4.gd.len_le
          have hsm := same_yes w.heap.size (C + 1) s' w4 hB4 (by omega)
          rw [e1, hC] at hsm
          have HB4 := Lib.hid hB4
          have HB := Lib.hid (hb.trans hb4)
          clear hB4 hb4 hb hB
          go_wp2_with fail
          refine hsm.mono ?_
          rintro e w5 ⟨rfl, hb5⟩
          clear hsm
          go_wp2
          go_roundw
          case rel => exact ⟨s', i + 1, by omega, by go_num, by rw [e1, hC], by omega, HB4.out.below hb5, HB.out.trans (hb5.mono HB.out.size)⟩
          case measure => simp [intOf]; omega
        · have hlt' : ¬ ((i : Int) < (n : Int)) := by omega
          go_wp2
          go_ret
          exact ⟨rfl, hb⟩
  · have hn' : (200 : Int) < (n : Int) := by omega
    go_enter Try.func3, Try.ntmps3
    go_wp2_with fail
    refine (awake_any _).mono ?_
    rintro e w1 ⟨rfl, hb1⟩
    go_wp2_with fail
    refine (awake_any _).mono ?_
    rintro e w2 ⟨rfl, hb2⟩
    go_wp2
    go_ret
    exact ⟨rfl, hb1.trans (hb2.mono hb1.size)⟩
end Go.Proofs.Ytlpaaehpcmnopaa
