/-
  The law's own function do, at chains of numbers: each call answers alike on both, and leaves the same row. The conditions stand in each theorem.
-/
import Derived.Test.YtlpaaehpcmnopaaKboth
import Derived.Test.YtlpaaehpcmnopaaKcalls3i
import Derived.Deep.RegionWith
namespace Go.Proofs.Ytlpaaehpcmnopaa
open Go.RowKit
set_option linter.unusedVariables false

abbrev Bti (base K : Nat) (w : World) (s : ChS Int) : Prop := Bt evi 34 86 base K w s s.row
theorem ne1 : (29 : TypeId) ≠ 34 := by decide
theorem ne2 : (29 : TypeId) ≠ 86 := by decide
theorem ne3 : (54 : TypeId) ≠ 34 := by decide
theorem ne4 : (54 : TypeId) ≠ 86 := by decide
theorem ne5 : (37 : TypeId) ≠ 34 := by decide
theorem ne6 : (37 : TypeId) ≠ 86 := by decide

/-- What a call leaves: both are alike, no more than one handle and one member have come. -/
def DoTo (base K : Nat) (w w' : World) (s : ChS Int) : Prop := ∃ s' : ChS Int, s'.C = s.C ∧ s.g ≤ s'.g ∧ s'.g ≤ s.g + 1 ∧ Bti base K w' s' ∧ Below base w w'

theorem Bti.step {base K : Nat} {w w1 w2 : World} {s : ChS Int} (h : Bti base K w s) {g : Int} {R : List (Int × Int)} (hg : s.g ≤ g) (hg1 : g ≤ s.g + 1) (hc : ChToi w w1 s g R) (hr2 : RcTo base K w1 w2 R g) : DoTo base K w w2 s := by
  have hr := h.rc.side h.gd ne1 ne2 ne3 ne4 (by obtain ⟨_, _, _, _, _, ht, _⟩ := hc; exact ht)
  obtain ⟨s', e1, e2, e3, hb, hB⟩ := Bt.step h ne1 ne2 hc hr hr2
  exact ⟨s', e1, by omega, by omega, by unfold Bti; rw [e3]; exact hb, hB⟩
theorem Bti.box {base K : Nat} {w : World} {s : ChS Int} (h : Bti base K w s) (o : Obj) : Bti base K (w.alloc o) s :=
  ⟨⟨h.gd.ch.alloc o, h.gd.ring⟩, h.rc.alloc o, h.ft, h.kb⟩
theorem Bti.drew {base K : Nat} {w : World} {s : ChS Int} (h : Bti base K w s) : Bti base K w.drew s :=
  ⟨⟨h.gd.ch.drew, h.gd.ring⟩, by obtain ⟨v, hk, hr⟩ := h.rc; exact ⟨v, hk, hr⟩, h.ft, h.kb⟩
theorem DoTo.from {base K : Nat} {w w1 w2 : World} {s : ChS Int} (h : DoTo base K w1 w2 s) (hb : Below base w w1) : DoTo base K w w2 s := by
  obtain ⟨s', e1, e2, e3, h1, h2⟩ := h
  exact ⟨s', e1, e2, e3, h1, hb.trans h2⟩
theorem ChTo.drew {w w' : World} {s : ChS Int} {g : Int} {R : List (Int × Int)} (h : ChToi w.drew w' s g R) : ChToi w w' s g R := by
  obtain ⟨s', h1, h2, h3, h4, h5, h6⟩ := h
  exact ⟨s', h1, h2, h3, h4, ⟨h5.os, h5.tape, h5.output, h5.size, h5.block⟩, h6⟩

set_option maxRecDepth 100000 in
set_option maxHeartbeats 3200000 in
theorem do_last (base K : Nat) (a b v : Int) (s : ChS Int) (w : World) (hB : Bti base K w s) (hg : s.g ≤ 1000) (hl : s.hs.length ≤ 1000) :
    Calls Try.prog 9 #[.pointer (some ⟨s.C, 0, none⟩), .pointer (some ⟨K, 0, none⟩), .agg #[.int .i64 1, .int .i64 a, .int .i64 b, .int .i64 v]] w fun e w' => e = .returned (.bool true) ∧ DoTo base K w w' s := by
  have hB1 := hB.box (.cells #[.int .i64 1, .int .i64 a, .int .i64 b, .int .i64 v] 37)
  have hb1 : Below base w (w.alloc (.cells #[.int .i64 1, .int .i64 a, .int .i64 b, .int .i64 v] 37)) := (Below.refl _ _).alloc hB.sz _
  have hk := KB.new w 37 #[.int .i64 1, .int .i64 a, .int .i64 b, .int .i64 v]
  have h0 := hB.gd.ch.g0
  have hwf : (Lit.int .i64 (s.g + 1)).wf = true := wf_mid (g := 1001) (by omega) (by omega) (by decide)
  go_enter Try.func9, Try.ntmps9
  go_wp2_with fail
  generalize w.heap.size = G at hk ⊢
  generalize (w.alloc (.cells #[.int .i64 1, .int .i64 a, .int .i64 b, .int .i64 v] 37)) = wA at hB1 hb1 hk ⊢
  have k3 := hk.cell 3
  simp at k3
  have H1 := Lib.hid (last_anyi s v wA.drew hB1.drew.gd hwf (by unfold maxLen; omega))
  go_region_with (first
    | (go_at_call 19; refine H1.out.mono ?_; rintro e w1 ⟨rfl, h1⟩; have h1 := ChTo.drew h1; have hr1 := hB1.rc.side hB1.gd ne1 ne2 ne3 ne4 (by obtain ⟨_, _, _, _, _, ht, _⟩ := h1; exact ht); have z3 := (hk.side hB1.gd ne5 ne6 (by obtain ⟨_, _, _, _, _, ht, _⟩ := h1; exact ht)).cell 3; simp at z3; have HC := Lib.hid h1; have HR := Lib.hid hr1; have hs1 : base ≤ w1.heap.size := (by obtain ⟨_, _, _, _, _, ht, _⟩ := h1; exact Nat.le_trans hB1.sz ht.size); clear h1 hr1)
    | (go_at_call 13; refine (rlast_any base K v s.row s.g w1 HR.out hwf h0 (by rw [row_len]; omega) hs1).mono ?_; rintro e w2 ⟨rfl, h2⟩; have HD := Lib.hid (Bti.step hB1 (by omega) (by omega) HC.out h2); clear h2))
  all_goals
    clear k3
    go_wp2
    go_ret
    exact ⟨rfl, HD.out.from hb1⟩

set_option maxRecDepth 100000 in
set_option maxHeartbeats 3200000 in
theorem do_first (base K : Nat) (a b v : Int) (s : ChS Int) (w : World) (hB : Bti base K w s) (hg : s.g ≤ 1000) (hl : s.hs.length ≤ 1000) :
    Calls Try.prog 9 #[.pointer (some ⟨s.C, 0, none⟩), .pointer (some ⟨K, 0, none⟩), .agg #[.int .i64 2, .int .i64 a, .int .i64 b, .int .i64 v]] w fun e w' => e = .returned (.bool true) ∧ DoTo base K w w' s := by
  have hB1 := hB.box (.cells #[.int .i64 2, .int .i64 a, .int .i64 b, .int .i64 v] 37)
  have hb1 : Below base w (w.alloc (.cells #[.int .i64 2, .int .i64 a, .int .i64 b, .int .i64 v] 37)) := (Below.refl _ _).alloc hB.sz _
  have hk := KB.new w 37 #[.int .i64 2, .int .i64 a, .int .i64 b, .int .i64 v]
  have h0 := hB.gd.ch.g0
  have hwf : (Lit.int .i64 (s.g + 1)).wf = true := wf_mid (g := 1001) (by omega) (by omega) (by decide)
  go_enter Try.func9, Try.ntmps9
  go_wp2_with fail
  generalize w.heap.size = G at hk ⊢
  generalize (w.alloc (.cells #[.int .i64 2, .int .i64 a, .int .i64 b, .int .i64 v] 37)) = wA at hB1 hb1 hk ⊢
  have k3 := hk.cell 3
  simp at k3
  have H1 := Lib.hid (first_anyi s v wA.drew hB1.drew.gd hwf (by unfold maxLen; omega))
  go_region_with (first
    | (go_at_call 25; refine H1.out.mono ?_; rintro e w1 ⟨rfl, h1⟩; have h1 := ChTo.drew h1; have hr1 := hB1.rc.side hB1.gd ne1 ne2 ne3 ne4 (by obtain ⟨_, _, _, _, _, ht, _⟩ := h1; exact ht); have z3 := (hk.side hB1.gd ne5 ne6 (by obtain ⟨_, _, _, _, _, ht, _⟩ := h1; exact ht)).cell 3; simp at z3; have HC := Lib.hid h1; have HR := Lib.hid hr1; have hs1 : base ≤ w1.heap.size := (by obtain ⟨_, _, _, _, _, ht, _⟩ := h1; exact Nat.le_trans hB1.sz ht.size); clear h1 hr1)
    | (go_at_call 29; refine (rfirst_any base K v s.row s.g w1 HR.out hwf h0 (by rw [row_len]; omega) hs1).mono ?_; rintro e w2 ⟨rfl, h2⟩; have HD := Lib.hid (Bti.step hB1 (by omega) (by omega) HC.out h2); clear h2))
  all_goals
    clear k3
    go_wp2
    go_ret
    exact ⟨rfl, HD.out.from hb1⟩

set_option maxRecDepth 100000 in
set_option maxHeartbeats 3200000 in
theorem do_ahead (base K : Nat) (a b v : Int) (s : ChS Int) (w : World) (hB : Bti base K w s) (hg : s.g ≤ 1000) (hl : s.hs.length ≤ 1000) (ha : (Lit.int .i64 a).wf = true) :
    Calls Try.prog 9 #[.pointer (some ⟨s.C, 0, none⟩), .pointer (some ⟨K, 0, none⟩), .agg #[.int .i64 3, .int .i64 a, .int .i64 b, .int .i64 v]] w fun e w' => e = .returned (.bool true) ∧ DoTo base K w w' s := by
  have hB1 := hB.box (.cells #[.int .i64 3, .int .i64 a, .int .i64 b, .int .i64 v] 37)
  have hb1 : Below base w (w.alloc (.cells #[.int .i64 3, .int .i64 a, .int .i64 b, .int .i64 v] 37)) := (Below.refl _ _).alloc hB.sz _
  have hk := KB.new w 37 #[.int .i64 3, .int .i64 a, .int .i64 b, .int .i64 v]
  have h0 := hB.gd.ch.g0
  have hwf : (Lit.int .i64 (s.g + 1)).wf = true := wf_mid (g := 1001) (by omega) (by omega) (by decide)
  go_enter Try.func9, Try.ntmps9
  go_wp2_with fail
  generalize w.heap.size = G at hk ⊢
  generalize (w.alloc (.cells #[.int .i64 3, .int .i64 a, .int .i64 b, .int .i64 v] 37)) = wA at hB1 hb1 hk ⊢
  have k1 := hk.cell 1
  have k3 := hk.cell 3
  simp at k1 k3
  by_cases hh : a ∈ s.hs
  · obtain ⟨xs, ys, hrow, hx, hy⟩ := row_split s hB.gd.ch.nd hh
    have H1 := Lib.hid (ahead_yesi s a v wA hB1.gd hh hwf (by unfold maxLen; omega))
    refine H1.out.mono ?_
    rintro e w1 ⟨rfl, h1⟩
    have hr1 := hB1.rc.side hB1.gd ne1 ne2 ne3 ne4 (by obtain ⟨_, _, _, _, _, ht, _⟩ := h1; exact ht)
    have hs1 : base ≤ w1.heap.size := (by obtain ⟨_, _, _, _, _, ht, _⟩ := h1; exact Nat.le_trans hB1.sz ht.size)
    have z1 := (hk.side hB1.gd ne5 ne6 (by obtain ⟨_, _, _, _, _, ht, _⟩ := h1; exact ht)).cell 1
    have z3 := (hk.side hB1.gd ne5 ne6 (by obtain ⟨_, _, _, _, _, ht, _⟩ := h1; exact ht)).cell 3
    simp at z1 z3
    have hlen : (xs ++ (a, s.vl a) :: ys).length ≤ 1000000 := by rw [← hrow, row_len]; omega
    rw [hrow] at hr1
    rw [hrow, insB_mid hx rfl] at h1
    have HX := Lib.hid hx
    have HC := Lib.hid h1
    have HR := Lib.hid hr1
    clear h1 hr1 hrow hx hy k1 k3
    go_wp2_with fail
    refine (rahead_yes base K a v xs ys (a, s.vl a) s.g w1 HR.out HX.out rfl hwf h0 hlen hs1).mono ?_
    rintro e w2 ⟨rfl, h2⟩
    have HD := Lib.hid (Bti.step hB1 (by omega) (by omega) HC.out h2)
    clear h2
    go_wp2
    go_ret
    exact ⟨rfl, HD.out.from hb1⟩
  · have H1 := Lib.hid (ahead_noi s a v wA hB1.gd hh ha)
    have hx := row_no s hh
    refine H1.out.mono ?_
    rintro e w1 ⟨rfl, rfl⟩
    go_wp2_with fail
    refine (rahead_no base K a v s.row s.g wA hB1.rc hx (by rw [row_len]; omega)).mono ?_
    rintro e w2 ⟨rfl, rfl⟩
    go_wp2
    go_ret
    exact ⟨rfl, s, rfl, by omega, by omega, hB1, hb1⟩

set_option maxRecDepth 100000 in
set_option maxHeartbeats 3200000 in
theorem do_remove (base K : Nat) (a b v : Int) (s : ChS Int) (w : World) (hB : Bti base K w s) (hg : s.g ≤ 1000) (hl : s.hs.length ≤ 1000) (ha : (Lit.int .i64 a).wf = true) :
    Calls Try.prog 9 #[.pointer (some ⟨s.C, 0, none⟩), .pointer (some ⟨K, 0, none⟩), .agg #[.int .i64 4, .int .i64 a, .int .i64 b, .int .i64 v]] w fun e w' => e = .returned (.bool true) ∧ DoTo base K w w' s := by
  have hB1 := hB.box (.cells #[.int .i64 4, .int .i64 a, .int .i64 b, .int .i64 v] 37)
  have hb1 : Below base w (w.alloc (.cells #[.int .i64 4, .int .i64 a, .int .i64 b, .int .i64 v] 37)) := (Below.refl _ _).alloc hB.sz _
  have hk := KB.new w 37 #[.int .i64 4, .int .i64 a, .int .i64 b, .int .i64 v]
  have h0 := hB.gd.ch.g0
  have hwf : (Lit.int .i64 (s.g + 1)).wf = true := wf_mid (g := 1001) (by omega) (by omega) (by decide)
  go_enter Try.func9, Try.ntmps9
  go_wp2_with fail
  generalize w.heap.size = G at hk ⊢
  generalize (w.alloc (.cells #[.int .i64 4, .int .i64 a, .int .i64 b, .int .i64 v] 37)) = wA at hB1 hb1 hk ⊢
  have k1 := hk.cell 1
  simp at k1
  by_cases hh : a ∈ s.hs
  · obtain ⟨xs, ys, hrow, hx, hy⟩ := row_split s hB.gd.ch.nd hh
    have H1 := Lib.hid (remove_yesi s a wA hB1.gd hh)
    refine H1.out.mono ?_
    rintro e w1 ⟨rfl, h1⟩
    have hr1 := hB1.rc.side hB1.gd ne1 ne2 ne3 ne4 (by obtain ⟨_, _, _, _, _, ht, _⟩ := h1; exact ht)
    have hs1 : base ≤ w1.heap.size := (by obtain ⟨_, _, _, _, _, ht, _⟩ := h1; exact Nat.le_trans hB1.sz ht.size)
    have z1 := (hk.side hB1.gd ne5 ne6 (by obtain ⟨_, _, _, _, _, ht, _⟩ := h1; exact ht)).cell 1
    simp at z1
    have hlen : (xs ++ (a, s.vl a) :: ys).length ≤ 1000000 := by rw [← hrow, row_len]; omega
    rw [hrow] at hr1
    rw [hrow, delR_mid hx rfl hy] at h1
    have HX := Lib.hid hx
    have HC := Lib.hid h1
    have HR := Lib.hid hr1
    clear h1 hr1 hrow hx hy k1
    go_wp2_with fail
    refine (rremove_yes base K a xs ys (a, s.vl a) s.g w1 HR.out HX.out rfl hlen hs1).mono ?_
    rintro e w2 ⟨rfl, h2⟩
    have HD := Lib.hid (Bti.step hB1 (by omega) (by omega) HC.out h2)
    clear h2
    go_wp2
    go_ret
    exact ⟨rfl, HD.out.from hb1⟩
  · have H1 := Lib.hid (remove_noi s a wA hB1.gd hh ha)
    have hx := row_no s hh
    refine H1.out.mono ?_
    rintro e w1 ⟨rfl, rfl⟩
    go_wp2_with fail
    refine (rremove_no base K a s.row s.g wA hB1.rc hx (by rw [row_len]; omega)).mono ?_
    rintro e w2 ⟨rfl, rfl⟩
    go_wp2
    go_ret
    exact ⟨rfl, s, rfl, by omega, by omega, hB1, hb1⟩

end Go.Proofs.Ytlpaaehpcmnopaa
