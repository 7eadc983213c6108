/-
  Bond, Deposit, Release, Forfeit, Pay, Keep, Transfer of the ledger. The conditions stand in each theorem.
-/
import Derived.Test.YtahleoidbnlllaaLmove
import Derived.Deep.RegionWith
namespace Go.Proofs.Ytahleoidbnlllaa
open Go.RowKit
set_option linter.unusedVariables false

theorem Lm.cases (s : Lm) (i : Int) : (s.ab.ac i = none ∧ (i < 0 ∨ (s.a.length : Int) ≤ i)) ∨ ∃ (k : Nat) (x : Am), i = k ∧ s.a[k]? = some x ∧ s.ab.ac i = some x.ac := by
  by_cases h : i < 0 ∨ (s.a.length : Int) ≤ i
  · refine .inl ⟨?_, h⟩
    unfold Ab.ac
    split
    · rw [List.getElem?_eq_none (by rw [s.ab_len]; omega)]
    · rfl
  · obtain ⟨k, rfl⟩ : ∃ k : Nat, i = k := ⟨i.toNat, by omega⟩
    have hx : s.a[k]? = some (s.a[k]'(by omega)) := List.getElem?_eq_getElem (by omega)
    exact .inr ⟨k, _, rfl, hx, Lm.ab_ac hx⟩
theorem ab_put (s : Lm) (k : Nat) (y : Am) : ({ s with a := s.a.set k y } : Lm).ab = s.ab.put (k : Int) y.ac := by
  simp [Lm.ab, Ab.put, List.map_set]
theorem put_put (s : Ab) (i : Int) (x y : Ac) : (s.put i x).put i y = s.put i y := by simp [Ab.put]
theorem get_same {s : Lm} {k : Nat} {x y : Am} (h : s.a[k]? = some x) : (s.a.set k y)[k]? = some y := by
  have := (List.getElem?_eq_some_iff.1 h).1
  simp [this]
/-- Each amount is below 2^64. -/
theorem Ab.ok.bounds {s : Lm} (h : s.ab.ok) {k : Nat} {x : Am} (hx : s.a[k]? = some x) : x.f + x.b + x.d + cht x.ch + s.t + s.p ≤ s.ab.tot ∧ s.ab.tot < 18446744073709551616 := by
  have := all_le_tot (Lm.ab_ac hx)
  exact ⟨this, h.tot⟩
theorem Ab.ok.len32 {s : Lm} (h : s.ab.ok) : s.a.length ≤ 32 := by have := h.len; rwa [s.ab_len] at this
theorem foot_g {s : Lm} {g n cap : Nat} (hv : s.v = .slice (some ⟨g, 0, none⟩) n cap) : s.foot g := .inr (.inl (by rw [hv]; rfl))
theorem foot_c {s : Lm} {k : Nat} {x : Am} (hx : s.a[k]? = some x) {g n cap : Nat} (hv : x.v = .slice (some ⟨g, 0, none⟩) n cap) : s.foot g := .inr (.inr ⟨k, x, hx, by rw [hv]; rfl⟩)
theorem foot_L (s : Lm) : s.foot s.L := .inl rfl
theorem two_turns {s : Lm} (w : World) (p q : Addr) (u v : Value) (hp : s.foot p.block) (hq : s.foot q.block) : Turns s.foot w ((w.setCell p u).setCell q v) :=
  (Turns.setCell (F := s.foot) w p u hp).trans (Turns.setCell (F := s.foot) _ q v hq) (fun b hb => .inl hb)

theorem LgTo.mk {T : Tys} {base : Nat} {w w' : World} {s s' : Lm} {A : Ab} (h : Lg T base w' s') (hL : s'.L = s.L) (hA : s'.ab = A) (ht : Turns s.foot w w') : LgTo T base w w' s A := ⟨s', hL, hA, h, ht⟩
theorem Turns.undrew {F : Nat → Prop} {w w' : World} (h : Turns F w.drew w') : Turns F w w' := ⟨h.os, h.tape, h.output, h.size, h.block⟩
/-- A test that is settled. -/
theorem ite_t {α : Type} {c : Prop} [Decidable c] (h : c) (a b : α) : (if c then a else b) = a := if_pos h
theorem ite_f {α : Type} {c : Prop} [Decidable c] (h : ¬ c) (a b : α) : (if c then a else b) = b := if_neg h

section
variable {base : Nat} {w : World} {s : Lm}
set_option maxHeartbeats 1600000 in
theorem bond_any (h : Lg TP base w s) (hok : s.ab.ok) (i : Int) (n : Nat) (hn : n < 18446744073709551616) :
    Calls Try.prog 19 #[.pointer (some ⟨s.L, 0, none⟩), .int .i64 i, .int .u64 n] w fun e w' => e = .returned (.int .i64 (bondM s.ab i n).2) ∧ LgTo TP base w w' s (bondM s.ab i n).1 := by
  have hl := hok.len32
  unfold bondM
  rcases s.cases i with ⟨ha, hi⟩ | ⟨k, x, rfl, hx, ha⟩
  · rw [ha]
    go_enter Try.func19, Try.ntmps19
    go_wp2_with fail
    refine (fnd_no h hi hl).mono ?_
    rintro e w' ⟨rfl, rfl⟩
    go_wp2
    go_ret
    exact ⟨rfl, LgTo.same h (Below.refl _ _)⟩
  · rw [ha]
    obtain ⟨g, cap, hv, hc, hg1, hg2⟩ := h.vform hx
    have hkl := (List.getElem?_eq_some_iff.1 hx).1
    have hf := fnd_yes h hx hv hl
    obtain ⟨e0, e1, e2, e3, ef⟩ := h.acell hx hv
    obtain ⟨hb1, hb2⟩ := hok.bounds hx
    by_cases hlt : x.f < n
    · have hm := mv_no g (k * 4) (some ⟨g, k * 4 + 1, none⟩) (x.f) n w.drew e0 hlt hn
      have HM := Lib.hid hm
      have H := Lib.hid h
      try dsimp only
      rw [ite_t (show x.ac.f < n from hlt)]
      clear hm h ha
      go_enter Try.func19, Try.ntmps19
      go_wp2_with fail
      refine hf.mono ?_
      rintro e w' ⟨rfl, rfl⟩
      go_wp2_with fail
      go_region_with (go_at_call 51; refine HM.out.mono ?_; rintro e w' ⟨rfl, rfl⟩)
      all_goals
        go_wp2
        go_ret
        exact ⟨rfl, LgTo.same H.out (Below.refl _ _).drew⟩
    · have h1 := h.drew.set_f hx hv (x.f - n)
      have hx1 := get_same (y := { x with f := x.f - n }) hx
      have hv1 : s.v = .slice (some ⟨g, 0, none⟩) (s.a.set k { x with f := x.f - n }).length cap := by simpa using hv
      have h2 := h1.set_b hx1 hv1 (x.b + n)
      obtain ⟨q0, q1, q2, _, qf⟩ := h1.acell hx1 hv1
      have hm := mv_yes g (k * 4) g (k * 4 + 1) (x.f) (x.b) n w.drew e0 (ef _) q1 (qf _) (by omega) (by omega) (by omega)
      have HM := Lib.hid hm
      have H2 := Lib.hid h2
      try dsimp only
      rw [ite_f (show ¬ x.ac.f < n from hlt)]
      clear hm h ha h1 h2 q0 q1 q2 qf
      go_enter Try.func19, Try.ntmps19
      go_wp2_with fail
      refine hf.mono ?_
      rintro e w' ⟨rfl, rfl⟩
      go_wp2_with fail
      go_region_with (go_at_call 51; refine HM.out.mono ?_; rintro e w' ⟨rfl, rfl⟩)
      all_goals
        go_wp2
        go_ret
        exact ⟨rfl, LgTo.mk H2.out rfl (by simp [Lm.ab, Ab.put, List.map_set, Am.ac]) (Turns.undrew (two_turns w.drew _ _ _ _ (foot_g hv) (foot_g hv)))⟩
set_option maxHeartbeats 1600000 in
theorem dep_any (h : Lg TP base w s) (hok : s.ab.ok) (i : Int) (n : Nat) (hn : n < 18446744073709551616) :
    Calls Try.prog 20 #[.pointer (some ⟨s.L, 0, none⟩), .int .i64 i, .int .u64 n] w fun e w' => e = .returned (.int .i64 (depM s.ab i n).2) ∧ LgTo TP base w w' s (depM s.ab i n).1 := by
  have hl := hok.len32
  unfold depM
  rcases s.cases i with ⟨ha, hi⟩ | ⟨k, x, rfl, hx, ha⟩
  · rw [ha]
    go_enter Try.func20, Try.ntmps20
    go_wp2_with fail
    refine (fnd_no h hi hl).mono ?_
    rintro e w' ⟨rfl, rfl⟩
    go_wp2
    go_ret
    exact ⟨rfl, LgTo.same h (Below.refl _ _)⟩
  · rw [ha]
    obtain ⟨g, cap, hv, hc, hg1, hg2⟩ := h.vform hx
    have hkl := (List.getElem?_eq_some_iff.1 hx).1
    have hf := fnd_yes h hx hv hl
    obtain ⟨e0, e1, e2, e3, ef⟩ := h.acell hx hv
    obtain ⟨hb1, hb2⟩ := hok.bounds hx
    by_cases hlt : x.f < n
    · have hm := mv_no g (k * 4) (some ⟨g, k * 4 + 2, none⟩) (x.f) n w.drew e0 hlt hn
      have HM := Lib.hid hm
      have H := Lib.hid h
      try dsimp only
      rw [ite_t (show x.ac.f < n from hlt)]
      clear hm h ha
      go_enter Try.func20, Try.ntmps20
      go_wp2_with fail
      refine hf.mono ?_
      rintro e w' ⟨rfl, rfl⟩
      go_wp2_with fail
      go_region_with (go_at_call 51; refine HM.out.mono ?_; rintro e w' ⟨rfl, rfl⟩)
      all_goals
        go_wp2
        go_ret
        exact ⟨rfl, LgTo.same H.out (Below.refl _ _).drew⟩
    · have h1 := h.drew.set_f hx hv (x.f - n)
      have hx1 := get_same (y := { x with f := x.f - n }) hx
      have hv1 : s.v = .slice (some ⟨g, 0, none⟩) (s.a.set k { x with f := x.f - n }).length cap := by simpa using hv
      have h2 := h1.set_d hx1 hv1 (x.d + n)
      obtain ⟨q0, q1, q2, _, qf⟩ := h1.acell hx1 hv1
      have hm := mv_yes g (k * 4) g (k * 4 + 2) (x.f) (x.d) n w.drew e0 (ef _) q2 (qf _) (by omega) (by omega) (by omega)
      have HM := Lib.hid hm
      have H2 := Lib.hid h2
      try dsimp only
      rw [ite_f (show ¬ x.ac.f < n from hlt)]
      clear hm h ha h1 h2 q0 q1 q2 qf
      go_enter Try.func20, Try.ntmps20
      go_wp2_with fail
      refine hf.mono ?_
      rintro e w' ⟨rfl, rfl⟩
      go_wp2_with fail
      go_region_with (go_at_call 51; refine HM.out.mono ?_; rintro e w' ⟨rfl, rfl⟩)
      all_goals
        go_wp2
        go_ret
        exact ⟨rfl, LgTo.mk H2.out rfl (by simp [Lm.ab, Ab.put, List.map_set, Am.ac]) (Turns.undrew (two_turns w.drew _ _ _ _ (foot_g hv) (foot_g hv)))⟩
set_option maxHeartbeats 1600000 in
theorem rel_any (h : Lg TP base w s) (hok : s.ab.ok) (i : Int) (n : Nat) (hn : n < 18446744073709551616) :
    Calls Try.prog 21 #[.pointer (some ⟨s.L, 0, none⟩), .int .i64 i, .int .u64 n] w fun e w' => e = .returned (.int .i64 (relM s.ab i n).2) ∧ LgTo TP base w w' s (relM s.ab i n).1 := by
  have hl := hok.len32
  unfold relM
  rcases s.cases i with ⟨ha, hi⟩ | ⟨k, x, rfl, hx, ha⟩
  · rw [ha]
    go_enter Try.func21, Try.ntmps21
    go_wp2_with fail
    refine (fnd_no h hi hl).mono ?_
    rintro e w' ⟨rfl, rfl⟩
    go_wp2
    go_ret
    exact ⟨rfl, LgTo.same h (Below.refl _ _)⟩
  · rw [ha]
    obtain ⟨g, cap, hv, hc, hg1, hg2⟩ := h.vform hx
    have hkl := (List.getElem?_eq_some_iff.1 hx).1
    have hf := fnd_yes h hx hv hl
    obtain ⟨e0, e1, e2, e3, ef⟩ := h.acell hx hv
    obtain ⟨hb1, hb2⟩ := hok.bounds hx
    by_cases hlt : x.d < n
    · have hm := mv_no g (k * 4 + 2) (some ⟨g, k * 4, none⟩) (x.d) n w.drew e2 hlt hn
      have HM := Lib.hid hm
      have H := Lib.hid h
      try dsimp only
      rw [ite_t (show x.ac.d < n from hlt)]
      clear hm h ha
      go_enter Try.func21, Try.ntmps21
      go_wp2_with fail
      refine hf.mono ?_
      rintro e w' ⟨rfl, rfl⟩
      go_wp2_with fail
      go_region_with (go_at_call 51; refine HM.out.mono ?_; rintro e w' ⟨rfl, rfl⟩)
      all_goals
        go_wp2
        go_ret
        exact ⟨rfl, LgTo.same H.out (Below.refl _ _).drew⟩
    · have h1 := h.drew.set_d hx hv (x.d - n)
      have hx1 := get_same (y := { x with d := x.d - n }) hx
      have hv1 : s.v = .slice (some ⟨g, 0, none⟩) (s.a.set k { x with d := x.d - n }).length cap := by simpa using hv
      have h2 := h1.set_f hx1 hv1 (x.f + n)
      obtain ⟨q0, q1, q2, _, qf⟩ := h1.acell hx1 hv1
      have hm := mv_yes g (k * 4 + 2) g (k * 4) (x.d) (x.f) n w.drew e2 (ef _) q0 (qf _) (by omega) (by omega) (by omega)
      have HM := Lib.hid hm
      have H2 := Lib.hid h2
      try dsimp only
      rw [ite_f (show ¬ x.ac.d < n from hlt)]
      clear hm h ha h1 h2 q0 q1 q2 qf
      go_enter Try.func21, Try.ntmps21
      go_wp2_with fail
      refine hf.mono ?_
      rintro e w' ⟨rfl, rfl⟩
      go_wp2_with fail
      go_region_with (go_at_call 51; refine HM.out.mono ?_; rintro e w' ⟨rfl, rfl⟩)
      all_goals
        go_wp2
        go_ret
        exact ⟨rfl, LgTo.mk H2.out rfl (by simp [Lm.ab, Ab.put, List.map_set, Am.ac]) (Turns.undrew (two_turns w.drew _ _ _ _ (foot_g hv) (foot_g hv)))⟩
set_option maxHeartbeats 1600000 in
theorem for_any (h : Lg TP base w s) (hok : s.ab.ok) (i : Int) (n : Nat) (hn : n < 18446744073709551616) :
    Calls Try.prog 22 #[.pointer (some ⟨s.L, 0, none⟩), .int .i64 i, .int .u64 n] w fun e w' => e = .returned (.int .i64 (forM s.ab i n).2) ∧ LgTo TP base w w' s (forM s.ab i n).1 := by
  have hl := hok.len32
  unfold forM
  rcases s.cases i with ⟨ha, hi⟩ | ⟨k, x, rfl, hx, ha⟩
  · rw [ha]
    go_enter Try.func22, Try.ntmps22
    go_wp2_with fail
    refine (fnd_no h hi hl).mono ?_
    rintro e w' ⟨rfl, rfl⟩
    go_wp2
    go_ret
    exact ⟨rfl, LgTo.same h (Below.refl _ _)⟩
  · rw [ha]
    obtain ⟨g, cap, hv, hc, hg1, hg2⟩ := h.vform hx
    have hkl := (List.getElem?_eq_some_iff.1 hx).1
    have hf := fnd_yes h hx hv hl
    obtain ⟨e0, e1, e2, e3, ef⟩ := h.acell hx hv
    obtain ⟨hb1, hb2⟩ := hok.bounds hx
    by_cases hlt : x.d < n
    · have hm := mv_no g (k * 4 + 2) (some ⟨s.L, 1, none⟩) (x.d) n w.drew e2 hlt hn
      have HM := Lib.hid hm
      have H := Lib.hid h
      try dsimp only
      rw [ite_t (show x.ac.d < n from hlt)]
      clear hm h ha
      go_enter Try.func22, Try.ntmps22
      go_wp2_with fail
      refine hf.mono ?_
      rintro e w' ⟨rfl, rfl⟩
      go_wp2_with fail
      go_region_with (go_at_call 51; refine HM.out.mono ?_; rintro e w' ⟨rfl, rfl⟩)
      all_goals
        go_wp2
        go_ret
        exact ⟨rfl, LgTo.same H.out (Below.refl _ _).drew⟩
    · have h1 := h.drew.set_d hx hv (x.d - n)
      have h2 := h1.set_t (s.t + n)
      have q := h1.ct
      have qf := h1.fz 1
      have hm := mv_yes g (k * 4 + 2) s.L 1 (x.d) (s.t) n w.drew e2 (ef _) q qf (by omega) (by omega) (by omega)
      have HM := Lib.hid hm
      have H2 := Lib.hid h2
      try dsimp only
      rw [ite_f (show ¬ x.ac.d < n from hlt)]
      clear hm h ha h1 h2 q qf
      go_enter Try.func22, Try.ntmps22
      go_wp2_with fail
      refine hf.mono ?_
      rintro e w' ⟨rfl, rfl⟩
      go_wp2_with fail
      go_region_with (go_at_call 51; refine HM.out.mono ?_; rintro e w' ⟨rfl, rfl⟩)
      all_goals
        go_wp2
        go_ret
        exact ⟨rfl, LgTo.mk H2.out rfl (by simp [Lm.ab, Ab.put, List.map_set, Am.ac]) (Turns.undrew (two_turns w.drew _ _ _ _ (foot_g hv) (foot_L s)))⟩
set_option maxHeartbeats 1600000 in
theorem pay_any (h : Lg TP base w s) (hok : s.ab.ok) (i : Int) (n : Nat) (hn : n < 18446744073709551616) :
    Calls Try.prog 23 #[.pointer (some ⟨s.L, 0, none⟩), .int .i64 i, .int .u64 n] w fun e w' => e = .returned (.int .i64 (payM s.ab i n).2) ∧ LgTo TP base w w' s (payM s.ab i n).1 := by
  have hl := hok.len32
  unfold payM
  rcases s.cases i with ⟨ha, hi⟩ | ⟨k, x, rfl, hx, ha⟩
  · rw [ha]
    go_enter Try.func23, Try.ntmps23
    go_wp2_with fail
    refine (fnd_no h hi hl).mono ?_
    rintro e w' ⟨rfl, rfl⟩
    go_wp2
    go_ret
    exact ⟨rfl, LgTo.same h (Below.refl _ _)⟩
  · rw [ha]
    obtain ⟨g, cap, hv, hc, hg1, hg2⟩ := h.vform hx
    have hkl := (List.getElem?_eq_some_iff.1 hx).1
    have hf := fnd_yes h hx hv hl
    obtain ⟨e0, e1, e2, e3, ef⟩ := h.acell hx hv
    obtain ⟨hb1, hb2⟩ := hok.bounds hx
    by_cases hlt : s.p < n
    · have hm := mv_no s.L 2 (some ⟨g, k * 4, none⟩) (s.p) n w.drew h.cp hlt hn
      have HM := Lib.hid hm
      have H := Lib.hid h
      try dsimp only
      rw [ite_t (show s.ab.p < n from hlt)]
      clear hm h ha
      go_enter Try.func23, Try.ntmps23
      go_wp2_with fail
      refine hf.mono ?_
      rintro e w' ⟨rfl, rfl⟩
      go_wp2_with fail
      go_region_with (go_at_call 51; refine HM.out.mono ?_; rintro e w' ⟨rfl, rfl⟩)
      all_goals
        go_wp2
        go_ret
        exact ⟨rfl, LgTo.same H.out (Below.refl _ _).drew⟩
    · have h1 := h.drew.set_p (s.p - n)
      have h2 := h1.set_f hx hv (x.f + n)
      obtain ⟨q0, q1, q2, _, qf⟩ := h1.acell hx hv
      have hm := mv_yes s.L 2 g (k * 4) (s.p) (x.f) n w.drew h.cp (h.fz 2) q0 (qf _) (by omega) (by omega) (by omega)
      have HM := Lib.hid hm
      have H2 := Lib.hid h2
      try dsimp only
      rw [ite_f (show ¬ s.ab.p < n from hlt)]
      clear hm h ha h1 h2 q0 q1 q2 qf
      go_enter Try.func23, Try.ntmps23
      go_wp2_with fail
      refine hf.mono ?_
      rintro e w' ⟨rfl, rfl⟩
      go_wp2_with fail
      go_region_with (go_at_call 51; refine HM.out.mono ?_; rintro e w' ⟨rfl, rfl⟩)
      all_goals
        go_wp2
        go_ret
        exact ⟨rfl, LgTo.mk H2.out rfl (by simp [Lm.ab, Ab.put, List.map_set, Am.ac]) (Turns.undrew (two_turns w.drew _ _ _ _ (foot_L s) (foot_g hv)))⟩
set_option maxHeartbeats 1600000 in
theorem keep_any (h : Lg TP base w s) (hok : s.ab.ok) (n : Nat) (hn : n < 18446744073709551616) :
    Calls Try.prog 24 #[.pointer (some ⟨s.L, 0, none⟩), .int .u64 n] w fun e w' => e = .returned (.int .i64 (keepM s.ab n).2) ∧ LgTo TP base w w' s (keepM s.ab n).1 := by
  have hl := hok.len32
  unfold keepM
  have hbt : s.t + s.p ≤ s.ab.tot := Nat.le_add_right _ _
  have hbk := hok.tot
  by_cases hlt : s.p < n
  · have hm := mv_no s.L 2 (some ⟨s.L, 1, none⟩) (s.p) n w.drew h.cp hlt hn
    have HM := Lib.hid hm
    have H := Lib.hid h
    try dsimp only
    rw [ite_t (show s.ab.p < n from hlt)]
    clear hm h 
    go_enter Try.func24, Try.ntmps24
    go_wp2_with fail
    go_region_with (go_at_call 51; refine HM.out.mono ?_; rintro e w' ⟨rfl, rfl⟩)
    all_goals
      go_wp2
      go_ret
      exact ⟨rfl, LgTo.same H.out (Below.refl _ _).drew⟩
  · have h1 := h.drew.set_p (s.p - n)
    have h2 := h1.set_t (s.t + n)
    have q := h1.ct
    have qf := h1.fz 1
    have hm := mv_yes s.L 2 s.L 1 (s.p) (s.t) n w.drew h.cp (h.fz 2) q qf (by omega) (by omega) (by omega)
    have HM := Lib.hid hm
    have H2 := Lib.hid h2
    try dsimp only
    rw [ite_f (show ¬ s.ab.p < n from hlt)]
    clear hm h  h1 h2 q qf
    go_enter Try.func24, Try.ntmps24
    go_wp2_with fail
    go_region_with (go_at_call 51; refine HM.out.mono ?_; rintro e w' ⟨rfl, rfl⟩)
    all_goals
      go_wp2
      go_ret
      exact ⟨rfl, LgTo.mk H2.out rfl (by simp [Lm.ab]) (Turns.undrew (two_turns w.drew _ _ _ _ (foot_L s) (foot_L s)))⟩
end
end Go.Proofs.Ytahleoidbnlllaa
