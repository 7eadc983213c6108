/-
  Bond, Deposit, Release, Forfeit, Pay, Keep of the reference's ledger. The conditions stand in each theorem.
-/
import Derived.Test.YtahleoidbnlllaaLsix
namespace Go.Proofs.Ytahleoidbnlllaa
open Go.RowKit
set_option linter.unusedVariables false
section
variable {base : Nat} {w : World} {s : Lm}
set_option maxHeartbeats 1600000 in
theorem rbond_any (h : Lg TR base w s) (hok : s.ab.ok) (i : Int) (n : Nat) (hn : n < 18446744073709551616) :
    Calls Try.prog 33 #[.pointer (some ⟨s.L, 0, none⟩), .int .i64 i, .int .u64 n] w fun e w' => e = .returned (.int .i64 (bondM s.ab i n).2) ∧ LgTo TR base w w' s (bondM s.ab i n).1 := by
  have hl := hok.len32
  unfold bondM
  rcases s.cases i with ⟨ha, hi⟩ | ⟨k, x, rfl, hx, ha⟩
  · rw [ha]
    go_enter Try.func33, Try.ntmps33
    go_wp2_with fail
    refine (thr_no h hi hl).mono ?_
    rintro e w' ⟨rfl, rfl⟩
    go_wp2
    go_ret
    exact ⟨rfl, LgTo.same h (Below.refl _ _)⟩
  · rw [ha]
    obtain ⟨g, cap, hv, hc, hg1, hg2⟩ := h.vform hx
    have hkl := (List.getElem?_eq_some_iff.1 hx).1
    have hf := thr_yes h hkl hl
    have c0 := h.cv
    rw [hv] at c0
    have hk0 : (0 : Int) ≤ (k : Int) := by omega
    have hk1 : (k : Int) < (s.a.length : Int) := by omega
    obtain ⟨e0, e1, e2, e3, ef⟩ := h.acell hx hv
    obtain ⟨hb1, hb2⟩ := hok.bounds hx
    by_cases hlt : x.f < n
    · have hm := rmv_no g (k * 4) (some ⟨g, k * 4 + 1, none⟩) (x.f) n w.drew e0 hlt hn
      have HM := Lib.hid hm
      have H := Lib.hid h
      try dsimp only
      rw [ite_t (show x.ac.f < n from hlt)]
      clear hm h ha
      go_enter Try.func33, Try.ntmps33
      go_wp2_with fail
      refine hf.mono ?_
      rintro e w' ⟨rfl, rfl⟩
      go_wp2_with fail
      go_region_with (go_at_call 58; refine HM.out.mono ?_; rintro e w' ⟨rfl, rfl⟩)
      all_goals
        go_wp2
        go_ret
        exact ⟨rfl, LgTo.same H.out (Below.refl _ _).drew⟩
    · have h1 := h.drew.set_f hx hv (x.f - n)
      have hx1 := get_same (y := { x with f := x.f - n }) hx
      have hv1 : s.v = .slice (some ⟨g, 0, none⟩) (s.a.set k { x with f := x.f - n }).length cap := by simpa using hv
      have h2 := h1.set_b hx1 hv1 (x.b + n)
      obtain ⟨q0, q1, q2, _, qf⟩ := h1.acell hx1 hv1
      have hm := rmv_yes g (k * 4) g (k * 4 + 1) (x.f) (x.b) n w.drew e0 (ef _) q1 (qf _) (by omega) (by omega) (by omega)
      have HM := Lib.hid hm
      have H2 := Lib.hid h2
      try dsimp only
      rw [ite_f (show ¬ x.ac.f < n from hlt)]
      clear hm h ha h1 h2 q0 q1 q2 qf
      go_enter Try.func33, Try.ntmps33
      go_wp2_with fail
      refine hf.mono ?_
      rintro e w' ⟨rfl, rfl⟩
      go_wp2_with fail
      go_region_with (go_at_call 58; refine HM.out.mono ?_; rintro e w' ⟨rfl, rfl⟩)
      all_goals
        go_wp2
        go_ret
        exact ⟨rfl, LgTo.mk H2.out rfl (by simp [Lm.ab, Ab.put, List.map_set, Am.ac]) (Turns.undrew (two_turns w.drew _ _ _ _ (foot_g hv) (foot_g hv)))⟩
set_option maxHeartbeats 1600000 in
theorem rdep_any (h : Lg TR base w s) (hok : s.ab.ok) (i : Int) (n : Nat) (hn : n < 18446744073709551616) :
    Calls Try.prog 36 #[.pointer (some ⟨s.L, 0, none⟩), .int .i64 i, .int .u64 n] w fun e w' => e = .returned (.int .i64 (depM s.ab i n).2) ∧ LgTo TR base w w' s (depM s.ab i n).1 := by
  have hl := hok.len32
  unfold depM
  rcases s.cases i with ⟨ha, hi⟩ | ⟨k, x, rfl, hx, ha⟩
  · rw [ha]
    go_enter Try.func36, Try.ntmps36
    go_wp2_with fail
    refine (thr_no h hi hl).mono ?_
    rintro e w' ⟨rfl, rfl⟩
    go_wp2
    go_ret
    exact ⟨rfl, LgTo.same h (Below.refl _ _)⟩
  · rw [ha]
    obtain ⟨g, cap, hv, hc, hg1, hg2⟩ := h.vform hx
    have hkl := (List.getElem?_eq_some_iff.1 hx).1
    have hf := thr_yes h hkl hl
    have c0 := h.cv
    rw [hv] at c0
    have hk0 : (0 : Int) ≤ (k : Int) := by omega
    have hk1 : (k : Int) < (s.a.length : Int) := by omega
    obtain ⟨e0, e1, e2, e3, ef⟩ := h.acell hx hv
    obtain ⟨hb1, hb2⟩ := hok.bounds hx
    by_cases hlt : x.f < n
    · have hm := rmv_no g (k * 4) (some ⟨g, k * 4 + 2, none⟩) (x.f) n w.drew e0 hlt hn
      have HM := Lib.hid hm
      have H := Lib.hid h
      try dsimp only
      rw [ite_t (show x.ac.f < n from hlt)]
      clear hm h ha
      go_enter Try.func36, Try.ntmps36
      go_wp2_with fail
      refine hf.mono ?_
      rintro e w' ⟨rfl, rfl⟩
      go_wp2_with fail
      go_region_with (go_at_call 58; refine HM.out.mono ?_; rintro e w' ⟨rfl, rfl⟩)
      all_goals
        go_wp2
        go_ret
        exact ⟨rfl, LgTo.same H.out (Below.refl _ _).drew⟩
    · have h1 := h.drew.set_f hx hv (x.f - n)
      have hx1 := get_same (y := { x with f := x.f - n }) hx
      have hv1 : s.v = .slice (some ⟨g, 0, none⟩) (s.a.set k { x with f := x.f - n }).length cap := by simpa using hv
      have h2 := h1.set_d hx1 hv1 (x.d + n)
      obtain ⟨q0, q1, q2, _, qf⟩ := h1.acell hx1 hv1
      have hm := rmv_yes g (k * 4) g (k * 4 + 2) (x.f) (x.d) n w.drew e0 (ef _) q2 (qf _) (by omega) (by omega) (by omega)
      have HM := Lib.hid hm
      have H2 := Lib.hid h2
      try dsimp only
      rw [ite_f (show ¬ x.ac.f < n from hlt)]
      clear hm h ha h1 h2 q0 q1 q2 qf
      go_enter Try.func36, Try.ntmps36
      go_wp2_with fail
      refine hf.mono ?_
      rintro e w' ⟨rfl, rfl⟩
      go_wp2_with fail
      go_region_with (go_at_call 58; refine HM.out.mono ?_; rintro e w' ⟨rfl, rfl⟩)
      all_goals
        go_wp2
        go_ret
        exact ⟨rfl, LgTo.mk H2.out rfl (by simp [Lm.ab, Ab.put, List.map_set, Am.ac]) (Turns.undrew (two_turns w.drew _ _ _ _ (foot_g hv) (foot_g hv)))⟩
set_option maxHeartbeats 1600000 in
theorem rrel_any (h : Lg TR base w s) (hok : s.ab.ok) (i : Int) (n : Nat) (hn : n < 18446744073709551616) :
    Calls Try.prog 37 #[.pointer (some ⟨s.L, 0, none⟩), .int .i64 i, .int .u64 n] w fun e w' => e = .returned (.int .i64 (relM s.ab i n).2) ∧ LgTo TR base w w' s (relM s.ab i n).1 := by
  have hl := hok.len32
  unfold relM
  rcases s.cases i with ⟨ha, hi⟩ | ⟨k, x, rfl, hx, ha⟩
  · rw [ha]
    go_enter Try.func37, Try.ntmps37
    go_wp2_with fail
    refine (thr_no h hi hl).mono ?_
    rintro e w' ⟨rfl, rfl⟩
    go_wp2
    go_ret
    exact ⟨rfl, LgTo.same h (Below.refl _ _)⟩
  · rw [ha]
    obtain ⟨g, cap, hv, hc, hg1, hg2⟩ := h.vform hx
    have hkl := (List.getElem?_eq_some_iff.1 hx).1
    have hf := thr_yes h hkl hl
    have c0 := h.cv
    rw [hv] at c0
    have hk0 : (0 : Int) ≤ (k : Int) := by omega
    have hk1 : (k : Int) < (s.a.length : Int) := by omega
    obtain ⟨e0, e1, e2, e3, ef⟩ := h.acell hx hv
    obtain ⟨hb1, hb2⟩ := hok.bounds hx
    by_cases hlt : x.d < n
    · have hm := rmv_no g (k * 4 + 2) (some ⟨g, k * 4, none⟩) (x.d) n w.drew e2 hlt hn
      have HM := Lib.hid hm
      have H := Lib.hid h
      try dsimp only
      rw [ite_t (show x.ac.d < n from hlt)]
      clear hm h ha
      go_enter Try.func37, Try.ntmps37
      go_wp2_with fail
      refine hf.mono ?_
      rintro e w' ⟨rfl, rfl⟩
      go_wp2_with fail
      go_region_with (go_at_call 58; refine HM.out.mono ?_; rintro e w' ⟨rfl, rfl⟩)
      all_goals
        go_wp2
        go_ret
        exact ⟨rfl, LgTo.same H.out (Below.refl _ _).drew⟩
    · have h1 := h.drew.set_d hx hv (x.d - n)
      have hx1 := get_same (y := { x with d := x.d - n }) hx
      have hv1 : s.v = .slice (some ⟨g, 0, none⟩) (s.a.set k { x with d := x.d - n }).length cap := by simpa using hv
      have h2 := h1.set_f hx1 hv1 (x.f + n)
      obtain ⟨q0, q1, q2, _, qf⟩ := h1.acell hx1 hv1
      have hm := rmv_yes g (k * 4 + 2) g (k * 4) (x.d) (x.f) n w.drew e2 (ef _) q0 (qf _) (by omega) (by omega) (by omega)
      have HM := Lib.hid hm
      have H2 := Lib.hid h2
      try dsimp only
      rw [ite_f (show ¬ x.ac.d < n from hlt)]
      clear hm h ha h1 h2 q0 q1 q2 qf
      go_enter Try.func37, Try.ntmps37
      go_wp2_with fail
      refine hf.mono ?_
      rintro e w' ⟨rfl, rfl⟩
      go_wp2_with fail
      go_region_with (go_at_call 58; refine HM.out.mono ?_; rintro e w' ⟨rfl, rfl⟩)
      all_goals
        go_wp2
        go_ret
        exact ⟨rfl, LgTo.mk H2.out rfl (by simp [Lm.ab, Ab.put, List.map_set, Am.ac]) (Turns.undrew (two_turns w.drew _ _ _ _ (foot_g hv) (foot_g hv)))⟩
set_option maxHeartbeats 1600000 in
theorem rfor_any (h : Lg TR base w s) (hok : s.ab.ok) (i : Int) (n : Nat) (hn : n < 18446744073709551616) :
    Calls Try.prog 38 #[.pointer (some ⟨s.L, 0, none⟩), .int .i64 i, .int .u64 n] w fun e w' => e = .returned (.int .i64 (forM s.ab i n).2) ∧ LgTo TR base w w' s (forM s.ab i n).1 := by
  have hl := hok.len32
  unfold forM
  rcases s.cases i with ⟨ha, hi⟩ | ⟨k, x, rfl, hx, ha⟩
  · rw [ha]
    go_enter Try.func38, Try.ntmps38
    go_wp2_with fail
    refine (thr_no h hi hl).mono ?_
    rintro e w' ⟨rfl, rfl⟩
    go_wp2
    go_ret
    exact ⟨rfl, LgTo.same h (Below.refl _ _)⟩
  · rw [ha]
    obtain ⟨g, cap, hv, hc, hg1, hg2⟩ := h.vform hx
    have hkl := (List.getElem?_eq_some_iff.1 hx).1
    have hf := thr_yes h hkl hl
    have c0 := h.cv
    rw [hv] at c0
    have hk0 : (0 : Int) ≤ (k : Int) := by omega
    have hk1 : (k : Int) < (s.a.length : Int) := by omega
    obtain ⟨e0, e1, e2, e3, ef⟩ := h.acell hx hv
    obtain ⟨hb1, hb2⟩ := hok.bounds hx
    by_cases hlt : x.d < n
    · have hm := rmv_no g (k * 4 + 2) (some ⟨s.L, 1, none⟩) (x.d) n w.drew e2 hlt hn
      have HM := Lib.hid hm
      have H := Lib.hid h
      try dsimp only
      rw [ite_t (show x.ac.d < n from hlt)]
      clear hm h ha
      go_enter Try.func38, Try.ntmps38
      go_wp2_with fail
      refine hf.mono ?_
      rintro e w' ⟨rfl, rfl⟩
      go_wp2_with fail
      go_region_with (go_at_call 58; refine HM.out.mono ?_; rintro e w' ⟨rfl, rfl⟩)
      all_goals
        go_wp2
        go_ret
        exact ⟨rfl, LgTo.same H.out (Below.refl _ _).drew⟩
    · have h1 := h.drew.set_d hx hv (x.d - n)
      have h2 := h1.set_t (s.t + n)
      have q := h1.ct
      have qf := h1.fz 1
      have hm := rmv_yes g (k * 4 + 2) s.L 1 (x.d) (s.t) n w.drew e2 (ef _) q qf (by omega) (by omega) (by omega)
      have HM := Lib.hid hm
      have H2 := Lib.hid h2
      try dsimp only
      rw [ite_f (show ¬ x.ac.d < n from hlt)]
      clear hm h ha h1 h2 q qf
      go_enter Try.func38, Try.ntmps38
      go_wp2_with fail
      refine hf.mono ?_
      rintro e w' ⟨rfl, rfl⟩
      go_wp2_with fail
      go_region_with (go_at_call 58; refine HM.out.mono ?_; rintro e w' ⟨rfl, rfl⟩)
      all_goals
        go_wp2
        go_ret
        exact ⟨rfl, LgTo.mk H2.out rfl (by simp [Lm.ab, Ab.put, List.map_set, Am.ac]) (Turns.undrew (two_turns w.drew _ _ _ _ (foot_g hv) (foot_L s)))⟩
set_option maxHeartbeats 1600000 in
theorem rpay_any (h : Lg TR base w s) (hok : s.ab.ok) (i : Int) (n : Nat) (hn : n < 18446744073709551616) :
    Calls Try.prog 40 #[.pointer (some ⟨s.L, 0, none⟩), .int .i64 i, .int .u64 n] w fun e w' => e = .returned (.int .i64 (payM s.ab i n).2) ∧ LgTo TR base w w' s (payM s.ab i n).1 := by
  have hl := hok.len32
  unfold payM
  rcases s.cases i with ⟨ha, hi⟩ | ⟨k, x, rfl, hx, ha⟩
  · rw [ha]
    go_enter Try.func40, Try.ntmps40
    go_wp2_with fail
    refine (thr_no h hi hl).mono ?_
    rintro e w' ⟨rfl, rfl⟩
    go_wp2
    go_ret
    exact ⟨rfl, LgTo.same h (Below.refl _ _)⟩
  · rw [ha]
    obtain ⟨g, cap, hv, hc, hg1, hg2⟩ := h.vform hx
    have hkl := (List.getElem?_eq_some_iff.1 hx).1
    have hf := thr_yes h hkl hl
    have c0 := h.cv
    rw [hv] at c0
    have hk0 : (0 : Int) ≤ (k : Int) := by omega
    have hk1 : (k : Int) < (s.a.length : Int) := by omega
    obtain ⟨e0, e1, e2, e3, ef⟩ := h.acell hx hv
    obtain ⟨hb1, hb2⟩ := hok.bounds hx
    by_cases hlt : s.p < n
    · have hm := rmv_no s.L 2 (some ⟨g, k * 4, none⟩) (s.p) n w.drew h.cp hlt hn
      have HM := Lib.hid hm
      have H := Lib.hid h
      try dsimp only
      rw [ite_t (show s.ab.p < n from hlt)]
      clear hm h ha
      go_enter Try.func40, Try.ntmps40
      go_wp2_with fail
      refine hf.mono ?_
      rintro e w' ⟨rfl, rfl⟩
      go_wp2_with fail
      go_region_with (go_at_call 58; refine HM.out.mono ?_; rintro e w' ⟨rfl, rfl⟩)
      all_goals
        go_wp2
        go_ret
        exact ⟨rfl, LgTo.same H.out (Below.refl _ _).drew⟩
    · have h1 := h.drew.set_p (s.p - n)
      have h2 := h1.set_f hx hv (x.f + n)
      obtain ⟨q0, q1, q2, _, qf⟩ := h1.acell hx hv
      have hm := rmv_yes s.L 2 g (k * 4) (s.p) (x.f) n w.drew h.cp (h.fz 2) q0 (qf _) (by omega) (by omega) (by omega)
      have HM := Lib.hid hm
      have H2 := Lib.hid h2
      try dsimp only
      rw [ite_f (show ¬ s.ab.p < n from hlt)]
      clear hm h ha h1 h2 q0 q1 q2 qf
      go_enter Try.func40, Try.ntmps40
      go_wp2_with fail
      refine hf.mono ?_
      rintro e w' ⟨rfl, rfl⟩
      go_wp2_with fail
      go_region_with (go_at_call 58; refine HM.out.mono ?_; rintro e w' ⟨rfl, rfl⟩)
      all_goals
        go_wp2
        go_ret
        exact ⟨rfl, LgTo.mk H2.out rfl (by simp [Lm.ab, Ab.put, List.map_set, Am.ac]) (Turns.undrew (two_turns w.drew _ _ _ _ (foot_L s) (foot_g hv)))⟩
set_option maxHeartbeats 1600000 in
theorem rkeep_any (h : Lg TR base w s) (hok : s.ab.ok) (n : Nat) (hn : n < 18446744073709551616) :
    Calls Try.prog 41 #[.pointer (some ⟨s.L, 0, none⟩), .int .u64 n] w fun e w' => e = .returned (.int .i64 (keepM s.ab n).2) ∧ LgTo TR base w w' s (keepM s.ab n).1 := by
  have hl := hok.len32
  unfold keepM
  have hbt : s.t + s.p ≤ s.ab.tot := Nat.le_add_right _ _
  have hbk := hok.tot
  by_cases hlt : s.p < n
  · have hm := rmv_no s.L 2 (some ⟨s.L, 1, none⟩) (s.p) n w.drew h.cp hlt hn
    have HM := Lib.hid hm
    have H := Lib.hid h
    try dsimp only
    rw [ite_t (show s.ab.p < n from hlt)]
    clear hm h 
    go_enter Try.func41, Try.ntmps41
    go_wp2_with fail
    go_region_with (go_at_call 58; refine HM.out.mono ?_; rintro e w' ⟨rfl, rfl⟩)
    all_goals
      go_wp2
      go_ret
      exact ⟨rfl, LgTo.same H.out (Below.refl _ _).drew⟩
  · have h1 := h.drew.set_p (s.p - n)
    have h2 := h1.set_t (s.t + n)
    have q := h1.ct
    have qf := h1.fz 1
    have hm := rmv_yes s.L 2 s.L 1 (s.p) (s.t) n w.drew h.cp (h.fz 2) q qf (by omega) (by omega) (by omega)
    have HM := Lib.hid hm
    have H2 := Lib.hid h2
    try dsimp only
    rw [ite_f (show ¬ s.ab.p < n from hlt)]
    clear hm h  h1 h2 q qf
    go_enter Try.func41, Try.ntmps41
    go_wp2_with fail
    go_region_with (go_at_call 58; refine HM.out.mono ?_; rintro e w' ⟨rfl, rfl⟩)
    all_goals
      go_wp2
      go_ret
      exact ⟨rfl, LgTo.mk H2.out rfl (by simp [Lm.ab]) (Turns.undrew (two_turns w.drew _ _ _ _ (foot_L s) (foot_L s)))⟩
end
end Go.Proofs.Ytahleoidbnlllaa
