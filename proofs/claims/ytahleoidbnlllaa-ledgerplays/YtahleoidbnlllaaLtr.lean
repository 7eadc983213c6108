/-
  Transfer and Mint of the ledger. The conditions stand in each theorem.
-/
import Derived.Test.YtahleoidbnlllaaLnew
namespace Go.Proofs.Ytahleoidbnlllaa
open Go.RowKit
set_option linter.unusedVariables false

variable {base : Nat} {w : World} {s : Lm}
/-- What a transfer makes of the accounts. -/
theorem tr_ab {s : Lm} {k j : Nat} {x z : Am} (hx : s.a[k]? = some x) (n : Nat) (hz : (s.a.set k { x with f := x.f - n })[j]? = some z) :
    ({ s with a := (s.a.set k { x with f := x.f - n }).set j { z with f := z.f + n } } : Lm).ab = { s.ab with a := mdF (mdF s.ab.a k (· - n)) j (· + n) } := by
  have e1 : mdF s.ab.a k (· - n) = (s.a.set k { x with f := x.f - n }).map Am.ac := by
    rw [mdF_some (Lm.ab_get hx)]
    simp [Lm.ab, List.map_set, Am.ac, Ac.setF]
  have e2 : mdF ((s.a.set k { x with f := x.f - n }).map Am.ac) j (· + n) = ((s.a.set k { x with f := x.f - n }).set j { z with f := z.f + n }).map Am.ac := by
    rw [mdF_some (x := z.ac) (by rw [List.getElem?_map, hz]; rfl)]
    simp [List.map_set, Am.ac, Ac.setF]
  rw [e1, e2]
  rfl
theorem tr_bound {s : Lm} (hok : s.ab.ok) {k j : Nat} {x z : Am} (hx : s.a[k]? = some x) {n : Nat} (hn : n ≤ x.f) (hz : (s.a.set k { x with f := x.f - n })[j]? = some z) : z.f + n < 18446744073709551616 := by
  obtain ⟨hb1, hb2⟩ := hok.bounds hx
  rcases get_set hx hz with ⟨rfl, rfl⟩ | ⟨hk, hz⟩
  · show x.f - n + n < _; omega
  · have h1 := all_two (Lm.ab_get hx) (Lm.ab_get hz) (fun e => hk e.symm)
    have h2 : x.f ≤ x.ac.all := by unfold Ac.all Am.ac; dsimp only; omega
    have h3 : z.f ≤ z.ac.all := by unfold Ac.all Am.ac; dsimp only; omega
    have h4 : acT s.ab.a ≤ s.ab.tot := by unfold Ab.tot; omega
    omega
set_option maxHeartbeats 1600000 in
theorem tr_any (h : Lg TP base w s) (hok : s.ab.ok) (i j : Int) (n : Nat) (hn : n < 18446744073709551616) :
    Calls Try.prog 18 #[.pointer (some ⟨s.L, 0, none⟩), .int .i64 i, .int .i64 j, .int .u64 n] w fun e w' => e = .returned (.int .i64 (trM s.ab i j n).2) ∧ LgTo TP base w w' s (trM s.ab i j n).1 := by
  have hl := hok.len32
  unfold trM
  rcases s.cases i with ⟨ha, hi⟩ | ⟨k, x, rfl, hx, ha⟩
  · rw [ha]
    go_enter Try.func18, Try.ntmps18
    go_wp2_with fail
    refine (fnd_no h hi hl).mono ?_
    rintro e w' ⟨rfl, rfl⟩
    go_wp2
    go_ret
    exact ⟨rfl, LgTo.same h (Below.refl _ _)⟩
  · rw [ha]
    obtain ⟨g, cap, hv, hc, hg1, hg2⟩ := h.vform hx
    have hf := fnd_yes h hx hv hl
    rcases s.cases j with ⟨hb, hj⟩ | ⟨m, y, rfl, hy, hb⟩
    · rw [hb]
      have hf2 := fnd_no h hj hl
      have H := Lib.hid h
      clear h ha hb
      go_enter Try.func18, Try.ntmps18
      go_wp2_with fail
      refine hf.mono ?_
      rintro e w' ⟨rfl, rfl⟩
      go_wp2_with fail
      refine hf2.mono ?_
      rintro e w' ⟨rfl, rfl⟩
      go_wp2
      go_ret
      exact ⟨rfl, LgTo.same H.out (Below.refl _ _)⟩
    · rw [hb]
      have hf2 := fnd_yes h hy hv hl
      obtain ⟨e0, e1, e2, e3, ef⟩ := h.acell hx hv
      obtain ⟨hb1, hb2⟩ := hok.bounds hx
      by_cases hlt : x.f < n
      · have hm := mv_no g (k * 4) (some ⟨g, m * 4, none⟩) (x.f) n w.drew e0 hlt hn
        have HM := Lib.hid hm
        have H := Lib.hid h
        dsimp only
        rw [ite_t (show x.ac.f < n from hlt)]
        clear hm h ha hb
        go_enter Try.func18, Try.ntmps18
        go_wp2_with fail
        refine hf.mono ?_
        rintro e w' ⟨rfl, rfl⟩
        go_wp2_with fail
        refine hf2.mono ?_
        rintro e w' ⟨rfl, rfl⟩
        go_wp2_with fail
        go_region_with (go_at_call 51; refine HM.out.mono ?_; rintro e w' ⟨rfl, rfl⟩)
        all_goals
          go_wp2
          go_ret
          exact ⟨rfl, LgTo.same H.out (Below.refl _ _).drew⟩
      · have h1 := h.drew.set_f hx hv (x.f - n)
        have hv1 : s.v = .slice (some ⟨g, 0, none⟩) (s.a.set k { x with f := x.f - n }).length cap := by simpa using hv
        obtain ⟨z, hz⟩ : ∃ z, (s.a.set k { x with f := x.f - n })[m]? = some z := ⟨_, List.getElem?_eq_getElem (by simp; exact (List.getElem?_eq_some_iff.1 hy).1)⟩
        have h2 := h1.set_f hz hv1 (z.f + n)
        obtain ⟨q0, q1, q2, _, qf⟩ := h1.acell hz hv1
        have hm := mv_yes g (k * 4) g (m * 4) (x.f) (z.f) n w.drew e0 (ef _) q0 (qf _) (by omega) (by omega) (tr_bound hok hx (by omega) hz)
        have HM := Lib.hid hm
        have H2 := Lib.hid h2
        have HAB := Lib.hid (tr_ab hx n hz)
        dsimp only
        rw [ite_f (show ¬ x.ac.f < n from hlt)]
        clear hm h ha h1 h2 q0 q1 q2 qf hb
        go_enter Try.func18, Try.ntmps18
        go_wp2_with fail
        refine hf.mono ?_
        rintro e w' ⟨rfl, rfl⟩
        go_wp2_with fail
        refine hf2.mono ?_
        rintro e w' ⟨rfl, rfl⟩
        go_wp2_with fail
        go_region_with (go_at_call 51; refine HM.out.mono ?_; rintro e w' ⟨rfl, rfl⟩)
        all_goals
          go_wp2
          go_ret
          exact ⟨rfl, LgTo.mk H2.out rfl HAB.out (Turns.undrew (two_turns w.drew _ _ _ _ (foot_g hv) (foot_g hv)))⟩
set_option maxHeartbeats 1600000 in
theorem mint_any (h : Lg TP base w s) (hok : s.ab.ok) (n : Nat) (hn : n < 18446744073709551616) :
    Calls Try.prog 16 #[.pointer (some ⟨s.L, 0, none⟩), .int .u64 n] w fun e w' => e = .returned (.int .i64 (mintM s.ab n).2) ∧ LgTo TP base w w' s (mintM s.ab n).1 := by
  unfold mintM
  have hi := iss_any h hok
  have ht := hok.tot
  have hp : s.p ≤ s.ab.tot := by show s.p ≤ s.t + s.p + acT s.ab.a; omega
  by_cases hlt : s.ab.tot + n < 18446744073709551616
  · rw [ite_t hlt]
    have ha := fun W : World => yadd_any s.ab.tot n W ht hn
    rw [show addM s.ab.tot n = (s.ab.tot + n, 0) from if_pos hlt] at ha
    have H := Lib.hid h
    have hw : IntKind.u64.wrap ((s.p : Int) + (n : Int)) = ((s.p + n : Nat) : Int) := by rw [IntKind.wrap_u64]; omega
    clear h
    go_enter Try.func16, Try.ntmps16
    go_wp2_with fail
    refine hi.mono ?_
    rintro e w1 ⟨rfl, hb⟩
    go_wp2_with fail
    refine (ha w1).mono ?_
    rintro e w' ⟨rfl, rfl⟩
    have h1 := H.out.below hb
    have cp := h1.cp
    have fp := h1.fz 2
    have h2 := h1.set_p (s.p + n)
    have H2 := Lib.hid h2
    clear h1 h2
    go_wp2
    go_ret
    refine ⟨rfl, ?_⟩
    first
      | exact LgTo.mk H2.out rfl rfl ((Turns.of_below (F := s.foot) hb).trans (Turns.setCell (F := s.foot) _ _ _ (foot_L s)) (fun _ => .inl))
      | (push_cast at H2; exact LgTo.mk H2.out rfl rfl ((Turns.of_below (F := s.foot) hb).trans (Turns.setCell (F := s.foot) _ _ _ (foot_L s)) (fun _ => .inl)))
  · rw [ite_f hlt]
    have ha := fun W : World => yadd_any s.ab.tot n W ht hn
    rw [show addM s.ab.tot n = (0, 3) from if_neg hlt] at ha
    have H := Lib.hid h
    clear h
    go_enter Try.func16, Try.ntmps16
    go_wp2_with fail
    refine hi.mono ?_
    rintro e w1 ⟨rfl, hb⟩
    go_wp2_with fail
    refine (ha w1).mono ?_
    rintro e w' ⟨rfl, rfl⟩
    go_wp2
    go_ret
    exact ⟨rfl, LgTo.same H.out hb⟩
end Go.Proofs.Ytahleoidbnlllaa
