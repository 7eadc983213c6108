/-
  Transfer, Issuance and Mint of the reference's ledger. The conditions stand in each theorem.
-/
import Derived.Test.YtahleoidbnlllaaLtr
import Derived.Deep.RegionHeld3
import Derived.BigQuiet
import Derived.Deep.LoopGhost
namespace Go.Proofs.Ytahleoidbnlllaa
open Go.RowKit
set_option linter.unusedVariables false

variable {base : Nat} {w : World} {s : Lm}
set_option maxHeartbeats 3200000 in
theorem rtr_any (h : Lg TR base w s) (hok : s.ab.ok) (i j : Int) (n : Nat) (hn : n < 18446744073709551616) :
    Calls Try.prog 32 #[.pointer (some ⟨s.L, 0, none⟩), .int .i64 i, .int .i64 j, .int .u64 n] w fun e w' => e = .returned (.int .i64 (trM s.ab i j n).2) ∧ LgTo TR base w w' s (trM s.ab i j n).1 := by
  have hl := hok.len32
  unfold trM
  rcases s.cases i with ⟨ha, hi⟩ | ⟨k, x, rfl, hx, ha⟩
  · rw [ha]
    go_enter Try.func32, Try.ntmps32
    go_wp2_with fail
    refine (thr_no h hi hl).mono ?_
    rintro e w' ⟨rfl, rfl⟩
    go_wp2
    go_ret
    exact ⟨rfl, LgTo.same h (Below.refl _ _)⟩
  · rw [ha]
    obtain ⟨g, cap, hv, hc, hg1, hg2⟩ := h.vform hx
    have hkl := (List.getElem?_eq_some_iff.1 hx).1
    have hf := thr_yes h hkl hl
    rcases s.cases j with ⟨hb, hj⟩ | ⟨m, y, rfl, hy, hb⟩
    · rw [hb]
      have hf2 := thr_no h hj hl
      have H := Lib.hid h
      clear h ha hb
      go_enter Try.func32, Try.ntmps32
      go_wp2_with fail
      refine hf.mono ?_
      rintro e w' ⟨rfl, rfl⟩
      go_wp2_with fail
      refine hf2.mono ?_
      rintro e w' ⟨rfl, rfl⟩
      go_wp2
      go_ret
      exact ⟨rfl, LgTo.same H.out (Below.refl _ _)⟩
    · rw [hb]
      have hml := (List.getElem?_eq_some_iff.1 hy).1
      have hf2 := thr_yes h hml hl
      have c0 := h.cv
      rw [hv] at c0
      have hk0 : (0 : Int) ≤ (k : Int) := by omega
      have hk1 : (k : Int) < (s.a.length : Int) := by omega
      have hm0 : (0 : Int) ≤ (m : Int) := by omega
      have hm1 : (m : Int) < (s.a.length : Int) := by omega
      obtain ⟨e0, e1, e2, e3, ef⟩ := h.acell hx hv
      obtain ⟨hb1, hb2⟩ := hok.bounds hx
      by_cases hlt : x.f < n
      · have hm := rmv_no g (k * 4) (some ⟨g, m * 4, none⟩) (x.f) n w.drew e0 hlt hn
        have HM := Lib.hid hm
        have H := Lib.hid h
        dsimp only
        rw [ite_t (show x.ac.f < n from hlt)]
        clear hm h ha hb
        go_enter Try.func32, Try.ntmps32
        go_wp2_with fail
        refine hf.mono ?_
        rintro e w' ⟨rfl, rfl⟩
        go_wp2_with fail
        refine hf2.mono ?_
        rintro e w' ⟨rfl, rfl⟩
        go_wp2_with fail
        go_region_held3 (fun W => W.cell? ⟨s.L, 0, none⟩ = some (.slice (some ⟨g, 0, none⟩) s.a.length cap))
          (first | exact c0)
          (first | (go_at_call 58; refine HM.out.mono ?_; rintro e w' ⟨rfl, rfl⟩))
        all_goals
          go_wp2
          go_ret
          exact ⟨rfl, LgTo.same H.out (Below.refl _ _).drew⟩
      · have h1 := h.drew.set_f hx hv (x.f - n)
        have hv1 : s.v = .slice (some ⟨g, 0, none⟩) (s.a.set k { x with f := x.f - n }).length cap := by simpa using hv
        obtain ⟨z, hz⟩ : ∃ z, (s.a.set k { x with f := x.f - n })[m]? = some z := ⟨_, List.getElem?_eq_getElem (by simp; exact hml)⟩
        have h2 := h1.set_f hz hv1 (z.f + n)
        obtain ⟨q0, q1, q2, _, qf⟩ := h1.acell hz hv1
        have hm := rmv_yes g (k * 4) g (m * 4) (x.f) (z.f) n w.drew e0 (ef _) q0 (qf _) (by omega) (by omega) (tr_bound hok hx (by omega) hz)
        have K1 := h2.cv
        dsimp only at K1
        rw [hv] at K1
        have HM := Lib.hid hm
        have H2 := Lib.hid h2
        have HAB := Lib.hid (tr_ab hx n hz)
        dsimp only
        rw [ite_f (show ¬ x.ac.f < n from hlt)]
        clear hm h ha h1 h2 q0 q1 q2 qf hb
        have HK1 := Lib.hid K1
        clear K1
        go_enter Try.func32, Try.ntmps32
        go_wp2_with fail
        refine hf.mono ?_
        rintro e w' ⟨rfl, rfl⟩
        go_wp2_with fail
        refine hf2.mono ?_
        rintro e w' ⟨rfl, rfl⟩
        go_wp2_with fail
        go_region_held3 (fun W => W.cell? ⟨s.L, 0, none⟩ = some (.slice (some ⟨g, 0, none⟩) s.a.length cap))
          (first | exact c0 | exact HK1.out)
          (first | (go_at_call 58; refine HM.out.mono ?_; rintro e w' ⟨rfl, rfl⟩))
        all_goals
          go_wp2
          go_ret
          exact ⟨rfl, LgTo.mk H2.out rfl HAB.out (Turns.undrew (two_turns w.drew _ _ _ _ (foot_g hv) (foot_g hv)))⟩
theorem belowDrN {B : Nat} {a w : World} (h : Below B a w) (q : Nat) : Below B a (w.drewN q) := ⟨h.os, h.tape, h.output, h.size, h.block⟩
set_option maxRecDepth 100000 in
set_option maxHeartbeats 3200000 in
theorem riss_any (h : Lg TR base w s) (hok : s.ab.ok) :
    Calls Try.prog 43 #[.pointer (some ⟨s.L, 0, none⟩)] w fun e w' => e = .returned (.int .u64 (s.ab.tot : Nat)) ∧ ∃ q, w' = w.drewN q := by
  have hl := hok.len32
  obtain ⟨A, cap, hv, hc⟩ := h.vany
  have c0 := h.cv
  rw [hv] at c0
  have ct := h.ct
  have cp := h.cp
  have hbk := hok.tot
  have htt : s.ab.tot = s.t + s.p + acT s.ab.a := rfl
  have hw0 : IntKind.u64.wrap ((s.t : Int) + (s.p : Int)) = ((s.t + s.p : Nat) : Int) := by rw [IntKind.wrap_u64]; omega
  have H := Lib.hid h
  have HV := Lib.hid hv
  have HT := Lib.hid htt
  have HK := Lib.hid hok
  clear h hv htt hok
  obtain ⟨N, hN⟩ : ∃ N, N = s.a.length := ⟨_, rfl⟩
  have HN := Lib.hid hN
  rw [← hN] at hl c0 hc
  clear hN
  go_enter Try.func43, Try.ntmps43
  go_wp2_with fail
  go_quiet (fail)
  go_wp2_with fail
  go_loopg [3, 20] N (fun gk sv tv wr => ∃ k S t : Nat, k + gk = N ∧ S = s.t + s.p + acT (s.ab.a.take k) ∧ sv = .int .u64 (S : Int) ∧ tv = .int .i64 (k : Int) ∧ wr = w.drewN t)
  case atStart => exact ⟨0, s.t + s.p, _, by omega, by simp [acT, tot], by go_num, rfl, rfl⟩
  case round =>
    obtain ⟨k, S, t, hk, hS, rfl, rfl, rfl⟩ := hrel
    have hSl : S < 18446744073709551616 := by have := acT_take_le s.ab.a k; have := HT.out; omega
    have HS := Lib.hid hS
    clear hS
    by_cases hlt : k < N
    · obtain ⟨x, hx⟩ : ∃ x, s.a[k]? = some x := ⟨_, List.getElem?_eq_getElem (by rw [← HN.out]; exact hlt)⟩
      obtain ⟨g, cap', hv', hc', hg1, hg2⟩ := H.out.vform hx
      obtain ⟨e0, e1, e2, e3, ef⟩ := H.out.acell hx hv'
      have hA : A = some ⟨g, 0, none⟩ := by have := HV.out.symm.trans hv'; injection this
      subst hA
      have hch := H.out.chs k x (fun e => e) hx
      have hx8 : x.ch.length ≤ 8 := (ac_ch HK.out (Lm.ab_ac hx)).len
      obtain ⟨A', c', hxv, hsc⟩ := own_sc hch (by omega)
      rw [hxv] at e3
      have hT := acT_take_succ (Lm.ab_get hx)
      have hall : x.ac.all = x.f + x.b + x.d + cht x.ch := rfl
      have hsum : S + (x.f + x.b + x.d + cht x.ch) < 18446744073709551616 := by have := acT_take_le s.ab.a (k + 1); have := HS.out; have := HT.out; omega
      have HTT := Lib.hid hT
      have HALL := Lib.hid hall
      have HSC := Lib.hid hsc
      obtain ⟨M, hM⟩ : ∃ M, M = x.ch.length := ⟨_, rfl⟩
      have HM := Lib.hid hM
      have hcM := hsc.2.1
      rw [← hM] at e3 hx8 hcM
      have hk1 : (k : Int) < (N : Int) := by omega
      have q1 : IntKind.u64.wrap ((S : Int) + (x.f : Int)) = (S : Int) + (x.f : Int) := by rw [IntKind.wrap_u64]; omega
      have q2 : IntKind.u64.wrap ((S : Int) + (x.f : Int) + (x.b : Int)) = (S : Int) + (x.f : Int) + (x.b : Int) := by rw [IntKind.wrap_u64]; omega
      have q3 : IntKind.u64.wrap ((S : Int) + (x.f : Int) + (x.b : Int) + (x.d : Int)) = ((S + x.f + x.b + x.d : Nat) : Int) := by rw [IntKind.wrap_u64]; omega
      clear hch hsc hT hall hx ef hv' hxv hM
      go_wp2_with fail
      go_quiet (fail)
      go_wp2_with fail
      go_loopg [3, 60] M (fun gj sv tv wr => ∃ j X t : Nat, j + gj = M ∧ X = S + x.f + x.b + x.d + cht (x.ch.take j) ∧ sv = .int .u64 (X : Int) ∧ tv = .int .i64 (j : Int) ∧ wr = w.drewN t)
      case atStart => exact ⟨0, S + x.f + x.b + x.d, _, by omega, by simp [cht, tot], by go_num, rfl, rfl⟩
      case round =>
        obtain ⟨j, X, t2, hj, hX, rfl, rfl, rfl⟩ := hrel
        have hXl : X < 18446744073709551616 := by have := cht_take_le x.ch j; omega
        have HX := Lib.hid hX
        clear hX
        by_cases hlt3 : j < M
        · obtain ⟨_, _, _, h4⟩ := HSC.out
          obtain ⟨gc, o, hAe, hg, hcc⟩ := h4 (by rw [← HM.out]; omega)
          subst hAe
          obtain ⟨y, hy⟩ : ∃ y, x.ch[j]? = some y := ⟨_, List.getElem?_eq_getElem (by rw [← HM.out]; exact hlt3)⟩
          obtain ⟨d0, d1⟩ := hcc j y hy
          have hT := cht_take_succ hy
          have hsum2 : X + y.1 < 18446744073709551616 := by have := cht_take_le x.ch (j + 1); have := HX.out; omega
          have HT2 := Lib.hid hT
          clear hT hcc hy h4
          obtain ⟨x1, x2⟩ := y
          dsimp only at d0 d1 hsum2 HT2
          have hj1 : (j : Int) < (M : Int) := by omega
          have hw : IntKind.u64.wrap ((X : Int) + (x1 : Int)) = ((X + x1 : Nat) : Int) := by rw [IntKind.wrap_u64]; omega
          go_wp2_with fail
          try go_quiet (fail)
          go_wp2_with fail
          go_roundg (M - (j + 1))
          case measure => omega
          case rel => exact ⟨j + 1, X + x1, _, by omega, by rw [HT2.out, HX.out]; omega, by go_num, by go_num, rfl⟩
        · have hlt3' : ¬ ((j : Int) < (M : Int)) := by omega
          have hXe : X = S + (x.f + x.b + x.d + cht x.ch) := by rw [HX.out, List.take_of_length_le (by rw [← HM.out]; omega)]; omega
          have HXE := Lib.hid hXe
          clear HX hXe
          go_wp2_with fail
          go_roundg (N - (k + 1))
          case measure => omega
          case rel => exact ⟨k + 1, X, _, by omega, by rw [HTT.out, HALL.out, HXE.out, HS.out]; omega, rfl, by go_num, rfl⟩
    · have hlt' : ¬ ((k : Int) < (N : Int)) := by omega
      have : S = s.ab.tot := by
        rw [HS.out, HT.out, List.take_of_length_le (by rw [s.ab_len, ← HN.out]; omega)]
      subst this
      go_wp2
      go_ret
      exact ⟨rfl, _, rfl⟩
set_option maxHeartbeats 1600000 in
theorem rmint_any (h : Lg TR base w s) (hok : s.ab.ok) (n : Nat) (hn : n < 18446744073709551616) :
    Calls Try.prog 39 #[.pointer (some ⟨s.L, 0, none⟩), .int .u64 n] w fun e w' => e = .returned (.int .i64 (mintM s.ab n).2) ∧ LgTo TR base w w' s (mintM s.ab n).1 := by
  unfold mintM
  have hi := riss_any h hok
  have ht := hok.tot
  have hp : s.p ≤ s.ab.tot := by show s.p ≤ s.t + s.p + acT s.ab.a; omega
  by_cases hlt : s.ab.tot + n < 18446744073709551616
  · rw [ite_t hlt]
    have ha := fun W : World => xadd_any s.ab.tot n W ht hn
    rw [show addM s.ab.tot n = (s.ab.tot + n, 0) from if_pos hlt] at ha
    have H := Lib.hid h
    have hw : IntKind.u64.wrap ((s.p : Int) + (n : Int)) = ((s.p + n : Nat) : Int) := by rw [IntKind.wrap_u64]; omega
    clear h
    go_enter Try.func39, Try.ntmps39
    go_wp2_with fail
    refine hi.mono ?_
    rintro e w1 ⟨rfl, qq, rfl⟩
    have hb := belowDrN (Below.refl w.heap.size w) qq
    have h1 := H.out.below hb
    generalize w.drewN qq = w1 at hb h1 ⊢
    go_wp2_with fail
    refine (ha w1).mono ?_
    rintro e w' ⟨rfl, rfl⟩
    have cp := h1.cp
    have fp := h1.fz 2
    have h2 := h1.set_p (s.p + n)
    have H2 := Lib.hid h2
    clear h1 h2
    go_wp2
    go_ret
    refine ⟨rfl, ?_⟩
    first
      | exact LgTo.mk H2.out rfl rfl ((Turns.of_below (F := s.foot) hb).trans (Turns.setCell (F := s.foot) _ _ _ (foot_L s)) (fun _ => .inl))
      | (push_cast at H2; exact LgTo.mk H2.out rfl rfl ((Turns.of_below (F := s.foot) hb).trans (Turns.setCell (F := s.foot) _ _ _ (foot_L s)) (fun _ => .inl)))
  · rw [ite_f hlt]
    have ha := fun W : World => xadd_any s.ab.tot n W ht hn
    rw [show addM s.ab.tot n = (0, 3) from if_neg hlt] at ha
    have H := Lib.hid h
    clear h
    go_enter Try.func39, Try.ntmps39
    go_wp2_with fail
    refine hi.mono ?_
    rintro e w1 ⟨rfl, qq, rfl⟩
    have hb := belowDrN (Below.refl w.heap.size w) qq
    generalize w.drewN qq = w1 at hb ⊢
    go_wp2_with fail
    refine (ha w1).mono ?_
    rintro e w' ⟨rfl, rfl⟩
    go_wp2
    go_ret
    exact ⟨rfl, LgTo.same H.out hb⟩
end Go.Proofs.Ytahleoidbnlllaa
