/-
  The program's Unbond. The conditions stand in each theorem.
-/
import Derived.Test.YtahleoidbnlllaaLins
import Derived.Test.YtahleoidbnlllaaLbin
import Derived.Test.YtahleoidbnlllaaLsix
namespace Go.Proofs.Ytahleoidbnlllaa
open Go.RowKit
set_option linter.unusedVariables false

variable {base : Nat} {w : World} {s : Lm}
/-- So much moves from what is bonded to a chunk. -/
theorem unb_move (h : Lg TP base w s) {k : Nat} {x : Am} (hx : s.a[k]? = some x) {g cap : Nat} (hv : s.v = .slice (some ⟨g, 0, none⟩) s.a.length cap) {gc cc : Nat} (hvc : x.v = .slice (some ⟨gc, 0, none⟩) x.ch.length cc) {k0 : Nat} {c : Ck} (hc : x.ch[k0]? = some c) {n : Nat} (hn : n ≤ x.b) (hb : x.b < 18446744073709551616) (hcn : c.1 + n < 18446744073709551616) :
    Calls Try.prog 51 #[.pointer (some ⟨g, k * 4 + 1, none⟩), .pointer (some ⟨gc, k0 * 2, none⟩), .int .u64 n] w fun e w' => e = .returned (.int .i64 0) ∧ Lg TP base w' { s with a := s.a.set k { x with b := x.b - n, ch := x.ch.set k0 (c.1 + n, c.2) } } ∧ Turns (fun b => b = g ∨ b = gc) w w' := by
  obtain ⟨e0, e1, e2, e3, ef⟩ := h.acell hx hv
  have h1 := h.set_b hx hv (x.b - n)
  have hx1 := get_same (y := { x with b := x.b - n }) hx
  obtain ⟨c0, c1, cf⟩ := h1.ccell hx1 (k := k0) (c := c) hc hvc
  have h2 := h1.set_c hx1 (k := k0) (c := c) hc hvc (c.1 + n)
  refine (mv_yes g (k * 4 + 1) gc (k0 * 2) x.b c.1 n w e1 (ef _) c0 (cf _) hn hb hcn).mono ?_
  rintro e w' ⟨rfl, rfl⟩
  refine ⟨rfl, ?_, (Turns.setCell (F := fun b => b = g ∨ b = gc) w _ _ (.inl rfl)).trans (Turns.setCell (F := fun b => b = g ∨ b = gc) _ _ _ (.inr rfl)) (fun _ => .inl)⟩
  have h3 := h2
  simp only [List.set_set] at h3
  exact h3
theorem insC_there {ch : List Ck} {era : Int} {n : Nat} {c : Ck} (hc : ch[posC ch era]? = some c) (he : c.2 = era) : insC ch era n = some (ch.set (posC ch era) (c.1 + n, c.2)) := by
  unfold insC; simp only [hc, he, if_true]
theorem there_yes {ch : List Ck} {era : Int} (h : thereC ch era = true) : ∃ c, ch[posC ch era]? = some c ∧ c.2 = era := by
  unfold thereC at h
  split at h
  · exact ⟨_, by assumption, by simpa using h⟩
  · cases h
theorem insC_full {ch : List Ck} {era : Int} {n : Nat} (h : thereC ch era = false) (h8 : 8 ≤ ch.length) : insC ch era n = none := by
  unfold thereC at h
  unfold insC
  dsimp only
  split at h
  · rename_i c hc
    rw [hc]
    have : ¬ c.2 = era := by simpa using h
    simp [this, h8]
  · rename_i hc
    rw [hc]; simp [h8]
theorem insC_new {ch : List Ck} {era : Int} {n : Nat} (h : thereC ch era = false) (h8 : ¬ 8 ≤ ch.length) : insC ch era n = some (ch.take (posC ch era) ++ (n, era) :: ch.drop (posC ch era)) := by
  unfold thereC at h
  unfold insC
  dsimp only
  split at h
  · rename_i c hc
    rw [hc]
    have : ¬ c.2 = era := by simpa using h
    simp [this, h8]
  · rename_i hc
    rw [hc]; simp [h8]
set_option maxHeartbeats 3200000 in
set_option maxRecDepth 100000 in
theorem unb_any (h : Lg TP base w s) (hok : s.ab.ok) (i : Int) (n : Nat) (hn : n < 18446744073709551616) (era : Int) :
    Calls Try.prog 14 #[.pointer (some ⟨s.L, 0, none⟩), .int .i64 i, .int .u64 n, .int .i64 era] w fun e w' => e = .returned (.int .i64 (unbM s.ab i n era).2) ∧ LgTo TP base w w' s (unbM s.ab i n era).1 := by
  have hl := hok.len32
  unfold unbM
  rcases s.cases i with ⟨ha, hi⟩ | ⟨k, x, rfl, hx, ha⟩
  · rw [ha]
    go_enter Try.func14, Try.ntmps14
    go_wp2_with fail
    refine (fnd_no h hi hl).mono ?_
    rintro e w' ⟨rfl, rfl⟩
    go_wp2
    go_ret
    exact ⟨rfl, LgTo.same h (Below.refl _ _)⟩
  · rw [ha]
    obtain ⟨g, cap, hv, hc, hg1, hg2⟩ := h.vform hx
    have hkl := (List.getElem?_eq_some_iff.1 hx).1
    have hf := fnd_yes h hx hv hl
    obtain ⟨e0, e1, e2, e3, ef⟩ := h.acell hx hv
    obtain ⟨hb1, hb2⟩ := hok.bounds hx
    have hco : chOk x.ch := ac_ch hok ha
    have hch := h.chs k x (fun e => e) hx
    obtain ⟨A, cc, hxv, hsc⟩ := own_sc hch (by have := hco.len; omega)
    have hbin := bin_any A x.ch.length cc x.ch era w hsc hco.up
    have e3' := e3
    rw [hxv] at e3'
    have H := Lib.hid h
    have HX := Lib.hid hxv
    have HF := Lib.hid hf
    have HB := Lib.hid hbin
    have HO := Lib.hid hco
    have E3 := Lib.hid e3
    clear h hxv ha hf hbin hch hco e3
    dsimp only
    by_cases hn0 : n = 0
    · subst hn0
      rw [ite_t rfl]
      go_enter Try.func14, Try.ntmps14
      go_wp2_with fail
      refine HF.out.mono ?_
      rintro e w' ⟨rfl, rfl⟩
      go_wp2
      go_ret
      exact ⟨rfl, LgTo.same H.out (Below.refl _ _)⟩
    · rw [ite_f hn0]
      by_cases hlt : x.b < n
      · rw [ite_t (show x.ac.b < n from hlt)]
        go_enter Try.func14, Try.ntmps14
        go_wp2_with fail
        refine HF.out.mono ?_
        rintro e w' ⟨rfl, rfl⟩
        go_wp2
        go_ret
        exact ⟨rfl, LgTo.same H.out (Below.refl _ _)⟩
      · rw [ite_f (show ¬ x.ac.b < n from hlt)]
        have hwf := posC_le x.ch era
        by_cases hth : thereC x.ch era = true
        · obtain ⟨c, hcc, hce⟩ := there_yes hth
          rw [show insC x.ac.ch era n = _ from insC_there (ch := x.ch) hcc hce]
          have hk0 := (List.getElem?_eq_some_iff.1 hcc).1
          have HCC := Lib.hid hcc
          have hcb : c.1 ≤ cht x.ch := by have := cht_set (ch := x.ch) (0, c.2) hcc; dsimp only at this; omega
          dsimp only
          generalize posC x.ch era = k0 at *
          clear hcc
          go_enter Try.func14, Try.ntmps14
          go_wp2_with fail
          refine HF.out.mono ?_
          rintro e w' ⟨rfl, rfl⟩
          go_wp2_with fail
          refine HB.out.mono ?_
          rintro e w1 ⟨rfl, hbw⟩
          rw [hth]
          have h1 := H.out.below hbw
          obtain ⟨f0, f1, f2, f3, ff⟩ := h1.acell hx hv
          have f3' := f3
          rw [HX.out] at f3'
          rcases h1.cforms hx with ⟨_, hnil⟩ | ⟨gc, cc', hxc, _, hcl, _, _⟩
          · rw [hnil] at hk0; simp at hk0
          · have hxc2 := hxc
            rw [HX.out] at hxc2
            injection hxc2 with hA1 hA2 hA3
            subst hA1 hA3
            have HM := Lib.hid (unb_move h1.drew hx hv hxc HCC.out (n := n) (by omega) (by omega) (by omega))
            have HXC := Lib.hid hxc
            clear f3 hxc h1
            go_wp2_with fail
            go_region_with (go_at_call 51; refine HM.out.mono ?_; rintro e w' ⟨rfl, m1, m2⟩; have M1 := Lib.hid m1; have M2 := Lib.hid m2; clear m1 m2)
            all_goals
              go_wp2
              go_ret
              refine ⟨rfl, LgTo.mk M1.out rfl (by rw [ab_put]; rfl) ((Turns.of_below (F := s.foot) hbw).trans (Turns.undrew M2.out) ?_)⟩
              rintro b (rfl | rfl)
              · exact .inl (foot_g hv)
              · exact .inl (foot_c hx HXC.out)
        · have hth : thereC x.ch era = false := by simpa using hth
          by_cases h8 : 8 ≤ x.ch.length
          · rw [show insC x.ac.ch era n = _ from insC_full (ch := x.ch) hth h8]
            dsimp only
            go_enter Try.func14, Try.ntmps14
            go_wp2_with fail
            refine HF.out.mono ?_
            rintro e w' ⟨rfl, rfl⟩
            go_wp2_with fail
            refine HB.out.mono ?_
            rintro e w1 ⟨rfl, hbw⟩
            rw [hth]
            have h1 := H.out.below hbw
            obtain ⟨f0, f1, f2, f3, ff⟩ := h1.acell hx hv
            rw [HX.out] at f3
            clear h1
            go_wp2
            go_ret
            exact ⟨rfl, LgTo.same H.out hbw⟩
          · rw [show insC x.ac.ch era n = _ from insC_new (ch := x.ch) hth h8]
            dsimp only
            have HTH := Lib.hid hth
            go_enter Try.func14, Try.ntmps14
            go_wp2_with fail
            refine HF.out.mono ?_
            rintro e w' ⟨rfl, rfl⟩
            go_wp2_with fail
            refine HB.out.mono ?_
            rintro e w1 ⟨rfl, hbw⟩
            rw [hth]
            have h1 := H.out.below hbw
            obtain ⟨f0, f1, f2, f3, ff⟩ := h1.acell hx hv
            rw [HX.out] at f3
            have H1 := Lib.hid h1
            clear h1
            go_wp2_with fail
            have hq1 := KB.new w1 53 #[.int .u64 0, .int .i64 era]
            have h2 := H1.out.alloc (.cells #[.int .u64 0, .int .i64 era] 53)
            have hch2 := h2.chs k x (fun e => e) hx
            have hsz := (H1.out.foot_lt (foot_L s))
            rw [HX.out] at hch2
            have hins := ins_any (i := posC x.ch era) hch2 hwf hq1 (fun e => by
              have := (H1.out.foot_lt (b := w1.heap.size) (.inr (.inr ⟨k, x, hx, by rw [HX.out]; exact e⟩))).2
              omega) (by omega) (by simp; omega)
            have HS := Lib.hid hsz
            clear hsz hq1 hch2
            refine hins.mono ?_
            rintro e w2 ⟨v', rfl, hown, ht, hfr, hkb⟩
            obtain ⟨R, hR⟩ : ∃ R, R = x.ch.take (posC x.ch era) ++ (0, era) :: x.ch.drop (posC x.ch era) := ⟨_, rfl⟩
            rw [← hR] at hown
            have hRl : R.length = x.ch.length + 1 := by rw [hR]; simp; omega
            have hRk : R[posC x.ch era]? = some (0, era) := by rw [hR, List.getElem?_append_right (by simp; omega)]; simp [Nat.min_eq_left hwf]
            have hRs : R.set (posC x.ch era) (0 + n, era) = x.ch.take (posC x.ch era) ++ (n, era) :: x.ch.drop (posC x.ch era) := by
              rw [hR, List.set_append_right _ _ (by simp; omega)]; simp [Nat.min_eq_left hwf]
            obtain ⟨gc, cc', hv'⟩ : ∃ gc cc', v' = .slice (some ⟨gc, 0, none⟩) R.length cc' := by
              rcases own_forms hown with ⟨_, h0, _⟩ | ⟨gc, cc', hv', _⟩
              · omega
              · exact ⟨gc, cc', hv'⟩
            have hX := h2.toX hx (by rw [HX.out]; exact ht) (by rw [HX.out]; exact hkb)
            obtain ⟨_, _, _, i3, if3⟩ := hX.acell hx hv
            have hs := hX.set_v hx hv v' R hown (fun g' e => by
              rcases hfr g' e with h1 | h1
              · exact .inl (by rw [HX.out]; exact h1)
              · refine .inr fun k' z hz e' => ?_
                have := (h2.foot_lt (.inr (.inr ⟨k', z, hz, e'⟩))).2
                omega)
            have T1 : Turns s.foot w (w2.setCell ⟨g, k * 4 + 3, none⟩ v') := by
              refine ((((Turns.of_below (F := s.foot) hbw).trans (Turns.alloc s.foot w1 _) (fun _ => .inl)).trans ht ?_).trans (Turns.setCell (F := s.foot) w2 _ v' (foot_g hv)) (fun _ => .inl))
              exact fun b e => .inl (.inr (.inr ⟨k, x, hx, by rw [HX.out]; exact e⟩))
            have hgc : s.foot gc ∨ w.heap.size ≤ gc := by
              rcases hfr gc (by rw [hv']; rfl) with e | e
              · exact .inl (.inr (.inr ⟨k, x, hx, by rw [HX.out]; exact e⟩))
              · refine .inr (Nat.le_trans hbw.size (Nat.le_trans ?_ e))
                simp
            have wf' := i3
            rw [HX.out] at i3
            have if3' := if3 (k * 4 + 3)
            obtain ⟨w3, hw3⟩ : ∃ w3, w3 = w2.setCell ⟨g, k * 4 + 3, none⟩ v' := ⟨_, rfl⟩
            rw [← hw3] at hs T1
            have hx3 := get_same (y := { x with v := v', ch := R }) hx
            have hv3 : s.v = .slice (some ⟨g, 0, none⟩) (s.a.set k { x with v := v', ch := R }).length cap := by simpa using hv
            obtain ⟨z0, z1, z2, z3, zf⟩ := hs.acell hx3 hv3
            dsimp only at z0 z1 z2 z3
            have hk0R : posC x.ch era < R.length := by omega
            have HM := Lib.hid (unb_move hs.drew hx3 hv3 hv' (k0 := posC x.ch era) (c := (0, era)) hRk (n := n) (by dsimp only; omega) (by dsimp only; omega) (by dsimp only; omega))
            subst hv'
            have T1' := Lib.hid T1
            have HRS := Lib.hid hRs
            have hk0' : ((posC x.ch era : Nat) : Int) < (R.length : Int) := by omega
            clear hs T1 hX hown ht hfr hkb hins h2 hR hRk hRs wf' if3 hRl
            have HW3 := Lib.hid hw3
            clear hw3
            go_wp2_with fail
            rw [← HW3.out]
            go_region_with (go_at_call 51; refine HM.out.mono ?_; rintro e w' ⟨rfl, m1, m2⟩; have M1 := Lib.hid m1; have M2 := Lib.hid m2; clear m1 m2)
            all_goals
              go_wp2
              go_ret
              refine ⟨rfl, LgTo.mk M1.out rfl ?_ (T1'.out.trans (Turns.undrew M2.out) ?_)⟩
              · rw [← HRS.out]
                simp [Lm.ab, Ab.put, List.map_set, Am.ac]
              · rintro b (rfl | rfl)
                · exact .inl (foot_g hv)
                · exact hgc
end Go.Proofs.Ytahleoidbnlllaa
