/-
  PROVED: for all members and all shares the law PhragmenSupports returns true: the supports are those that the document says. No conditions.
  The walk of the law PhragmenSupports: it returns true, whatever the members and the shares, and writes nothing that was there.
-/
import Derived.Test.YtehekjlakegkpaaGreatX28
import Derived.Test.YtehekjlakegkpaaGreatX29
import Derived.Test.YtehekjlakegkpaaGreatX30
import Derived.Test.YtehekjlakegkpaaGreatRows
import Derived.WalkKit
import Derived.ProofKit
import Derived.OpenShut
import Derived.ShutString
import Derived.ChangeOld
import Derived.Below
import Derived.Lib.SmallJoins
section
namespace Go.Proofs.YtehekjlakegkpaaGreat
open Go.RowKit
set_option linter.unusedVariables false

theorem slice_inj {A B : Option Addr} {n c m d : Nat} (h : Value.slice A n c = .slice B m d) : A = B := by injection h
theorem FsIn.cap {T : TypeId} {w : World} {base n c : Nat} {A : Option Addr} {fs : List (Fp × Rat)} (h : FsIn T w base (.slice A n c) fs) : n = fs.length ∧ n ≤ c ∧ c ≤ maxLen := by
  obtain ⟨_, _, e, h1, h2⟩ := h.form
  injection e with e1 e2 e3
  subst e2 e3
  exact ⟨rfl, h1, h2⟩
theorem fewQ_of {w : World} {A : Option Addr} {n c a b N : Nat} {l : List Wh} (h : Hr w A n c l) (hn : n ≤ N) (hN : N ≤ 4294967296) (hab : a * N + b + 1 < 150) (hs : ∀ s ∈ l, s.f.n ≤ b ∧ s.f.m ≤ a) (hok : ∀ s ∈ l, s.ok = true) : FewQ a b N l := by
  refine ⟨by rw [h.len]; exact hn, hN, hab, fun s hm => ?_, hok⟩
  obtain ⟨r0, r1⟩ := h.rd s hm
  obtain ⟨h1, h2, h3⟩ := Wh.is_q r0.lim r1.lim (hok s hm)
  obtain ⟨s1, s2⟩ := hs s hm
  have l1 := val_lt r0.lim
  have l2 := val_lt r1.lim
  rw [r0.len] at l1
  rw [r1.len] at l2
  refine ⟨h1, sz_of h1.2.2 ?_ ?_⟩
  · rw [h3]; exact Nat.le_trans (Nat.le_of_lt l2) (pw_le s2)
  · rw [h2]; exact Nat.le_trans (Nat.le_of_lt l1) (pw_le s1)
set_option maxRecDepth 100000 in
set_option maxHeartbeats 6400000 in
theorem psup_walk (A B : Option Addr) (n c m d : Nat) (ms : List Int) (l : List Wh) (w : World) (hm : Ri w A n c ms) (h : Hr w B m d l) : Calls Tryz.prog 5 #[.slice A n c, .slice B m d] w (OutF w true) := by
  have HIN := Lib.hid h
  have HM := Lib.hid hm
  have hcap := h.cap
  have hmax := h.max
  have hcapm := hm.cap
  have hmaxm := hm.max
  have HLN := Lib.hid h.len
  clear h hm
  go_enter Tryz.func5, Tryz.ntmps5
  go_wp2_with fail
  refine (wakeP_any _).mono ?_
  rintro e w1 ⟨rfl, hb1⟩
  have HB1 := Lib.hid hb1
  clear hb1
  by_cases h20 : (20 : Int) < (n : Int)
  · go_wp2_with fail
    refine (wakeP_any _).mono ?_
    rintro e w2 ⟨rfl, hb2⟩
    go_wp2
    go_ret
    exact ⟨rfl, HB1.out.trans (hb2.mono HB1.out.size)⟩
  have hFw := few11_any B m d 40 l w1 (HIN.out.below HB1.out (Nat.le_refl _))
  go_wp2_with fail
  refine hFw.mono ?_
  rintro e w2 ⟨⟨r, rfl, hr⟩, rfl⟩
  have HR := Lib.hid hr
  clear hr hFw
  cases r with
  | false =>
    go_wp2_with fail
    refine (wakeP_any _).mono ?_
    rintro e w2 ⟨rfl, hb2⟩
    go_wp2
    go_ret
    exact ⟨rfl, HB1.out.trans (hb2.mono HB1.out.size)⟩
  | true =>
    obtain ⟨hm40, hsz⟩ := HR.out rfl
    have HQ := Lib.hid (fewQ_of (a := 2) (b := 4) (N := 40) HIN.out hm40 (by omega) (by omega) hsz)
    clear hsz HR
    have hTh := theirs11_any B m d l w1 (HIN.out.below HB1.out (Nat.le_refl _)) (by omega)
    go_wp2_with fail
    refine hTh.mono ?_
    rintro e w2 ⟨B2, d2, rfl, hH2, _, hb2⟩
    have HB2 := Lib.hid (HB1.out.trans (hb2.mono HB1.out.size))
    have hSu := supports_any A B2 n c l.length d2 2 4 40 ms l w2 (HM.out.below HB2.out (Nat.le_refl _)) (by omega) hH2 HQ.out
    clear hTh hH2 hb2 HB1
    go_wp2_with fail
    refine hSu.mono ?_
    rintro e w3 hS3
    have hb3 : Below w2.heap.size w2 w3 := by
      by_cases hok : ∀ s ∈ l, s.ok = true
      · obtain ⟨_, _, _, _, _, _, hb⟩ := hS3.1 hok; exact hb
      · refine (hS3.2 ?_).2
        exact Classical.byContradiction fun hn => hok fun s hs => by
          cases hc : s.ok with
          | true => rfl
          | false => exact absurd ⟨s, hs, hc⟩ hn
    have HB3 := Lib.hid (HB2.out.trans (hb3.mono HB2.out.size))
    have hXu := xsupports_any A B n c m d 2 4 40 ms l w3 (HM.out.below HB3.out (Nat.le_refl _)) (by omega) (HIN.out.below HB3.out (Nat.le_refl _)) HQ.out
    clear hSu hb3
    by_cases hok : ∀ s ∈ l, s.ok = true
    · obtain ⟨P, pc, fs, rfl, hfm, hfs, _⟩ := hS3.1 hok
      have HF := Lib.hid (And.intro hfm hfs)
      clear hS3 hfm hfs
      go_wp2_with fail
      refine hXu.mono ?_
      rintro e w4 hX4
      obtain ⟨Q, qc, gs, rfl, hgm, hgs, hb4⟩ := hX4.1 hok
      have hlg : gs.length = fs.length := by
        have h1 := congrArg List.length hgm
        have h2 := congrArg List.length HF.out.1
        simp only [List.length_map] at h1 h2
        omega
      have HB4 := Lib.hid (HB3.out.trans (hb4.mono HB3.out.size))
      have HFF := Lib.hid (HF.out.2.below hb4)
      have HLG := Lib.hid hlg
      rw [hlg] at hgs ⊢
      have HGG := Lib.hid hgs
      have HEQ := Lib.hid (hgm.trans HF.out.1.symm)
      have hc2 := HFF.out.cap.2
      have hqc := HGG.out.cap.2
      unfold maxLen at hc2 hqc
      clear hX4 hXu hgm hgs hb4 HF HQ hlg
      go_wp2_with fail
      go_loopw [48] (fun tv wr => ∃ (k : Nat), k ≤ fs.length ∧ tv = .int .i64 (k : Int) ∧ Below w4.heap.size w4 wr) (fun tv _ => fs.length - (intOf tv).toNat)
      case atStart => exact ⟨0, by omega, rfl, Below.refl _ _⟩
      case round =>
        obtain ⟨k, hk, rfl, hbw⟩ := hrel
        by_cases hlt : k < fs.length
        · obtain ⟨⟨⟨fA, fn, fc, fB, fm, fd⟩, x⟩, hx⟩ : ∃ y, fs[k]? = some y := ⟨_, List.getElem?_eq_getElem hlt⟩
          obtain ⟨⟨⟨gA, gn, gc, gB, gm, gd⟩, y⟩, hy⟩ : ∃ y, gs[k]? = some y := ⟨_, List.getElem?_eq_getElem (by rw [HLG.out]; exact hlt)⟩
          have hxy : y = x := by
            have h1 := congrArg (fun l : List Rat => l[k]?) HEQ.out
            simp only [List.getElem?_map, hx, hy] at h1
            simpa using h1
          subst hxy
          obtain ⟨b1, _, e1, _, hg1, _, _, c0, c1, hr1⟩ := HFF.out.at_ hx
          obtain rfl := slice_inj e1
          clear e1
          obtain ⟨b2, _, e2, _, hg2, _, _, d0, d1, hr2⟩ := HGG.out.at_ hy
          obtain rfl := slice_inj e2
          clear e2
          dsimp only at c0 c1 d0 d1
          have HKF := Lib.hid (fun W' (hb' : Below w4.heap.size w4 W') => (⟨(hb'.cell (p := ⟨b1, k * 2, none⟩) hg1).trans c0, (hb'.cell (p := ⟨b1, k * 2 + 1, none⟩) hg1).trans c1, (hb'.cell (p := ⟨b2, k * 2, none⟩) hg2).trans d0, (hb'.cell (p := ⟨b2, k * 2 + 1, none⟩) hg2).trans d1⟩ : _ ∧ _ ∧ _ ∧ _))
          have K0 := HKF.out wr hbw
          have HRR := Lib.hid (And.intro (hr1.below hbw (Nat.le_refl _)) (hr2.below hbw (Nat.le_refl _)))
          have HBW := Lib.hid hbw
          have hki : (k : Int) < (fs.length : Int) := by omega
          clear c0 c1 d0 d1 hr1 hr2 hbw hx hy
          go_upto_region 10 with (fail)
          go_region_held3 (fun W' => W'.cell? ⟨b1, k * 2, none⟩ = some (.slice fA fn fc) ∧ W'.cell? ⟨b1, k * 2 + 1, none⟩ = some (.slice fB fm fd) ∧ W'.cell? ⟨b2, k * 2, none⟩ = some (.slice gA gn gc) ∧ W'.cell? ⟨b2, k * 2 + 1, none⟩ = some (.slice gB gm gd))
            (first | exact K0 | exact K1)
            (first | (go_at_call 18; go_loud (refine (same2_yes _ _ _ _ _ _ _ _ _ _ _ _ (digs y.num.toNat) (digs y.den) _ ?_ ?_ ?_ ?_).mono ?_); go_loud (exact HRR.out.1.1); go_loud (exact HRR.out.1.2); go_loud (exact HRR.out.2.1); go_loud (exact HRR.out.2.2); go_loud (rintro e w5 ⟨rfl, hb5⟩); go_loud (have HB5 := Lib.hid (HBW.out.trans (((Below.refl wr.heap.size wr).drew.trans (hb5.mono (Nat.le_refl wr.heap.size))).mono HBW.out.size))); have K1 := HKF.out w5 HB5.out; clear hb5))
          all_goals
            go_wp2
            go_roundw
            case rel => exact ⟨k + 1, by omega, by go_num, HB5.out⟩
            case measure => simp [intOf]; omega
        · go_wp2
          go_ret
          exact ⟨rfl, HB4.out.trans (hbw.mono HB4.out.size)⟩
    · have hbad : ∃ s ∈ l, s.ok = false := Classical.byContradiction fun hn => hok fun s hs => by
        cases hc : s.ok with
        | true => rfl
        | false => exact absurd ⟨s, hs, hc⟩ hn
      obtain ⟨rfl, _⟩ := hS3.2 hbad
      clear hS3
      go_wp2_with fail
      refine hXu.mono ?_
      rintro e w4 hX4
      obtain ⟨rfl, hb4⟩ := hX4.2 hbad
      have HB4 := Lib.hid (HB3.out.trans (hb4.mono HB3.out.size))
      clear hX4 hXu hb4 HQ
      go_wp2_with fail
      go_loopw [48] (fun tv wr => tv = .int .i64 0 ∧ wr = w4) (fun tv _ => 0)
      case atStart => exact ⟨rfl, rfl⟩
      case round =>
        obtain ⟨rfl, rfl⟩ := hrel
        go_wp2
        go_ret
        exact ⟨rfl, HB4.out⟩
end Go.Proofs.YtehekjlakegkpaaGreat
end
section
namespace Go.Proofs.YtehekjlakegkpaaGreat.phragmenSupports
open Go.ChangeShapes Go.WideShapes Go.ChangeAt Go.RowKit
open Go.ChangeMaps (open_string shut_string)
set_option linter.unusedVariables false

theorem own : ownKnob Tryz.prog.godebug = none := by kernel_rfl
theorem laidOut : laidOutB Tryz.prog = true := by kernel_rfl

set_option maxRecDepth 100000 in
theorem lifted (os : Os) (started : os.Started) (H : Type) (enc : TypeId × Value → H) :
    ReturnsInHanded {} Tryz.checked os 5 .any (Rows.phragmenSupportsSpec.pre6 enc Tryz.prog Tryz.f5 Rows.phragmenSupportsRow.domain false) (Rows.phragmenSupportsSpec.post enc Tryz.prog Tryz.f5 false true false false) := by
  refine returnsInHanded_of_change (C := Tryz.checked) own started (by kernel_rfl) Tryz.func5
    (ChangeSpec.witness6 (enc := enc) (C := Tryz.checked) false ⟨#[], #[.slice none 0 0, .slice none 0 0], []⟩ 8 (by kernel_rfl) (by kernel_rfl) (by kernel_rfl) (by kernel_rfl)) ?_
  intro W base args ds gs before hval0 hW hcnd _
  have hval : ∀ (j : Nat) t v, Tryz.f5.params[j]? = some t → args[j]? = some v → Value.okWide Tryz.prog W .any base t v := hval0
  have hW' := hW
  obtain ⟨p, q, hA0, hV, rfl, hfz, hnd⟩ := hW
  have hA : DataW.TrodAll enc Tryz.prog W 0 (fun _ => true) true Tryz.f5.params.toList args.toList ds p := hA0
  rw [Tryz.params5] at hA hval
  obtain ⟨v0, vs0, d0, ds0, p0', q0', hargs, rfl, rfl, h0, r0⟩ := trodAll_cons hA
  obtain ⟨v1, vs1, d1, ds1, p1', q1', rfl, rfl, rfl, h1, r1⟩ := trodAll_cons r0
  obtain ⟨rfl, rfl, rfl⟩ := trodAll_nil r1
  obtain rfl : args = #[v0, v1] := by cases args; simp_all
  obtain ⟨rfl, rfl⟩ := trodVars_none hV
  obtain ⟨A0, n0, c0, rfl⟩ := okWide_slice Tryz.underlying23 (hval 0 23 v0 rfl rfl)
  have k0 := h0
  have lt0 : ∀ x ∈ p0', x.block < W.heap.size := by obtain ⟨m, hm⟩ := k0; exact DataW.trod_lt m _ _ _ hm
  obtain ⟨xs0, w0⟩ : ∃ xs, Ri W A0 n0 c0 xs := by
    obtain ⟨fuel, tr⟩ := h0
    obtain ⟨A', n', c', xs, e, w⟩ := open_ri (v := .slice A0 n0 c0) tr
    injection e with e1 e2 e3
    subst e1 e2 e3
    exact ⟨xs, w⟩
  obtain ⟨A1, n1, c1, rfl⟩ := okWide_slice Tryz.underlying57 (hval 1 57 v1 rfl rfl)
  have k1 := h1
  have lt1 : ∀ x ∈ p1', x.block < W.heap.size := by obtain ⟨m, hm⟩ := k1; exact DataW.trod_lt m _ _ _ hm
  obtain ⟨xs1, w1⟩ : ∃ xs, Hr W A1 n1 c1 xs := by
    obtain ⟨fuel, tr⟩ := h1
    obtain ⟨A', n', c', xs, e, w⟩ := open_hr (v := .slice A1 n1 c1) tr
    injection e with e1 e2 e3
    subst e1 e2 e3
    exact ⟨xs, w⟩
  clear hA0 hval0
  refine (psup_walk A0 A1 n0 c0 n1 c1 xs0 xs1 W w0 w1).mono fun e W' ⟨he, bel⟩ => ?_
  subst he
  exact ⟨_, rfl, _, _, _, [], _, [], hW', trodAll_mk1 (shut_bool Tryz.underlying4 _), (trodAll_cons_mk (Below.trod laidOut (by kernel_rfl) (of_decide_eq_true (by kernel_rfl)) k0 bel lt0) (trodAll_cons_mk (Below.trod laidOut (by kernel_rfl) (of_decide_eq_true (by kernel_rfl)) k1 bel lt1) trodAll_mk0)), rfl, bel.frame _, fun h => by cases h⟩

theorem over : Rows.phragmenSupportsRow.holds Tryz.pinned (OpenSpec.ofChange Rows.phragmenSupportsSpec) :=
  OpenClaim.holds_of_wide 5 Tryz.f5 rfl rfl rfl rfl rfl rfl rfl ⟨rfl, rfl, rfl, rfl, rfl⟩ rfl rfl rfl rfl rfl (by kernel_rfl) Tryz.func5 (by kernel_rfl)
    (of_decide_eq_true (by kernel_rfl)) (by unfold Func.isWrapper; first | (rw [if_pos (by decide +kernel)]; kernel_rfl) | (rw [if_neg (by decide +kernel)]; exact ⟨rfl, rfl⟩))
    (fun os started H enc _ => lifted os started H enc)

theorem proved : Rows.PhragmenSupportsSaid := over
end Go.Proofs.YtehekjlakegkpaaGreat.phragmenSupports
namespace Go.Proofs.YtehekjlakegkpaaGreat
theorem phragmenSupports_holds : Rows.PhragmenSupportsSaid := phragmenSupports.proved
#print axioms phragmenSupports_holds
end Go.Proofs.YtehekjlakegkpaaGreat
end
