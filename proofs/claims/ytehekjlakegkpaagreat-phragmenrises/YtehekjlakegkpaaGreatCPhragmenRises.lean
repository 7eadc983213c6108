/-
  PROVED: for every snapshot and every number of seats the law PhragmenRises returns true: scores don't fall; each voter that gives something gives its stake; each seat's supporters give to it. No conditions.
  The walk of the law PhragmenRises: it returns true, whatever the snapshot and the number, and writes nothing that was there.
-/
import Derived.Test.YtehekjlakegkpaaGreatX28
import Derived.Test.YtehekjlakegkpaaGreatX30
import Derived.Test.YtehekjlakegkpaaGreatX31
import Derived.Test.YtehekjlakegkpaaGreatRows
import Derived.WalkKit
import Derived.ProofKit
import Derived.OpenShut
import Derived.ShutString
import Derived.ChangeOld
import Derived.Below
import Derived.Lib.SmallJoins
section
namespace Go.Proofs.YtehekjlakegkpaaGreat
open Go.RowKit
set_option linter.unusedVariables false

theorem xfrac_any (p : Nat) (w : World) (hp : p < 18446744073709551616) : Calls Tryz.prog 19 #[.int .u64 p, .int .u64 1] w (OutX w (p : Rat)) := by
  refine (frac_any p 1 w hp (by omega) (by omega)).mono ?_
  rintro e w' ⟨A, n, c, B, m, d, rfl, hA, hB, hb⟩
  refine ⟨⟨A, n, c, B, m, d⟩, rfl, ⟨?_, ?_⟩, hb⟩
  · rw [Rat.num_natCast]; rw [Nat.gcd_one_right, Nat.div_one] at hA; exact hA
  · rw [Rat.den_natCast]; rw [Nat.gcd_one_right] at hB; exact hB
theorem sameX_any {w : World} {A B A' B' : Option Addr} {n c m d n' c' m' d' : Nat} {x : Rat} (hf : RX w ⟨A, n, c, B, m, d⟩ x) (hg : RX w ⟨A', n', c', B', m', d'⟩ x) :
    Calls Tryz.prog 18 #[.agg #[.slice A n c, .slice B m d], .agg #[.slice A' n' c', .slice B' m' d']] w (OutF w true) :=
  same2_yes _ _ _ _ _ _ _ _ _ _ _ _ (digs x.num.toNat) (digs x.den) _ hf.1 hf.2 hg.1 hg.2
theorem cmpX_le {x y : Rat} (h : x ≤ y) : ¬ 0 < cmpX x y := by
  unfold cmpX
  split
  · omega
  · split
    · omega
    · rename_i h1 h2
      exact absurd (by grind) h2
theorem take_some_succ {ss : List Sh} {j : Nat} {t : Sh} {i : Int} (h : ss[j]? = some t) : (∃ u ∈ ss.take (j + 1), u.v = i) ↔ (∃ u ∈ ss.take j, u.v = i) ∨ t.v = i := by
  rw [List.take_add_one, h]
  constructor
  · rintro ⟨u, hu, e⟩
    rcases List.mem_append.1 hu with hu | hu
    · exact .inl ⟨u, hu, e⟩
    · obtain rfl : u = t := by simpa using hu
      exact .inr e
  · rintro (⟨u, hu, e⟩ | e)
    · exact ⟨u, List.mem_append_left _ hu, e⟩
    · exact ⟨t, List.mem_append_right _ (by simp), e⟩
set_option maxRecDepth 100000 in
set_option maxHeartbeats 12800000 in
theorem prises_walk (s : Sn) (p : Nat) (w : World) (h : s.In w) (hp : p < 256) : Calls Tryz.prog 3 #[s.val, .int .u8 (p : Int)] w (OutF w true) := by
  obtain ⟨A, n, c, B, m, d, vs, cs⟩ := s
  have HIN := Lib.hid h
  have HV := Lib.hid h.1
  have HC := Lib.hid h.2
  have hb1 : Below w.heap.size w (w.alloc (.cells #[.slice A n c, .slice B m d] 25)) := (Below.refl _ _).alloc (Nat.le_refl _) _
  have hk1 := KB.new w 25 #[.slice A n c, .slice B m d]
  have HB1 := Lib.hid hb1
  have HK1 := Lib.hid hk1
  have HSM := Lib.hid (fun W g => small_any ⟨A, n, c, B, m, d, vs, cs⟩ W g)
  have HFM := Lib.hid (fun W g => rsnap_any ⟨A, n, c, B, m, d, vs, cs⟩ W g)
  unfold Sn.val at HSM HFM ⊢
  dsimp only at HV HC HSM HFM ⊢
  have HL := Lib.hid HV.out.len
  have HLC := Lib.hid HC.out.len
  have hcap := HV.out.cap
  have hmax := HV.out.max
  have hcap2 := HC.out.cap
  have hmax2 := HC.out.max
  clear h hb1 hk1
  go_enter Tryz.func3, Tryz.ntmps3
  go_wp2_with fail
  refine (wakeP_any _).mono ?_
  rintro e w2 ⟨rfl, hb2⟩
  have HB2 := Lib.hid (HB1.out.trans (hb2.mono HB1.out.size))
  have HK2 := Lib.hid (HK1.out.below hb2 HK1.out.lt)
  have x0 := HK2.out.cell 0
  have x1 := HK2.out.cell 1
  simp at x0 x1
  clear hb2 HB1 HK1
  go_wp2_with fail
  refine (HSM.out w2 (HIN.out.below HB2.out (Nat.le_refl _))).mono ?_
  rintro e w3 ⟨r, rfl, hb3⟩
  have HB3 := Lib.hid (HB2.out.trans (hb3.mono HB2.out.size))
  have HK3 := Lib.hid (HK2.out.below hb3 HK2.out.lt)
  clear hb3 HB2 HK2 x0 x1 HSM
  cases r with
  | false =>
    go_wp2_with fail
    refine (wakeP_any _).mono ?_
    rintro e w4 ⟨rfl, hb4⟩
    go_wp2
    go_ret
    exact ⟨rfl, HB3.out.trans (hb4.mono HB3.out.size)⟩
  | true =>
  have x0 := HK3.out.cell 0
  have x1 := HK3.out.cell 1
  simp at x0 x1
  have hF := HFM.out w3 (HIN.out.below HB3.out (Nat.le_refl _))
  by_cases hfd : Fd vs cs
  case neg =>
    rw [decide_eq_false hfd] at hF
    go_wp2_with fail
    refine hF.mono ?_
    rintro e w4 ⟨rfl, hb4⟩
    have HB4 := Lib.hid (HB3.out.trans (hb4.mono HB3.out.size))
    go_wp2_with fail
    refine (wakeP_any _).mono ?_
    rintro e w5 ⟨rfl, hb5⟩
    go_wp2
    go_ret
    exact ⟨rfl, HB4.out.trans (hb5.mono HB4.out.size)⟩
  rw [decide_eq_true hfd] at hF
  go_wp2_with fail
  refine hF.mono ?_
  rintro e w4 ⟨rfl, hb4⟩
  have HB4 := Lib.hid (HB3.out.trans (hb4.mono HB3.out.size))
  have HK4 := Lib.hid (HK3.out.below hb4 HK3.out.lt)
  clear hb4 HB3 HK3 x0 x1 HFM hF
  have x0 := HK4.out.cell 0
  have x1 := HK4.out.cell 1
  simp at x0 x1
  have hk8 : p % 9 ≤ 8 := by omega
  have hEl := elect_ok ⟨A, n, c, B, m, d, vs, cs⟩ (p % 9) w4 (HIN.out.below HB4.out (Nat.le_refl _)) hfd hk8
  have hSe := Lib.hid (fun W g => seats10_any ⟨A, n, c, B, m, d, vs, cs⟩ (p % 9) W g hfd)
  unfold Sn.val at hEl hSe
  dsimp only at hEl hSe
  rw [show ((p % 9 : Nat) : Int) = (p : Int) % 9 by omega] at hEl hSe
  go_wp2_with fail
  refine hEl.mono ?_
  rintro e w5 ⟨EA, ec, es, SB, sd, ss, rfl, hown, hrx, heq, hAl, hSR, hb5⟩
  dsimp only at heq hSR
  obtain ⟨⟨D, hok⟩, hlen⟩ := esOk_of (k := min (p % 9) (supR vs cs).length) hfd (by omega) (Nat.min_le_right _ _)
  rw [← heq] at hok hlen
  rw [List.length_map] at hlen
  rw [← hlen] at hSe
  have he8 : es.length ≤ 8 := by omega
  have HB5 := Lib.hid (HB4.out.trans (hb5.mono HB4.out.size))
  have HK5 := Lib.hid (HK4.out.below hb5 HK4.out.lt)
  have HES := Lib.hid (seIn_of hown hrx)
  have HHR := Lib.hid hAl.hr
  have HOK := Lib.hid hok
  have HSR := Lib.hid hSR
  have hec := own_caps hown
  have hsc := (show ss.length ≤ sd ∧ sd ≤ 9223372036854775807 from own_caps hAl.row)
  have HFD := Lib.hid hfd
  clear hEl hown hrx heq hAl hSR hb5 hok hlen hfd HB4 HK4 x0 x1
  have x0 := HK5.out.cell 0
  have x1 := HK5.out.cell 1
  simp at x0 x1
  go_wp2_with fail
  refine (hSe.out w5 (HIN.out.below HB5.out (Nat.le_refl _))).mono ?_
  rintro e w6 ⟨rfl, hb6⟩
  have HB6 := Lib.hid (HB5.out.trans (hb6.mono HB5.out.size))
  have HK6 := Lib.hid (HK5.out.below hb6 HK5.out.lt)
  have HB56 := Lib.hid hb6
  clear hb6 HK5 x0 x1 hSe
  have hgl := HK6.out.lt
  go_wp2_with fail
  go_loopw [53] (fun tv wr => ∃ (i : Nat), i ≤ es.length ∧ tv = .int .i64 (i : Int) ∧ Below w6.heap.size w6 wr) (fun tv _ => es.length - (intOf tv).toNat)
  case atStart => exact ⟨0, by omega, rfl, Below.refl _ _⟩
  case round =>
    obtain ⟨i, hi, rfl, hbw⟩ := hrel
    by_cases hlt : i < es.length
    · obtain ⟨⟨ycd, ⟨yA, yn, yc, yB, ym, yd⟩, yx⟩, hy⟩ : ∃ y, es[i]? = some y := ⟨_, List.getElem?_eq_getElem hlt⟩
      obtain ⟨bE, rfl, hbE, z0, z1, z2⟩ := HES.out.at_ i _ hy
      have hyx := HES.out.rx _ (List.mem_of_getElem? hy)
      dsimp only at z0 z1 z2 hyx
      have hii : (i : Int) < (es.length : Int) := by omega
      have HYS := Lib.hid hy
      have HKF := Lib.hid (fun W' (hb' : Below w6.heap.size w6 W') => (⟨((HB56.out.trans (hb'.mono HB56.out.size)).cell (p := ⟨bE, i * 3, none⟩) hbE).trans z0, ((HB56.out.trans (hb'.mono HB56.out.size)).cell (p := ⟨bE, i * 3 + 1, none⟩) hbE).trans z1, ((HB56.out.trans (hb'.mono HB56.out.size)).cell (p := ⟨bE, i * 3 + 2, none⟩) hbE).trans z2⟩ : _ ∧ _ ∧ _))
      rcases Nat.eq_zero_or_pos i with h0 | h0
      · subst h0
        have HBW := Lib.hid hbw
        clear hbw z0 z1 z2
        go_upto_region 9 with (fail)
        go_quiet (fail)
        go_wp2_with fail
        go_loopw [74] (fun tw wz => tw = .int .i64 0 ∧ Below w6.heap.size w6 wz) (fun tw _ => 0)
        case atStart => exact ⟨rfl, by first | exact HBW.out | exact HBW.out.trans ((belN wr _).mono HBW.out.size)⟩
        case round =>
          obtain ⟨rfl, hbz⟩ := hrel
          go_wp2
          go_roundw
          case rel => exact ⟨1, by omega, by go_num, hbz⟩
          case measure => simp [intOf]; omega
      · obtain ⟨m', rfl⟩ : ∃ m', i = m' + 1 := ⟨i - 1, by omega⟩
        obtain ⟨⟨qcd, ⟨qA, qn, qc, qB, qm, qd⟩, qx⟩, hq⟩ : ∃ y, es[m']? = some y := ⟨_, List.getElem?_eq_getElem (by omega)⟩
        obtain ⟨bE', e', _, u0, u1, u2⟩ := HES.out.at_ m' _ hq
        injection e' with e'
        injection e' with e' _ _
        subst e'
        have hqx := HES.out.rx _ (List.mem_of_getElem? hq)
        dsimp only at u0 u1 u2 hqx
        have hyd := HOK.out.den (ycd, yx) (List.mem_map.2 ⟨_, List.mem_of_getElem? HYS.out, rfl⟩)
        have hqd := HOK.out.den (qcd, qx) (List.mem_map.2 ⟨_, List.mem_of_getElem? hq, rfl⟩)
        have hys := x8_sm HOK.out.pos HOK.out.le hyd.1 hyd.2.1
        have hqs := x8_sm HOK.out.pos HOK.out.le hqd.1 hqd.2.1
        have hle : qx ≤ yx := by
          have hp := List.pairwise_iff_getElem.1 HOK.out.up m' (m' + 1) (by simp; omega) (by simp; omega) (by omega)
          simp only [List.getElem_map] at hp
          have g1 := (List.getElem?_eq_some_iff.1 hq).2
          have g2 := (List.getElem?_eq_some_iff.1 HYS.out).2
          rw [g1, g2] at hp
          exact hp
        have hcz := cmpX_le hle
        have hm0 : decide (0 < (m' : Int) + 1) = true := by simp <;> omega
        have hi1 : (m' : Int) + 1 < (es.length : Int) := by omega
        have hi2 : (m' : Int) < (es.length : Int) := by omega
        have hi3 : (0 : Int) ≤ (m' : Int) + 1 := by omega
        have hi4 : (0 : Int) ≤ (m' : Int) := by omega
        have hi5 : m' < es.length := by omega
        have hi6 : (0 : Int) ≤ (m' : Int) + 1 - 1 := by omega
        have hi7 : (m' : Int) + 1 - 1 < (es.length : Int) := by omega
        have hw0 : IntKind.i64.wrap (m' : Int) = (m' : Int) := by simp [IntKind.wrap, IntKind.bits, IntKind.signed]; omega
        have hw1 : IntKind.i64.wrap ((m' : Int) + 1 - 1) = (m' : Int) := by rw [show (m' : Int) + 1 - 1 = m' by omega]; exact hw0
        have HKG := Lib.hid (fun W' (hb' : Below w6.heap.size w6 W') => (⟨((HB56.out.trans (hb'.mono HB56.out.size)).cell (p := ⟨bE, m' * 3 + 1, none⟩) hbE).trans u1, ((HB56.out.trans (hb'.mono HB56.out.size)).cell (p := ⟨bE, m' * 3 + 2, none⟩) hbE).trans u2, (HKF.out W' hb').2.1, (HKF.out W' hb').2.2⟩ : _ ∧ _ ∧ _ ∧ _))
        have HCM := Lib.hid (fun W (g1 : RX W ⟨qA, qn, qc, qB, qm, qd⟩ qx) (g2 : RX W ⟨yA, yn, yc, yB, ym, yd⟩ yx) => xcmp2_any g1 g2 hqs hys)
        unfold Fp.val at HCM
        dsimp only at HCM
        have HRQ := Lib.hid (And.intro (hqx.below (HB56.out.trans (hbw.mono HB56.out.size)) (Nat.le_refl _)) (hyx.below (HB56.out.trans (hbw.mono HB56.out.size)) (Nat.le_refl _)))
        have K0 := HKG.out wr hbw
        generalize hcv : cmpX qx yx = cv at *
        have hcd : decide (0 < cv) = false := by simp; omega
        have HBW := Lib.hid hbw
        clear hbw z0 z1 z2 u0 u1 u2 hqx hyx hyd hqd hys hqs hle hq hcv
        go_upto_region 9 with (fail)
        go_region_held3 (fun W' => W'.cell? ⟨bE, m' * 3 + 1, none⟩ = some (.slice qA qn qc) ∧ W'.cell? ⟨bE, m' * 3 + 2, none⟩ = some (.slice qB qm qd) ∧ W'.cell? ⟨bE, (m' + 1) * 3 + 1, none⟩ = some (.slice yA yn yc) ∧ W'.cell? ⟨bE, (m' + 1) * 3 + 2, none⟩ = some (.slice yB ym yd))
          (first | exact K0 | exact K1)
          (first | (go_at_call 15; go_loud (refine (HCM.out _ ?_ ?_).mono ?_); go_loud (exact HRQ.out.1); go_loud (exact HRQ.out.2); go_loud (rintro e w8 ⟨rfl, hb8⟩); have HB8 := Lib.hid (HBW.out.trans (((Below.refl wr.heap.size wr).drew.trans (hb8.mono (Nat.le_refl wr.heap.size))).mono HBW.out.size)); have K1 := HKG.out w8 HB8.out; clear hb8))
        all_goals
          clear K0 K1
          go_wp2_with fail
          go_loopw [74] (fun tw wz => ∃ (j : Nat), j ≤ m' + 1 ∧ tw = .int .i64 (j : Int) ∧ Below w6.heap.size w6 wz) (fun tw _ => m' + 1 - (intOf tw).toNat)
          case atStart => exact ⟨0, by omega, rfl, HB8.out⟩
          case round =>
            obtain ⟨j, hj, rfl, hbz⟩ := hrel
            by_cases hlt2 : j < m' + 1
            · obtain ⟨⟨tcd, tf, tx⟩, ht⟩ : ∃ y, es[j]? = some y := ⟨_, List.getElem?_eq_getElem (by omega)⟩
              obtain ⟨bE', e', _, u0, _, _⟩ := HES.out.at_ j _ ht
              injection e' with e'
              injection e' with e' _ _
              subst e'
              dsimp only at u0
              have v0 := ((HB56.out.trans (hbz.mono HB56.out.size)).cell (p := ⟨bE, j * 3, none⟩) hbE).trans u0
              have v1 := (HKF.out wr hbz).1
              have hne : tcd ≠ ycd := by
                have hp := List.pairwise_iff_getElem.1 HOK.out.nd j (m' + 1) (by simp; omega) (by simp; omega) hlt2
                simp only [List.getElem_map] at hp
                have g1 := (List.getElem?_eq_some_iff.1 ht).2
                have g2 := (List.getElem?_eq_some_iff.1 HYS.out).2
                rw [g1, g2] at hp
                exact hp
              have e1 : (tcd == ycd) = false := by simp; exact hne
              have e2 : decide (tcd = ycd) = false := by simp; exact hne
              have hjm : (j : Int) < (m' : Int) + 1 := by omega
              have HBZ := Lib.hid hbz
              clear u0 ht hbz
              go_upto_region 14 with (fail)
              go_quiet (fail)
              go_wp2
              go_roundw
              case rel => exact ⟨j + 1, by omega, by go_num, HBZ.out.trans ((belN wr _).mono HBZ.out.size)⟩
              case measure => simp [intOf]; omega
            · have hjm : ¬ (j : Int) < (m' : Int) + 1 := by omega
              go_wp2
              go_roundw
              case rel => exact ⟨m' + 2, by omega, by go_num, hbz⟩
              case measure => simp [intOf]; omega
    · have HBW := Lib.hid hbw
      have hk7 := HK6.out.below hbw hgl
      have x0 := hk7.cell 0
      have x1 := hk7.cell 1
      simp at x0 x1
      clear hbw hk7
      go_wp2_with fail
      clear x0 x1
      go_loopw [93] (fun tv wo => ∃ (i : Nat), i ≤ n ∧ tv = .int .i64 (i : Int) ∧ Below w6.heap.size w6 wo) (fun tv _ => n - (intOf tv).toNat)
      case atStart => exact ⟨0, by omega, rfl, HBW.out⟩
      case round =>
        obtain ⟨i, hi, rfl, hbo⟩ := hrel
        clear HBW
        by_cases hlt : i < n
        · obtain ⟨b, o, v, rfl, hbb, hve, ok, ri, c0, c1, c2⟩ := HV.out.at_ hlt
          have hb60 := HB6.out.trans (hbo.mono HB6.out.size)
          have d0 := (hb60.cell (p := ⟨b, o + i * 3, none⟩) hbb).trans c0
          have d1 := (hb60.cell (p := ⟨b, o + i * 3 + 1, none⟩) hbb).trans c1
          have d2 := (hb60.cell (p := ⟨b, o + i * 3 + 2, none⟩) hbb).trans c2
          have hk7 := HK6.out.below hbo hgl
          have x0 := hk7.cell 0
          have x1 := hk7.cell 1
          simp at x0 x1
          have HVM := Lib.hid (List.mem_of_getElem? hve)
          have hst := ok.1
          have HA7 := Lib.hid (show Below wr.heap.size wr (wr.alloc (.cells #[.int .i64 v.id, .int .u64 (v.st : Int), .slice v.a v.n v.c] 43)) from (Below.refl _ _).alloc (Nat.le_refl _) _)
          have HY7 := Lib.hid (KB.new wr 43 #[.int .i64 v.id, .int .u64 (v.st : Int), .slice v.a v.n v.c])
          have HB7 := Lib.hid (hb60.trans (HA7.out.mono hb60.size))
          have HB57 := Lib.hid ((HB56.out.trans (hbo.mono HB56.out.size)).trans (HA7.out.mono (HB56.out.trans (hbo.mono HB56.out.size)).size))
          have HK7 := Lib.hid (hk7.below HA7.out hk7.lt)
          have HW7 := Lib.hid (hbo.trans (HA7.out.mono hbo.size))
          have HPD := Lib.hid (show vs.Pairwise (fun u w => u.id ≠ w.id) from List.pairwise_map.1 HFD.out.2.2.2.2.2)
          have hii : (i : Int) < (n : Int) := by omega
          have hQg : w.heap.size < wr.heap.size := hk7.lt
          clear c0 c1 c2 hve ok ri hb60 hbo hk7
          go_upto_region 22 with (fail)
          generalize hw7 : (wr.alloc (.cells #[.int .i64 v.id, .int .u64 (v.st : Int), .slice v.a v.n v.c] 43)) = w7 at *
          have HSZ := Lib.hid (show w7.heap.size = wr.heap.size + 1 by rw [← hw7]; simp)
          clear hw7 x0 x1 d0 d1 d2
          generalize hQ : wr.heap.size = Q at *
          have HKS := Lib.hid (fun W' (hb' : Below w7.heap.size w7 W') => (⟨by simpa using (HK7.out.below hb' HK7.out.lt).cell 0, by simpa using (HK7.out.below hb' HK7.out.lt).cell 1, by simpa using (HY7.out.below hb' HY7.out.lt).cell 0, by simpa using (HY7.out.below hb' HY7.out.lt).cell 1⟩ : W'.cell? ⟨w.heap.size, 0, none⟩ = some (.slice (some ⟨b, o, none⟩) n c) ∧ W'.cell? ⟨w.heap.size, 1, none⟩ = some (.slice B m d) ∧ W'.cell? ⟨Q, 0, none⟩ = some (.int .i64 v.id) ∧ W'.cell? ⟨Q, 1, none⟩ = some (.int .u64 (v.st : Int))))
          go_wp2_with fail
          refine (xof_any 0 w7 (by omega)).mono ?_
          rintro e w8 ⟨⟨A8, n8, c8, B8, m8, d8⟩, rfl, hf8, hb8⟩
          unfold Fp.val
          dsimp only
          have hA9 : Below w8.heap.size w8 (w8.alloc (.cells #[.slice A8 n8 c8, .slice B8 m8 d8] 38)) := (Below.refl _ _).alloc (Nat.le_refl _) _
          have HS9 := Lib.hid (Bs.new w8 38 (.slice A8 n8 c8) (.slice B8 m8 d8))
          have HB9 := Lib.hid (hb8.trans (hA9.mono hb8.size))
          have HF9 := Lib.hid (hf8.below hA9)
          have hS7 := hb8.size
          clear hA9 hb8 hf8
          go_wp2_with fail
          generalize hq9 : w8.alloc (.cells #[.slice A8 n8 c8, .slice B8 m8 d8] 38) = w9 at *
          generalize hS9 : w8.heap.size = S at *
          clear hq9 hS9
          go_loopg [14, 107] ss.length (fun g9 sv tv wz => ∃ (j : Nat) (f : Fp) (sm : Bool), g9 = ss.length - j ∧ j ≤ ss.length ∧ tv = .int .i64 (j : Int) ∧ sv = .bool sm ∧ Bs wz 38 S (.slice f.A f.n f.c) (.slice f.B f.m f.d) ∧ NX wz w7.heap.size f (sumR (ownQ v.id (ss.take j))) ∧ (sm = true ↔ ∃ t ∈ ss.take j, t.v = v.id) ∧ Below w7.heap.size w7 wz)
          case atStart => exact ⟨0, ⟨A8, n8, c8, B8, m8, d8⟩, false, by omega, by omega, rfl, rfl, HS9.out, HF9.out, by simp, HB9.out⟩
          case round =>
            obtain ⟨j, ⟨fA, fn, fc, fB, fm, fd⟩, sm, hg9, hj, rfl, rfl, hS1, hf, hsm, hbz⟩ := hrel
            dsimp only at hS1
            clear HS9 HB9 HF9
            by_cases hlt4 : j < ss.length
            · obtain ⟨t, ht⟩ : ∃ t, ss[j]? = some t := ⟨_, List.getElem?_eq_getElem hlt4⟩
              obtain ⟨b', o', s', rfl, hbl, hs', c0, c1, c2, c3, r0, r1⟩ := HHR.out.at_ hlt4
              rw [List.getElem?_map, ht] at hs'
              obtain rfl : t.wh = s' := by simpa using hs'
              have hb5z := HB57.out.trans (hbz.mono HB57.out.size)
              have hrt : RX wr t.f t.x := ⟨r0.below hb5z, r1.below hb5z⟩
              have htm := List.mem_of_getElem? ht
              obtain ⟨hsmk, hsmt⟩ := own_sm HSR.out HPD.out HVM.out hst HOK.out j
              have hts := take_some_succ (i := v.id) ht
              have htk := ownQ_take_succ ht v.id
              have hsmt' := hsmt t htm
              obtain ⟨tv, tc, ⟨tA, tn, tcc, tB, tm, td⟩, tx⟩ := t
              dsimp only at hrt hts htk hsmt'
              unfold Sh.wh at c0 c1 c2 c3
              dsimp only at c0 c1 c2 c3
              have HKF := Lib.hid (fun W' (hb' : Below w5.heap.size w5 W') => (⟨(hb'.cell (p := ⟨b', o' + j * 4 + 2, none⟩) hbl).trans c2, (hb'.cell (p := ⟨b', o' + j * 4 + 3, none⟩) hbl).trans c3⟩ : _ ∧ _))
              have d0 := (hb5z.cell (p := ⟨b', o' + j * 4, none⟩) hbl).trans c0
              have y0 := (HKS.out wr hbz).2.2.1
              have hji : (j : Int) < (ss.length : Int) := by omega
              have HZ := Lib.hid (And.intro hS1 (And.intro hf (And.intro hbz hb5z)))
              have HT := Lib.hid (And.intro hts hsm)
              have HSK := Lib.hid (And.intro hsmk hrt)
              have HTK := Lib.hid htk
              have HSZT := Lib.hid hsmt'
              have hSlt := hS1.lt
              clear c0 c1 c2 c3 r0 r1 hS1 hf hbz hb5z hts hsm hsmk hrt htk hsmt' hsmt htm ht hs'
              go_upto_region 27 with (fail)
              by_cases he : tv = v.id
              · have e1 : (tv == v.id) = true := by simp [he]
                have e2 : decide (tv = v.id) = true := by simp [he]
                go_quiet (fail)
                clear d0 y0 e1 e2
                rw [if_pos he] at HTK
                have hADD := fun W (g1 : RX W ⟨fA, fn, fc, fB, fm, fd⟩ (sumR (ownQ v.id (ss.take j)))) (g2 : RX W ⟨tA, tn, tcc, tB, tm, td⟩ tx) => xadd2_any g1 g2 HSK.out.1 (HSZT.out he)
                have HADD := Lib.hid hADD
                unfold Fp.val at HADD
                dsimp only at HADD
                obtain ⟨x0, x1⟩ := HZ.out.1.cells
                have K0 := HKF.out wr HZ.out.2.2.2
                clear hADD
                go_upto_region 29 with (fail)
                obtain ⟨y2, y3⟩ := K0
                go_region_with (go_at_call 17; go_loud (refine (HADD.out _ ?_ ?_).mono ?_); go_loud (exact (show RX wr _ _ from HZ.out.2.1.rx)); go_loud (exact (show RX wr _ _ from HSK.out.2)); go_loud (rintro e w12 ⟨⟨A4, n4, c4, B4, m4, d4⟩, rfl, hf4, hb4⟩); have HB4 := Lib.hid ((belN wr _).drew.trans (hb4.mono (Nat.le_refl wr.heap.size))); have hS4 := HZ.out.1.below HB4.out hSlt; have HS4 := Lib.hid hS4; have x2 := hS4.cells.1; have x3 := hS4.cells.2; have z0 := hS4.frozen 0; have z1 := hS4.frozen 1; have HF4 := Lib.hid hf4; clear hb4 hf4 hS4; unfold Fp.val; dsimp only)
                all_goals
                  have hnx := (HF4.out.put2 (u := .slice A4 n4 c4) (v := .slice B4 m4 d4) (show S < _ from hSlt)).mono HZ.out.2.2.1.size
                  have HN := Lib.hid (And.intro (put2_bs (u := .slice A4 n4 c4) (v := .slice B4 m4 d4) HS4.out) (And.intro hnx (put2_below (u := .slice A4 n4 c4) (v := .slice B4 m4 d4) (HZ.out.2.2.1.trans (HB4.out.mono HZ.out.2.2.1.size)) hS7)))
                  clear x0 x1 x2 x3 y2 y3 z0 z1 hnx
                  go_wp2
                  go_roundg (ss.length - (j + 1))
                  case measure => omega
                  case rel => exact ⟨j + 1, ⟨A4, n4, c4, B4, m4, d4⟩, true, rfl, by omega, by go_num, rfl, HN.out.1, by rw [HTK.out, sumR_snoc]; exact HN.out.2.1, by rw [HT.out.1]; simp [he], HN.out.2.2⟩
              · have e1 : (tv == v.id) = false := by simp; omega
                have e2 : decide (tv = v.id) = false := by simp; omega
                go_quiet (fail)
                rw [if_neg he, List.append_nil] at HTK
                go_wp2
                go_roundg (ss.length - (j + 1))
                case measure => omega
                case rel => exact ⟨j + 1, ⟨fA, fn, fc, fB, fm, fd⟩, sm, rfl, by omega, by go_num, rfl, HZ.out.1, by rw [HTK.out]; exact HZ.out.2.1, by rw [HT.out.1, HT.out.2]; simp [he], HZ.out.2.2.1.trans ((belN wr _).mono HZ.out.2.2.1.size)⟩
            · obtain rfl : j = ss.length := by omega
              rw [List.take_length] at hf hsm
              obtain ⟨x0, x1⟩ := hS1.cells
              have hkq := HKS.out wr hbz
              have HBZ := Lib.hid hbz
              cases sm with
              | true =>
                have HSM4 := Lib.hid hsm
                rw [own_all HSR.out HPD.out HVM.out HOK.out (hsm.1 rfl)] at hf
                have HF := Lib.hid hf
                have HFR := Lib.hid (fun W => xfrac_any v.st W hst)
                have hSlt := hS1.lt
                have HS1 := Lib.hid hS1
                have HKF := Lib.hid (fun W' (hb' : Below wr.heap.size wr W') => And.intro (HS1.out.below hb' hSlt).cells.1 (And.intro (HS1.out.below hb' hSlt).cells.2 (HKS.out W' (HBZ.out.trans (hb'.mono HBZ.out.size))).2.2.2))
                have K0 := HKF.out wr (Below.refl _ _)
                clear hbz hf hsm x0 x1 hkq hS1
                go_upto_region 31 with (fail)
                go_region_held3 (fun W' => W'.cell? ⟨S, 0, none⟩ = some (.slice fA fn fc) ∧ W'.cell? ⟨S, 1, none⟩ = some (.slice fB fm fd) ∧ W'.cell? ⟨Q, 1, none⟩ = some (.int .u64 (v.st : Int)))
                  (first | exact K0 | exact K1 | exact K2)
                  (first
                    | (go_at_call 19; go_loud (refine (HFR.out _).mono ?_); go_loud (rintro e w13 ⟨⟨A3, n3, c3, B3, m3, d3⟩, rfl, hf3, hb3⟩); unfold Fp.val; dsimp only; have HB13 := Lib.hid ((Below.refl wr.heap.size wr).drew.trans (hb3.mono (Nat.le_refl wr.heap.size))); have HF13 := Lib.hid (And.intro hf3.rx (HF.out.rx.below HB13.out (Nat.le_refl _))); have K1 := HKF.out w13 HB13.out; clear hb3 hf3)
                    | (go_at_call 18; go_loud (refine (sameX_any (x := (v.st : Rat)) ?_ ?_).mono ?_); go_loud (exact HF13.out.2); go_loud (exact HF13.out.1); go_loud (rintro e w14 ⟨rfl, hb14⟩); go_loud (have HB14 := Lib.hid (HB13.out.trans (hb14.mono HB13.out.size))); have K2 := HKF.out w14 HB14.out; clear hb14))
                all_goals
                  have HBX := Lib.hid (HBZ.out.trans (HB14.out.mono HBZ.out.size))
                  clear K0 K1 K2
                  go_wp2_with fail
                  go_loopw [140] (fun tw wq => ∃ (j : Nat), j ≤ es.length ∧ tw = .int .i64 (j : Int) ∧ Below w7.heap.size w7 wq) (fun tw _ => es.length - (intOf tw).toNat)
                  case atStart => exact ⟨0, by omega, rfl, by first | exact HBX.out | exact HBZ.out.trans ((belN wr _).mono HBZ.out.size)⟩
                  case round =>
                    obtain ⟨j, hj, rfl, hbq⟩ := hrel
                    by_cases hlt5 : j < es.length
                    · obtain ⟨⟨ycd, yf, yx⟩, hy⟩ : ∃ y, es[j]? = some y := ⟨_, List.getElem?_eq_getElem hlt5⟩
                      obtain ⟨bE, rfl, hbE, z0, _, _⟩ := HES.out.at_ j _ hy
                      dsimp only at z0
                      have hem : (ycd, yx) ∈ es.map Se.out := List.mem_map.2 ⟨_, List.mem_of_getElem? hy, rfl⟩
                      have hcm : ycd ∈ cs := ((supR_mem HFD.out).1 (HOK.out.mem _ hem)).1
                      obtain ⟨r, hr⟩ : ∃ r, apv v ycd = r := ⟨_, rfl⟩
                      have HRS := Lib.hid trivial
                      have hAp := fun W' (hb' : Below w7.heap.size w7 W') => approves10_any ⟨some ⟨b, o, none⟩, n, c, B, m, d, vs, cs⟩ v ycd W' (HIN.out.below (HB7.out.trans (hb'.mono HB7.out.size)) (Nat.le_refl _)) HFD.out HVM.out hcm
                      rw [hr] at hAp
                      have HAP := Lib.hid hAp
                      unfold Sn.val at HAP
                      dsimp only at HAP
                      have HKQ := Lib.hid (fun W' (hb' : Below w7.heap.size w7 W') => (⟨(HKS.out W' hb').1, (HKS.out W' hb').2.1, (HKS.out W' hb').2.2.1, ((HB57.out.trans (hb'.mono HB57.out.size)).cell (p := ⟨bE, j * 3, none⟩) hbE).trans z0⟩ : _ ∧ _ ∧ _ ∧ _))
                      have K0 := HKQ.out wr hbq
                      have HBQ := Lib.hid hbq
                      have hji : (j : Int) < (es.length : Int) := by omega
                      clear hAp hr z0 hy hem hcm hbq
                      cases r with
                      | true =>
                        go_upto_region 36 with (fail)
                        go_region_held3 (fun W' => W'.cell? ⟨w.heap.size, 0, none⟩ = some (.slice (some ⟨b, o, none⟩) n c) ∧ W'.cell? ⟨w.heap.size, 1, none⟩ = some (.slice B m d) ∧ W'.cell? ⟨Q, 0, none⟩ = some (.int .i64 v.id) ∧ W'.cell? ⟨bE, j * 3, none⟩ = some (.int .i64 ycd))
                          (first | exact K0 | exact K1)
                          (first | (go_at_call 20; go_loud (refine (HAP.out _ ?_).mono ?_); go_loud (exact HBQ.out.drew); go_loud (rintro e w12 ⟨rfl, hb12⟩); have HB12 := Lib.hid (HBQ.out.trans (((Below.refl wr.heap.size wr).drew.trans (hb12.mono (Nat.le_refl wr.heap.size))).mono HBQ.out.size)); have K1 := HKQ.out w12 HB12.out; clear hb12))
                        all_goals
                          clear K0 K1
                          go_wp2
                          go_roundw
                          case rel => exact ⟨j + 1, by omega, by go_num, HB12.out⟩
                          case measure => simp [intOf]; omega
                      | false =>
                        go_upto_region 36 with (fail)
                        first
                          | (go_region_held (fun W' => W'.cell? ⟨w.heap.size, 0, none⟩ = some (.slice (some ⟨b, o, none⟩) n c) ∧ W'.cell? ⟨w.heap.size, 1, none⟩ = some (.slice B m d) ∧ W'.cell? ⟨Q, 0, none⟩ = some (.int .i64 v.id) ∧ W'.cell? ⟨bE, j * 3, none⟩ = some (.int .i64 ycd)) (first | exact K0 | exact K1) (first | (go_at_call 20; go_loud (refine (HAP.out _ ?_).mono ?_); go_loud (exact HBQ.out.drew); go_loud (rintro e w12 ⟨rfl, hb12⟩); have HB12 := Lib.hid (HBQ.out.trans (((Below.refl wr.heap.size wr).drew.trans (hb12.mono (Nat.le_refl wr.heap.size))).mono HBQ.out.size)); have K1 := HKQ.out w12 HB12.out; clear hb12)))
                          | fail "held"
                        all_goals
                          clear K0 K1
                          go_wp2
                          go_roundw
                          case rel => exact ⟨j + 1, by omega, by go_num, HB12.out⟩
                          case measure => simp [intOf]; omega
                    · go_wp2
                      go_roundw
                      case rel => exact ⟨i + 1, by omega, by go_num, HW7.out.trans (hbq.mono HW7.out.size)⟩
                      case measure => simp [intOf]; omega

              | false =>
                have HSM4 := Lib.hid hsm
                clear hbz hf hsm
                go_upto_region 31 with (fail)
                go_quiet (fail)
                have HBX := Lib.hid (HBZ.out.trans ((belN wr 0).mono HBZ.out.size))
                clear x0 x1 hkq
                go_wp2_with fail
                go_loopw [140] (fun tw wq => ∃ (j : Nat), j ≤ es.length ∧ tw = .int .i64 (j : Int) ∧ Below w7.heap.size w7 wq) (fun tw _ => es.length - (intOf tw).toNat)
                case atStart => exact ⟨0, by omega, rfl, by first | exact HBX.out | exact HBZ.out.trans ((belN wr _).mono HBZ.out.size)⟩
                case round =>
                  obtain ⟨j, hj, rfl, hbq⟩ := hrel
                  by_cases hlt5 : j < es.length
                  · obtain ⟨⟨ycd, yf, yx⟩, hy⟩ : ∃ y, es[j]? = some y := ⟨_, List.getElem?_eq_getElem hlt5⟩
                    obtain ⟨bE, rfl, hbE, z0, _, _⟩ := HES.out.at_ j _ hy
                    dsimp only at z0
                    have hem : (ycd, yx) ∈ es.map Se.out := List.mem_map.2 ⟨_, List.mem_of_getElem? hy, rfl⟩
                    have hcm : ycd ∈ cs := ((supR_mem HFD.out).1 (HOK.out.mem _ hem)).1
                    obtain ⟨r, hr⟩ : ∃ r, apv v ycd = r := ⟨_, rfl⟩
                    have HRS := Lib.hid (show r = true → false = true from fun h1 => HSM4.out.2 (own_some HSR.out HPD.out HVM.out ⟨_, hem, by rw [← h1]; exact hr⟩))
                    have hAp := fun W' (hb' : Below w7.heap.size w7 W') => approves10_any ⟨some ⟨b, o, none⟩, n, c, B, m, d, vs, cs⟩ v ycd W' (HIN.out.below (HB7.out.trans (hb'.mono HB7.out.size)) (Nat.le_refl _)) HFD.out HVM.out hcm
                    rw [hr] at hAp
                    have HAP := Lib.hid hAp
                    unfold Sn.val at HAP
                    dsimp only at HAP
                    have HKQ := Lib.hid (fun W' (hb' : Below w7.heap.size w7 W') => (⟨(HKS.out W' hb').1, (HKS.out W' hb').2.1, (HKS.out W' hb').2.2.1, ((HB57.out.trans (hb'.mono HB57.out.size)).cell (p := ⟨bE, j * 3, none⟩) hbE).trans z0⟩ : _ ∧ _ ∧ _ ∧ _))
                    have K0 := HKQ.out wr hbq
                    have HBQ := Lib.hid hbq
                    have hji : (j : Int) < (es.length : Int) := by omega
                    clear hAp hr z0 hy hem hcm hbq
                    cases r with
                    | true => exact absurd (HRS.out rfl) (by simp)
                    | false =>
                      go_upto_region 36 with (fail)
                      first
                        | (go_region_held (fun W' => W'.cell? ⟨w.heap.size, 0, none⟩ = some (.slice (some ⟨b, o, none⟩) n c) ∧ W'.cell? ⟨w.heap.size, 1, none⟩ = some (.slice B m d) ∧ W'.cell? ⟨Q, 0, none⟩ = some (.int .i64 v.id) ∧ W'.cell? ⟨bE, j * 3, none⟩ = some (.int .i64 ycd)) (first | exact K0 | exact K1) (first | (go_at_call 20; go_loud (refine (HAP.out _ ?_).mono ?_); go_loud (exact HBQ.out.drew); go_loud (rintro e w12 ⟨rfl, hb12⟩); have HB12 := Lib.hid (HBQ.out.trans (((Below.refl wr.heap.size wr).drew.trans (hb12.mono (Nat.le_refl wr.heap.size))).mono HBQ.out.size)); have K1 := HKQ.out w12 HB12.out; clear hb12)))
                        | fail "held"
                      all_goals
                        clear K0 K1
                        go_wp2
                        go_roundw
                        case rel => exact ⟨j + 1, by omega, by go_num, HB12.out⟩
                        case measure => simp [intOf]; omega
                  · go_wp2
                    go_roundw
                    case rel => exact ⟨i + 1, by omega, by go_num, HW7.out.trans (hbq.mono HW7.out.size)⟩
                    case measure => simp [intOf]; omega

        · go_wp2
          go_ret
          exact ⟨rfl, HB6.out.trans (hbo.mono HB6.out.size)⟩
end Go.Proofs.YtehekjlakegkpaaGreat
end
section
namespace Go.Proofs.YtehekjlakegkpaaGreat.phragmenRises
open Go.ChangeShapes Go.WideShapes Go.ChangeAt Go.RowKit
open Go.ChangeMaps (open_string shut_string)
set_option linter.unusedVariables false

theorem own : ownKnob Tryz.prog.godebug = none := by kernel_rfl
theorem laidOut : laidOutB Tryz.prog = true := by kernel_rfl

set_option maxRecDepth 100000 in
theorem lifted (os : Os) (started : os.Started) (H : Type) (enc : TypeId × Value → H) :
    ReturnsInHanded {} Tryz.checked os 3 .any (Rows.phragmenRisesSpec.pre6 enc Tryz.prog Tryz.f3 Rows.phragmenRisesRow.domain false) (Rows.phragmenRisesSpec.post enc Tryz.prog Tryz.f3 false true false false) := by
  refine returnsInHanded_of_change (C := Tryz.checked) own started (by kernel_rfl) Tryz.func3
    (ChangeSpec.witness6 (enc := enc) (C := Tryz.checked) false ⟨#[], #[.agg #[.slice none 0 0, .slice none 0 0], .int .u8 0], []⟩ 8 (by kernel_rfl) (by kernel_rfl) (by kernel_rfl) (by kernel_rfl)) ?_
  intro W base args ds gs before hval0 hW hcnd _
  have hval : ∀ (j : Nat) t v, Tryz.f3.params[j]? = some t → args[j]? = some v → Value.okWide Tryz.prog W .any base t v := hval0
  have hW' := hW
  obtain ⟨p, q, hA0, hV, rfl, hfz, hnd⟩ := hW
  have hA : DataW.TrodAll enc Tryz.prog W 0 (fun _ => true) true Tryz.f3.params.toList args.toList ds p := hA0
  rw [Tryz.params3] at hA hval
  obtain ⟨v0, vs0, d0, ds0, p0', q0', hargs, rfl, rfl, h0, r0⟩ := trodAll_cons hA
  obtain ⟨v1, vs1, d1, ds1, p1', q1', rfl, rfl, rfl, h1, r1⟩ := trodAll_cons r0
  obtain ⟨rfl, rfl, rfl⟩ := trodAll_nil r1
  obtain rfl : args = #[v0, v1] := by cases args; simp_all
  obtain ⟨rfl, rfl⟩ := trodVars_none hV
  have k0 := h0
  have lt0 : ∀ x ∈ p0', x.block < W.heap.size := by obtain ⟨m, hm⟩ := k0; exact DataW.trod_lt m _ _ _ hm
  obtain ⟨f0, g0, s0', t0, u0, rfl, _, _, hf0, hg0⟩ := Go.Joins.open_agg2 Tryz.underlying25 (by kernel_rfl) (by kernel_rfl) (hval 0 25 v0 rfl rfl) h0
  obtain ⟨A0, n0, c0, vs0', rfl, hv0⟩ := open_rv hf0
  obtain ⟨B0, m0, e0, cs0, rfl, hc0⟩ := open_ri hg0
  obtain ⟨a1, rfl, rfl, rfl, w1⟩ := open_int Tryz.underlying5 (hval 1 5 v1 rfl rfl) h1
  obtain ⟨N1, rfl⟩ := Int.eq_ofNat_of_zero_le (bounds_u8 w1).1
  clear hA0 hval0
  refine (prises_walk ⟨A0, n0, c0, B0, m0, e0, vs0', cs0⟩ N1 W ⟨hv0, hc0⟩ (by have := (bounds_u8 w1).2; omega)).mono fun e W' ⟨he, bel⟩ => ?_
  subst he
  exact ⟨_, rfl, _, _, _, [], _, [], hW', trodAll_mk1 (shut_bool Tryz.underlying4 _), (trodAll_cons_mk (Below.trod laidOut (by kernel_rfl) (of_decide_eq_true (by kernel_rfl)) k0 bel lt0) (trodAll_cons_mk (shut_int Tryz.underlying5 w1) trodAll_mk0)), rfl, bel.frame _, fun h => by cases h⟩

theorem over : Rows.phragmenRisesRow.holds Tryz.pinned (OpenSpec.ofChange Rows.phragmenRisesSpec) :=
  OpenClaim.holds_of_wide 3 Tryz.f3 rfl rfl rfl rfl rfl rfl rfl ⟨rfl, rfl, rfl, rfl, rfl⟩ rfl rfl rfl rfl rfl (by kernel_rfl) Tryz.func3 (by kernel_rfl)
    (of_decide_eq_true (by kernel_rfl)) (by unfold Func.isWrapper; first | (rw [if_pos (by decide +kernel)]; kernel_rfl) | (rw [if_neg (by decide +kernel)]; exact ⟨rfl, rfl⟩))
    (fun os started H enc _ => lifted os started H enc)

theorem proved : Rows.PhragmenRisesSaid := over
end Go.Proofs.YtehekjlakegkpaaGreat.phragmenRises
namespace Go.Proofs.YtehekjlakegkpaaGreat
theorem phragmenRises_holds : Rows.PhragmenRisesSaid := phragmenRises.proved
#print axioms phragmenRises_holds
end Go.Proofs.YtehekjlakegkpaaGreat
end
