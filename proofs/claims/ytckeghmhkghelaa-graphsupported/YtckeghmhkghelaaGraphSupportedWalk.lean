/-
  The walk of the law GraphSupported: it returns true, whatever the snapshot, and writes nothing that was there.
-/
import Derived.Test.YtckeghmhkghelaaQwake
import Derived.Deep.LoopGhost
namespace Go.Proofs.Ytckeghmhkghelaa
open Go.RowKit
set_option linter.unusedVariables false

/-- In a snapshot that is well formed a voter is among those that approve just if it approves. -/
theorem mem_apM {vs : List Vr} {cs : List Int} (h : Fd vs cs) {v : Vr} (hv : v ∈ vs) {x : Int} (hx : x ∈ cs) : decide (v.id ∈ ints (apM vs cs x)) = apv v x := by
  have hid : ∀ u ∈ vs, u.id = (u.id.toNat : Int) := fun u hu => by have := h.2.2.2.2.1 u hu; omega
  rw [show apM vs cs x = apN vs x from if_pos ⟨h, hx⟩]
  rw [Bool.eq_iff_iff, decide_eq_true_iff, hid v hv, mem_ints]
  unfold apN
  rw [List.mem_map]
  constructor
  · rintro ⟨u, hu, e⟩
    obtain ⟨hu1, hu2⟩ := List.mem_filter.1 hu
    have he : u.id = v.id := by have := hid u hu1; have := hid v hv; omega
    have hnd := h.2.2.2.2.2
    obtain rfl : u = v := by
      unfold idl at hnd
      obtain ⟨i, hi, rfl⟩ := List.mem_iff_getElem.1 hu1
      obtain ⟨j, hj, rfl⟩ := List.mem_iff_getElem.1 hv
      have hp := List.pairwise_iff_getElem.1 hnd
      rcases Nat.lt_trichotomy i j with h1 | h1 | h1
      · exact absurd (by rw [List.getElem_map, List.getElem_map]; exact he) (hp i j (by rw [List.length_map]; exact hi) (by rw [List.length_map]; exact hj) h1)
      · subst h1; rfl
      · exact absurd (by rw [List.getElem_map, List.getElem_map]; exact he.symm) (hp j i (by rw [List.length_map]; exact hj) (by rw [List.length_map]; exact hi) h1)
    exact hu2
  · intro ha; exact ⟨v, List.mem_filter.2 ⟨hv, ha⟩, rfl⟩
theorem len_apM {vs : List Vr} {cs : List Int} (h : Fd vs cs) {x : Int} (hx : x ∈ cs) : decide (0 < (apM vs cs x).length) = vs.any fun v => apv v x := by
  rw [show apM vs cs x = apN vs x from if_pos ⟨h, hx⟩]
  unfold apN
  rw [List.length_map, Bool.eq_iff_iff, decide_eq_true_iff, List.length_pos_iff_exists_mem, List.any_eq_true]
  exact ⟨fun ⟨v, hv⟩ => ⟨v, (List.mem_filter.1 hv).1, (List.mem_filter.1 hv).2⟩, fun ⟨v, hv, ha⟩ => ⟨v, List.mem_filter.2 ⟨hv, ha⟩⟩⟩
theorem mem_supM {vs : List Vr} {cs : List Int} (h : Fd vs cs) {x : Int} (hx : x ∈ cs) : decide (x ∈ ints (supM vs cs)) = vs.any fun v => apv v x := by
  have hge : ∀ y ∈ cs, y = (y.toNat : Int) := fun y hy => by
    obtain ⟨j, hj, rfl⟩ := mem_zl.1 hy
    have := h.2.1.ge j hj
    omega
  rw [show supM vs cs = supN vs cs from if_pos h, Bool.eq_iff_iff, decide_eq_true_iff, hge x hx, mem_ints]
  unfold supN
  rw [List.mem_map, ← hge x hx]
  constructor
  · rintro ⟨y, hy, e⟩
    obtain ⟨h1, h2⟩ := List.mem_filter.1 hy
    obtain rfl : y = x := by have := hge y h1; have := hge x hx; omega
    exact h2
  · intro ha; exact ⟨x, List.mem_filter.2 ⟨hx, ha⟩, rfl⟩

set_option maxRecDepth 100000 in
set_option maxHeartbeats 6400000 in
theorem gsup_walk (s : Sn) (w : World) (h : s.In w) : Calls Try.prog 3 #[s.val] w (OutF w true) := by
  obtain ⟨A, n, c, B, m, d, vs, cs⟩ := s
  have hb1 : Below w.heap.size w (w.alloc (.cells #[.slice A n c, .slice B m d] 25)) := (Below.refl _ _).alloc (Nat.le_refl _) _
  have hk1 := KB.new w 25 #[.slice A n c, .slice B m d]
  have HIN := Lib.hid h
  have HV := Lib.hid h.1
  have HC := Lib.hid h.2
  dsimp only at HV HC
  unfold Sn.val
  dsimp only
  have HL := Lib.hid HV.out.len
  have HLc := Lib.hid HC.out.len
  have hcap := HV.out.cap
  have hmax := HV.out.max
  have hcap2 := HC.out.cap
  have hmax2 := HC.out.max
  have HB1 := Lib.hid hb1
  have HK1 := Lib.hid hk1
  clear h hb1 hk1
  go_enter Try.func3, Try.ntmps3
  go_wp2_with fail
  refine (wakeG_any _).mono ?_
  rintro e w2 ⟨rfl, hb2⟩
  have HB2 := Lib.hid (HB1.out.trans (hb2.mono HB1.out.size))
  have HK2 := Lib.hid (HK1.out.below hb2 HK1.out.lt)
  have x0 := HK2.out.cell 0
  have x1 := HK2.out.cell 1
  simp at x0 x1
  have hS := small_any ⟨A, n, c, B, m, d, vs, cs⟩ w2 (HIN.out.below HB2.out (Nat.le_refl _))
  unfold Sn.val at hS
  dsimp only at hS
  clear hb2 HB1 HK1
  go_wp2_with fail
  refine hS.mono ?_
  rintro e w3 ⟨r, rfl, hb3⟩
  have HB3 := Lib.hid (HB2.out.trans (hb3.mono HB2.out.size))
  have HK3 := Lib.hid (HK2.out.below hb3 HK2.out.lt)
  clear hb3 HB2 HK2 x0 x1 hS
  cases r with
  | false =>
    go_wp2_with fail
    refine (wakeG_any _).mono ?_
    rintro e w4 ⟨rfl, hb4⟩
    go_wp2
    go_ret
    exact ⟨rfl, HB3.out.trans (hb4.mono HB3.out.size)⟩
  | true =>
    have x0 := HK3.out.cell 0
    have x1 := HK3.out.cell 1
    simp at x0 x1
    have hF := formedG_any ⟨A, n, c, B, m, d, vs, cs⟩ w3 (HIN.out.below HB3.out (Nat.le_refl _))
    unfold Sn.val at hF
    dsimp only at hF
    by_cases hfd : Fd vs cs
    · rw [decide_eq_true hfd] at hF
      go_wp2_with fail
      refine hF.mono ?_
      rintro e w4 ⟨rfl, hb4⟩
      have HB4 := Lib.hid (HB3.out.trans (hb4.mono HB3.out.size))
      have HK4 := Lib.hid (HK3.out.below hb4 HK3.out.lt)
      clear hb4 HB3 HK3 x0 x1 hF
      have x0 := HK4.out.cell 0
      have x1 := HK4.out.cell 1
      simp at x0 x1
      have hP := supported_any ⟨A, n, c, B, m, d, vs, cs⟩ w4 (HIN.out.below HB4.out (Nat.le_refl _))
      unfold Sn.val at hP
      dsimp only at hP
      go_wp2_with fail
      refine hP.mono ?_
      rintro e w5 ⟨AL, nl, cl, rfl, hO, hb5⟩
      have HB5 := Lib.hid (HB4.out.trans (hb5.mono HB4.out.size))
      have HK5 := Lib.hid (HK4.out.below hb5 HK4.out.lt)
      have HRL := Lib.hid (ri_of_rk hO.rk (supM_bl vs cs))
      have HIN5 := Lib.hid (HIN.out.below HB5.out (Nat.le_refl _))
      have hnl : nl = (supM vs cs).length := hO.len.symm
      have hnl32 : nl ≤ 32 := by rw [hnl]; exact supM_len vs cs
      have HNL := Lib.hid hnl
      have hlc1 := hO.rk.cap
      have hlc2 := hO.rk.max
      clear hnl hb5 HB4 HK4 x0 x1 hP hO
      have x0 := HK5.out.cell 0
      have x1 := HK5.out.cell 1
      simp at x0 x1
      go_wp2_with fail
      clear x0 x1
      go_loopw [28] (fun tv wr => ∃ (k : Nat), k ≤ m ∧ tv = .int .i64 (k : Int) ∧ Below w5.heap.size w5 wr) (fun tv _ => m - (intOf tv).toNat)
      case atStart => exact ⟨0, by omega, rfl, Below.refl _ _⟩
      case round =>
        obtain ⟨k, hk, rfl, hbw⟩ := hrel
        have HKw := Lib.hid (HK5.out.below hbw HK5.out.lt)
        have HINw := Lib.hid (HIN5.out.below hbw (Nat.le_refl _))
        have HBW := Lib.hid hbw
        have x0 := HKw.out.cell 0
        have x1 := HKw.out.cell 1
        simp at x0 x1
        by_cases hlt : k < m
        · obtain ⟨b, o, rfl, hbb, hcc⟩ := HINw.out.2.at_ (by dsimp only; omega)
          have d0 := hcc k hlt
          dsimp only at d0
          have hxm : zl cs k ∈ cs := mem_zl.2 ⟨k, by rw [HLc.out]; exact hlt, rfl⟩
          generalize zl cs k = x at d0 hxm
          clear hcc hbw
          go_wp2_with fail
          clear x0 x1 d0
          go_loopw [6, 39] (fun sv tv wr => ∃ (j : Nat), j ≤ n ∧ tv = .int .i64 (j : Int) ∧ sv = .bool ((vs.take j).any fun v => apv v x) ∧ Below w5.heap.size w5 wr) (fun _ tv _ => n - (intOf tv).toNat)
          case atStart => exact ⟨0, by omega, rfl, by simp, HBW.out⟩
          case round =>
            obtain ⟨j, hj, rfl, rfl, hbw⟩ := hrel
            have HKw := Lib.hid (HK5.out.below hbw HK5.out.lt)
            have HINw := Lib.hid (HIN5.out.below hbw (Nat.le_refl _))
            have HBW := Lib.hid hbw
            have x0 := HKw.out.cell 0
            have x1 := HKw.out.cell 1
            simp at x0 x1
            by_cases hlt2 : j < n
            · obtain ⟨bv, ov, v, rfl, hbb2, hve, ok, ri, c0, c1, c2⟩ := HINw.out.1.at_ (by dsimp only; exact hlt2)
              dsimp only at hve
              have hmem := List.mem_of_getElem? hve
              have hap := mem_apM hfd hmem hxm
              have hany : ((vs.take (j + 1)).any fun v => apv v x) = (((vs.take j).any fun v => apv v x) || apv v x) := by
                rw [List.take_add_one, hve, List.any_append]; simp
              have hapd : apv v x = (decide (0 < v.st) && decide (x ∈ v.ps)) := by unfold apv; simp
              have hb7' : Below wr.heap.size wr (wr.alloc (.cells #[.int .i64 v.id, .int .u64 (v.st : Int), .slice v.a v.n v.c] 31)) := (Below.refl _ _).alloc (Nat.le_refl _) _
              have hk7 := KB.new wr 31 #[.int .i64 v.id, .int .u64 (v.st : Int), .slice v.a v.n v.c]
              have hri7 := ri.below hb7' (Nat.le_refl _)
              have HB7 := Lib.hid (HBW.out.trans (hb7'.mono HBW.out.size))
              have HIN7 := Lib.hid (HINw.out.below hb7' (Nat.le_refl _))
              have HK7 := Lib.hid (HKw.out.below hb7' HKw.out.lt)
              obtain ⟨vi, vst, va, vn, vc, vp⟩ := v
              dsimp only at c0 c1 c2 hap hapd hk7 hb7' hri7 HB7 HIN7 HK7
              have HAP := Lib.hid hap
              have HAPD := Lib.hid hapd
              have HANY := Lib.hid hany
              clear hb7' ri ok hve hmem hap hapd hany hbw HKw HINw HBW
              go_upto_region 13 with (fail)
              generalize (wr.alloc (.cells #[.int .i64 vi, .int .u64 (vst : Int), .slice va vn vc] 31)) = w7 at *
              clear x0 x1 c0 c1 c2
              have x0 := HK7.out.cell 0
              have x1 := HK7.out.cell 1
              have y0 := hk7.cell 0
              simp at x0 x1 y0
              have hA := approves_any _ vi x w7 HIN7.out
              unfold Sn.val at hA
              dsimp only at hA
              rw [HAP.out] at hA
              generalize hr : apv ⟨vi, vst, va, vn, vc, vp⟩ x = r at *
              generalize hsb : ((vs.take j).any fun v => apv v x) = sb at *
              go_wp2_with fail
              refine hA.mono ?_
              rintro e w8 ⟨rfl, hb8⟩
              have y1 := (hk7.below hb8 hk7.lt).cell 1
              have y2 := (hk7.below hb8 hk7.lt).cell 2
              simp at y1 y2
              have hH := rhas_any va vn vc vp x w8 (hri7.below hb8 (Nat.le_refl _))
              have HB8 := Lib.hid (HB7.out.trans (hb8.mono HB7.out.size))
              clear x0 x1 y0 hb8 hk7 hri7 HB7 HIN7 HK7 hA hr hsb
              by_cases h0 : 0 < vst
              · have h0' : (0 : Int) < (vst : Int) := by omega
                have hq : decide (x ∈ vp) = r := by rw [HAPD.out]; simp [h0]
                rw [hq] at hH
                clear hq
                cases r with
                | false =>
                  go_wp2_with fail
                  refine hH.mono ?_
                  rintro e w9 ⟨rfl, rfl⟩
                  cases sb
                  all_goals
                    go_wp2
                    go_roundw
                    case rel => exact ⟨j + 1, by omega, by go_num, by rw [HANY.out]; rfl, HB8.out⟩
                    case measure => simp [intOf]; omega
                | true =>
                  go_wp2_with fail
                  refine hH.mono ?_
                  rintro e w9 ⟨rfl, rfl⟩
                  cases sb
                  all_goals
                    go_wp2
                    go_roundw
                    case rel => exact ⟨j + 1, by omega, by go_num, by rw [HANY.out]; rfl, HB8.out⟩
                    case measure => simp [intOf]; omega
              · have h0' : ¬ (0 : Int) < (vst : Int) := by omega
                have hq : r = false := by rw [HAPD.out]; simp [h0]
                subst hq
                cases sb
                all_goals
                  go_wp2
                  go_roundw
                  case rel => exact ⟨j + 1, by omega, by go_num, by rw [HANY.out]; rfl, HB8.out⟩
                  case measure => simp [intOf]; omega
            · obtain rfl : j = n := by omega
              have hal : vs.take j = vs := List.take_of_length_le (by rw [HL.out]; exact Nat.le_refl _)
              have hH := rhas_any AL nl cl (ints (supM vs cs)) x wr (HRL.out.below hbw (Nat.le_refl _))
              rw [mem_supM hfd hxm] at hH
              have hlen := len_apM hfd hxm
              have hA := approvers_any _ x wr HINw.out
              unfold Sn.val at hA
              dsimp only at hA
              rw [hal]
              clear hal hbw
              generalize (vs.any fun v => apv v x) = q at *
              have HLEN := Lib.hid hlen
              clear hlen
              go_wp2_with fail
              refine hH.mono ?_
              rintro e w8 ⟨rfl, rfl⟩
              go_wp2_with fail
              refine hA.mono ?_
              rintro e w9 ⟨A9, n9, c9, rfl, hO9, hb9⟩
              have HB9 := Lib.hid (HBW.out.trans (hb9.mono HBW.out.size))
              have hn9 : decide (0 < n9) = q := by rw [← HLEN.out, hO9.len]
              have hc9 := hO9.rk.cap
              have hm9 := hO9.rk.max
              clear hO9 hb9 x0 x1 hA hH
              cases q with
              | false =>
                have h9 : ¬ (0 : Int) < (n9 : Int) := by have := of_decide_eq_false hn9; omega
                clear hn9
                go_wp2
                go_roundw
                case rel => exact ⟨k + 1, by omega, by go_num, HB9.out⟩
                case measure => simp [intOf]; omega
              | true =>
                have h9 : (0 : Int) < (n9 : Int) := by have := of_decide_eq_true hn9; omega
                have h9n : 0 < n9 := by omega
                have h9d : decide (0 < n9) = true := by simp [h9n]
                clear hn9
                go_wp2
                go_roundw
                case rel => exact ⟨k + 1, by omega, by go_num, HB9.out⟩
                case measure => simp [intOf]; omega
        · obtain rfl : k = m := by omega
          have hle : (nl : Int) ≤ (k : Int) := by
            have h1 : supM vs cs = supN vs cs := if_pos hfd
            have h2 := supN_len vs cs
            rw [HNL.out, h1]
            have := HLc.out
            omega
          have hSe := seats_any _ (nl : Int) wr HINw.out
          unfold Sn.val at hSe
          dsimp only at hSe
          rw [← HNL.out, show seatI (nl : Int) nl = (nl : Int) by unfold seatI; omega] at hSe
          clear hbw
          go_wp2_with fail
          refine hSe.mono ?_
          rintro e w8 ⟨rfl, hb8⟩
          go_wp2
          go_ret
          exact ⟨by simp, HB5.out.trans ((HBW.out.trans (hb8.mono HBW.out.size)).mono HB5.out.size)⟩
    · rw [decide_eq_false hfd] at hF
      go_wp2_with fail
      refine hF.mono ?_
      rintro e w4 ⟨rfl, hb4⟩
      have HB4 := Lib.hid (HB3.out.trans (hb4.mono HB3.out.size))
      go_wp2_with fail
      refine (wakeG_any _).mono ?_
      rintro e w5 ⟨rfl, hb5⟩
      go_wp2
      go_ret
      exact ⟨rfl, HB4.out.trans (hb5.mono HB4.out.size)⟩
end Go.Proofs.Ytckeghmhkghelaa
