/-
  The walk of the law VotersSettle: it returns true, whatever the thresholds and the calls, and writes nothing that was there.
-/
import Derived.Test.YtblclpagfbpamaaVset
import Derived.Deep.LoopGhost
import Derived.Deep.DeepCutAuto
import Derived.Deep.CutBlock
import Derived.BigQuiet
namespace Go.Proofs.Ytblclpagfbpamaa
open Go.RowKit
set_option linter.unusedVariables false

theorem bagM_ris {T : List Nat} (h : Ris T) (s : Nat) : bagM T s = (bagN T s, 0) := if_pos h
set_option maxRecDepth 100000 in
set_option maxHeartbeats 6400000 in
theorem vsettle_walk (P : Option Addr) (n c : Nat) (xs : List Nat) (Q : Option Addr) (m d : Nat) (os : List Cl) (w : World) (h : Rk .u64 w P n c xs) (hX : Bl 18446744073709551616 xs) (ho : IsOps w Q m d os) :
    Calls Try.prog 4 #[.slice P n c, .slice Q m d] w fun e w' => e = .returned (.bool true) ∧ Below w.heap.size w w' := by
  have hlen := h.len
  have hcap := h.cap
  have hmax := h.max
  have hm1 := ho.2.1
  have hm2 := ho.2.2.1
  by_cases hbig : 100 < n ∨ 200 < m
  · have H := Lib.hid h
    have HO := Lib.hid ho
    clear h ho
    rcases Nat.lt_or_ge 100 n with h32 | h32
    · have k1 : (100 : Int) < (n : Int) := by omega
      go_enter Try.func4, Try.ntmps4
      go_wp2_with fail
      refine (wakeV_any _).mono ?_
      rintro e w1 ⟨rfl, hb1⟩
      go_wp2_with fail
      refine (wakeV_any _).mono ?_
      rintro e w2 ⟨rfl, hb2⟩
      go_wp2
      go_ret
      exact ⟨rfl, hb1.trans (hb2.mono hb1.size)⟩
    · have k1 : ¬ (100 : Int) < (n : Int) := by omega
      have k2 : (200 : Int) < (m : Int) := by omega
      go_enter Try.func4, Try.ntmps4
      go_wp2_with fail
      refine (wakeV_any _).mono ?_
      rintro e w1 ⟨rfl, hb1⟩
      go_wp2_with fail
      refine (wakeV_any _).mono ?_
      rintro e w2 ⟨rfl, hb2⟩
      go_wp2
      go_ret
      exact ⟨rfl, hb1.trans (hb2.mono hb1.size)⟩
  · have k1 : ¬ (100 : Int) < (n : Int) := by omega
    have k2 : ¬ (200 : Int) < (m : Int) := by omega
    have HR0 := Lib.hid h
    have HO0 := Lib.hid ho
    have HX := Lib.hid hX
    have HL := Lib.hid hlen
    have n32 : n ≤ 100 := by omega
    have m200 : m ≤ 200 := by omega
    clear h ho hX hlen hbig
    go_enter Try.func4, Try.ntmps4
    go_wp2_with fail
    refine (wakeV_any _).mono ?_
    rintro e w1 ⟨rfl, hb1⟩
    have hN := vnew_any P n c xs w1 (HR0.out.below hb1) HX.out
    have HN := Lib.hid hN
    clear hN
    go_wp2_with fail
    refine HN.out.mono ?_
    rintro e w2 ⟨hb2, ⟨hr, rfl⟩ | ⟨hr, p, rfl, hva⟩⟩
    · have hR := rising_any P n c xs w2 ((HR0.out.below hb1).below hb2) HX.out
      rw [decide_eq_false hr] at hR
      have HRI := Lib.hid hR
      have HB := Lib.hid (hb1.trans (hb2.mono hb1.size))
      clear hR hr HN hb1 hb2
      go_wp2_with fail
      refine HRI.out.mono ?_
      rintro e w3 ⟨rfl, q, rfl⟩
      have HB3 := Lib.hid (below_drewN HB.out q)
      go_wp2
      go_ret
      exact ⟨rfl, HB3.out⟩
    · have hB2 := hb1.trans (hb2.mono hb1.size)
      have hlow : ∀ b o, Q = some ⟨b, o, none⟩ → 0 < m → b < w1.heap.size := fun b o e h0 => by
        have h1 := (HO0.out.2.2.2.2 _ e).1 h0
        have h2 := hb1.size
        exact Nat.lt_of_lt_of_le h1 h2
      have HLOW := Lib.hid hlow
      have HR := Lib.hid hr
      have HVA := Lib.hid hva
      have HB1 := Lib.hid hb1
      have HO := Lib.hid (HO0.out.below hb1 (Nat.le_refl _))
      have HRT := Lib.hid (HR0.out.below hb1)
      have HB12 := Lib.hid hb2
      clear hlow hr hva hB2 HN HR0 HO0 hb1 hb2
      go_wp2_with fail
      go_loopg [45] m (fun gk tv wr => ∃ (i : Nat) (L : List Vt), i + gk = m ∧ tv = .int .i64 (i : Int) ∧ VA w1.heap.size wr p xs L i ∧ L.length ≤ i ∧ Below w1.heap.size w1 wr)
      case atStart => exact ⟨0, _, by omega, rfl, HVA.out, by simp, HB12.out⟩
      case round =>
        obtain ⟨i, L, hi, rfl, hva, hLi, hbw⟩ := hrel
        clear HVA HB12
        by_cases hlt : i < m
        · obtain ⟨b, o, cl, hQe, _, hcl, hok, c0, c1, c2, c3⟩ := HO.out.at_ hlt
          have hbl := HLOW.out b o hQe (by omega)
          subst hQe
          have d0 := (hbw.cell (p := ⟨b, o + i * 4, none⟩) hbl).trans c0
          have d1 := (hbw.cell (p := ⟨b, o + i * 4 + 1, none⟩) hbl).trans c1
          have d2 := (hbw.cell (p := ⟨b, o + i * 4 + 2, none⟩) hbl).trans c2
          have d3 := (hbw.cell (p := ⟨b, o + i * 4 + 3, none⟩) hbl).trans c3
          obtain ⟨ok0, ok1, ok2, ok3⟩ := hok
          obtain ⟨kk, aa, bb, vv⟩ := cl
          dsimp only at d0 d1 d2 d3 ok0 ok1 ok2 ok3
          have bv := bounds_u64 ok3
          obtain ⟨nn, rfl⟩ := Int.eq_ofNat_of_zero_le bv.1
          have hnn : nn < 18446744073709551616 := by omega
          clear c0 c1 c2 c3 hcl
          have b7 : Below wr.heap.size wr (wr.alloc (.cells #[.int .i64 kk, .int .i64 aa, .int .i64 bb, .int .u64 (nn : Int)] 36)) := (Below.refl _ _).alloc (Nat.le_refl _) _
          have kO := KB.new wr 36 #[.int .i64 kk, .int .i64 aa, .int .i64 bb, .int .u64 (nn : Int)]
          have hva7 := hva.below b7
          have hbw7 := hbw.trans (b7.mono (by have := hva.lt; omega))
          have HKO := Lib.hid kO
          have hlmx : L.length < maxLen := by unfold maxLen; omega
          have HC1 := Lib.hid (vins_any hva7 hlmx (by omega) aa ok1 nn hnn)
          have HC2 := Lib.hid (vrem_any hva7 aa ok1)
          have HC3 := Lib.hid (vupd_any hva7 hlmx aa ok1 nn hnn)
          have HC5 := Lib.hid (vfro_any hva7 aa bb ok1 ok2)
          have HB7 := Lib.hid hbw7
          have HVA7 := Lib.hid hva7
          clear hva7 hbw7 kO b7 hva hbw
          go_upto_block 2 with (fail)
          generalize (wr.alloc (.cells #[.int .i64 kk, .int .i64 aa, .int .i64 bb, .int .u64 (nn : Int)] 36)) = w7 at *
          have x1 := HKO.out.cell 1
          have x2 := HKO.out.cell 2
          have x3 := HKO.out.cell 3
          simp at x1 x2 x3
          clear d0 d1 d2 d3
          by_cases e1 : kk = 1
          · subst e1
            go_wp2_with fail
            refine HC1.out.mono ?_
            rintro e w9 ⟨rfl, hT⟩
            have HF := Lib.hid (And.intro hT.va (hT.below_out HB7.out))
            clear hT
            go_wp2
            go_roundg (m - (i + 1))
            case rel => exact ⟨i + 1, _, by omega, by go_num, HF.out.1, by have := insM_len (T := xs) (L := L) aa nn; omega, HF.out.2⟩
            case measure => omega
          · by_cases e2 : kk = 2
            · subst e2
              go_wp2_with fail
              refine HC2.out.mono ?_
              rintro e w9 ⟨rfl, hT⟩
              have HF := Lib.hid (And.intro hT.va (hT.below_out HB7.out))
              clear hT
              go_wp2
              go_roundg (m - (i + 1))
              case rel => exact ⟨i + 1, _, by omega, by go_num, HF.out.1.mono (by omega), by have := remM_len (L := L) aa; omega, HF.out.2⟩
              case measure => omega
            · by_cases e3 : kk = 3
              · subst e3
                go_wp2_with fail
                refine HC3.out.mono ?_
                rintro e w9 ⟨rfl, hT⟩
                have HF := Lib.hid (And.intro hT.va (hT.below_out HB7.out))
                clear hT
                go_wp2
                go_roundg (m - (i + 1))
                case rel => exact ⟨i + 1, _, by omega, by go_num, HF.out.1.mono (by omega), by have := updM_len (L := L) aa nn; omega, HF.out.2⟩
                case measure => omega
              · by_cases e5 : kk = 5
                · subst e5
                  go_wp2_with fail
                  refine HC5.out.mono ?_
                  rintro e w9 ⟨rfl, hT⟩
                  have HF := Lib.hid (And.intro hT.va (hT.below_out HB7.out))
                  clear hT
                  go_wp2
                  go_roundg (m - (i + 1))
                  case rel => exact ⟨i + 1, _, by omega, by go_num, HF.out.1.mono (by omega), by have := froM_len (L := L) aa bb; omega, HF.out.2⟩
                  case measure => omega
                · go_wp2
                  go_roundg (m - (i + 1))
                  case rel => exact ⟨i + 1, L, by omega, by go_num, HVA7.out.mono (by omega), by omega, HB7.out⟩
                  case measure => omega
        · obtain rfl : i = m := by omega
          have hok := hva.ok
          have HLEN := Lib.hid (vlen_any hva)
          have htk : ∀ K : List Vt, K.take ((K.length : Nat) : Int).toNat = K := fun K => by simp
          have ht := vtake_any hva (by omega) (by omega) (L.length : Nat) (wf_mid (g := 200) (by omega) (by omega) (by decide))
          rw [htk] at ht
          have HT := Lib.hid ht
          have HVA := Lib.hid hva
          have HOK := Lib.hid hok
          have HBW := Lib.hid hbw
          have hvl := hva.lt
          have hbz := hbw.size
          have HTK := Lib.hid htk
          clear hva hbw hok ht htk
          go_wp2_with fail
          refine HLEN.out.mono ?_
          rintro e w3 ⟨rfl, rfl⟩
          go_wp2_with fail
          refine HT.out.mono ?_
          rintro e w3 ⟨⟨A, cp, rfl, how⟩, hb3⟩
          have HI := Lib.hid (show Ir w3 wr.heap.size A L.length cp (L.map Vt.id) from ⟨how, by simp⟩)
          have HVA3 := Lib.hid (HVA.out.below hb3)
          have HB3 := Lib.hid (HBW.out.trans (hb3.mono (by omega)))
          obtain ⟨B, hB⟩ : ∃ B, wr.heap.size = B := ⟨_, rfl⟩
          rw [hB] at HI
          clear how hb3 HVA HBW HT HLEN hvl hbz hB
          obtain ⟨N, hN⟩ : ∃ N, L.length = N := ⟨_, rfl⟩
          rw [hN] at HI
          simp only [hN]
          have HN := Lib.hid hN
          have hN2 : N ≤ 200 := by omega
          clear hN
          go_wp2_with fail
          go_loopg [91] N (fun gk tv wr => ∃ (k : Nat) (L2 : List Vt), k + gk = N ∧ tv = .int .i64 (k : Int) ∧ VA w1.heap.size wr p xs L2 (i + k) ∧ (L2.map Vt.id).Perm (L.map Vt.id) ∧ Setd xs L2 ((L.map Vt.id).take k) ∧ Below w1.heap.size w1 wr ∧ Ir wr B A N cp (L.map Vt.id))
          case atStart => exact ⟨0, L, by omega, rfl, HVA3.out, List.Perm.refl _, (fun x _ hx => by simp at hx), HB3.out, HI.out⟩
          case round =>
            obtain ⟨k, L2, hk, rfl, hva, hperm, hset, hbw, hI⟩ := hrel
            clear HI HVA3 HB3
            have hl2 : L2.length = N := by have := hperm.length_eq; simp at this; have := HN.out; omega
            by_cases hlt2 : k < N
            · obtain ⟨g, x, rfl, hc1, hc2, hx, hcell⟩ := hI.at_ hlt2
              have hxw : (Lit.int .i64 x).wf = true := by
                have hmem : x ∈ L.map Vt.id := List.mem_of_getElem? hx
                obtain ⟨y, hy, rfl⟩ := List.mem_map.1 (hperm.mem_iff.2 hmem)
                exact hva.ok.wf y hy
              have HC := Lib.hid (vreb_any hva (by unfold maxLen; omega) (by omega) x hxw)
              have HV := Lib.hid hva
              have HP := Lib.hid (And.intro hperm (And.intro hset hx))
              have HBW := Lib.hid hbw
              have HI2 := Lib.hid hI
              clear hva hperm hset hx hbw hI
              go_wp2_with fail
              refine HC.out.mono ?_
              rintro e w5 ⟨rfl, hT⟩
              have HF := Lib.hid (And.intro hT.va (And.intro (hT.below_out HBW.out) (HI2.out.tw hT.tw)))
              clear hT
              go_wp2
              go_roundg (N - (k + 1))
              case rel =>
                refine ⟨k + 1, _, by omega, by go_num, HF.out.1, (rebM_perm HV.out.ok x).trans HP.out.1, ?_, HF.out.2.1, HF.out.2.2⟩
                intro z hz hzi
                refine rebM_setd HV.out.ok HP.out.2.1 x z hz ?_
                rw [List.take_add_one, HP.out.2.2] at hzi
                simp at hzi ⊢
                exact hzi.symm
              case measure => omega
            · obtain rfl : k = N := by omega
              have hall : ∀ x ∈ L2, x.bag = bagN xs x.st := fun x hx => hset x hx (by
                rw [List.take_of_length_le (by simp [HN.out])]
                exact hperm.mem_iff.1 (List.mem_map_of_mem hx))
              have hva2 := hva
              have ht := vtake_any hva2 (by omega) (by omega) (L2.length : Nat) (wf_mid (g := 200) (by omega) (by omega) (by decide))
              rw [HTK.out] at ht
              have hlen2 := vlen_any hva2
              rw [hl2] at ht hlen2
              have HT := Lib.hid ht
              have HLEN := Lib.hid hlen2
              have HALL := Lib.hid hall
              have HV := Lib.hid hva2
              have HBW := Lib.hid hbw
              have hvl := hva.lt
              have hbz := hbw.size
              have HL2 := Lib.hid hl2
              clear ht hlen2 hall hva hva2 hbw hperm hset hI hl2
              go_wp2_with fail
              refine HLEN.out.mono ?_
              rintro e w3 ⟨rfl, rfl⟩
              go_wp2_with fail
              refine HT.out.mono ?_
              rintro e w4 ⟨⟨A2, cp2, rfl, how⟩, hb4⟩
              obtain ⟨B2, how⟩ : ∃ B2, w4.ownsRow B2 3 1 (.slice A2 k cp2) k (ics (L2.map Vt.id)) := ⟨_, how⟩
              have HI := Lib.hid (show Ir w4 B2 A2 k cp2 (L2.map Vt.id) from ⟨how, by simp [HL2.out]⟩)
              have HVA3 := Lib.hid (HV.out.below hb4)
              have HB3 := Lib.hid (HBW.out.trans (hb4.mono (by omega)))
              clear how hb4 HT HLEN HBW HV hvl hbz
              go_wp2_with fail
              go_loopg [107] k (fun gj tv wr => ∃ (j : Nat), j + gj = k ∧ tv = .int .i64 (j : Int) ∧ VA w1.heap.size wr p xs L2 (i + k + j) ∧ Below w1.heap.size w1 wr ∧ Ir wr B2 A2 k cp2 (L2.map Vt.id))
              case atStart => exact ⟨0, by omega, rfl, HVA3.out, HB3.out, HI.out⟩
              case round =>
                obtain ⟨j, hj, rfl, hva, hbw, hI⟩ := hrel
                clear HI HVA3 HB3
                by_cases hlt3 : j < k
                · obtain ⟨g, xi, rfl, hc1, hc2, hx, hcell⟩ := hI.at_ hlt3
                  rw [List.getElem?_map] at hx
                  obtain ⟨x, hx2, rfl⟩ := Option.map_eq_some_iff.1 hx
                  have hxm : x ∈ L2 := List.mem_of_getElem? hx2
                  have hok := hva.ok
                  have hxw := hok.wf x hxm
                  have HOK := Lib.hid (And.intro hok (And.intro hx2 (And.intro hxm (HALL.out x hxm))))
                  have y1 := vstake_any hva x.id hxw
                  rw [stA_eq hok hxm, hasA_eq hok hxm] at y1
                  have Y1 := Lib.hid y1
                  have HV := Lib.hid hva
                  have HBW := Lib.hid hbw
                  have HI := Lib.hid hI
                  clear hva hbw hI hok hx hx2 hxm y1
                  go_wp2_with fail
                  refine Y1.out.mono ?_
                  rintro e w5 ⟨rfl, hb5⟩
                  have hvl := HV.out.lt
                  have hbz := HBW.out.size
                  have HV5 := Lib.hid (HV.out.below hb5)
                  have HBW5 := Lib.hid (HBW.out.trans (hb5.mono (by omega)))
                  have hI5 := HI.out.tw (Tw.of_below hb5)
                  obtain ⟨g', x', hg', _, _, hx', hcell5⟩ := hI5.at_ hlt3
                  cases hg'
                  rw [List.getElem?_map, HOK.out.2.1] at hx'
                  cases hx'
                  have HI5 := Lib.hid hI5
                  have y2 := vbag_any HV5.out x.id hxw
                  rw [bagA_eq HOK.out.1 HOK.out.2.2.1, hasA_eq HOK.out.1 HOK.out.2.2.1] at y2
                  have Y2 := Lib.hid y2
                  clear hb5 hI5 y2 HV HBW HI Y1 hcell hvl hbz
                  go_wp2_with fail
                  refine Y2.out.mono ?_
                  rintro e w6 ⟨rfl, hb6⟩
                  have hvl := HV5.out.lt
                  have hbz := HBW5.out.size
                  have HV6 := Lib.hid (HV5.out.below hb6)
                  have HBW6 := Lib.hid (HBW5.out.trans (hb6.mono (by omega)))
                  have HI6 := Lib.hid (HI5.out.tw (Tw.of_below hb6))
                  have y3 := rbag_any P n c xs x.st w6 (HRT.out.below HBW6.out) HX.out
                  rw [bagM_ris HR.out, ← HOK.out.2.2.2] at y3
                  have Y3 := Lib.hid y3
                  clear hb6 y3 HV5 HBW5 HI5 Y2 hcell5 hvl hbz
                  go_wp2_with fail
                  refine Y3.out.mono ?_
                  rintro e w7 ⟨rfl, q, rfl⟩
                  have hb7 : Below w6.heap.size w6 (w6.drewN q) := below_drewN (Below.refl _ _) q
                  have HV7 := Lib.hid (HV6.out.below hb7)
                  have hvl := HV6.out.lt
                  have hbz := HBW6.out.size
                  have HBW7 := Lib.hid (HBW6.out.trans (hb7.mono (by omega)))
                  have hI7 := HI6.out.tw (Tw.of_below hb7)
                  obtain ⟨g', x', hg', _, _, hx', hcell7⟩ := hI7.at_ hlt3
                  cases hg'
                  rw [List.getElem?_map, HOK.out.2.1] at hx'
                  cases hx'
                  have HI7 := Lib.hid hI7
                  have y4 := vreb_any HV7.out (by have := HL2.out; unfold maxLen; omega) (by omega) x.id hxw
                  rw [rebM_set HOK.out.1 HOK.out.2.2.1 HOK.out.2.2.2] at y4
                  have Y4 := Lib.hid y4
                  clear hb7 y4 HV6 HBW6 HI6 Y3 hI7 hvl hbz
                  generalize w6.drewN q = w7 at *
                  go_wp2_with fail
                  refine Y4.out.mono ?_
                  rintro e w8 ⟨rfl, hT⟩
                  have HF := Lib.hid (And.intro hT.va (And.intro (hT.below_out HBW7.out) (HI7.out.tw hT.tw)))
                  clear hT Y4 HI7 HBW7 HV7 hcell7
                  rcases Nat.eq_zero_or_pos j with h0 | h0
                  · subst h0
                    go_wp2
                    go_roundg (k - (0 + 1))
                    case rel => exact ⟨0 + 1, by omega, by go_num, HF.out.1, HF.out.2.1, HF.out.2.2⟩
                    case measure => omega
                  · obtain ⟨j', rfl⟩ : ∃ j', j = j' + 1 := ⟨j - 1, by omega⟩
                    obtain ⟨g', x', hg', _, _, hx', hcell8⟩ := HF.out.2.2.at_ (i := j') (by omega)
                    cases hg'
                    rw [List.getElem?_map] at hx'
                    obtain ⟨y, hy2, rfl⟩ := Option.map_eq_some_iff.1 hx'
                    have hym : y ∈ L2 := List.mem_of_getElem? hy2
                    have hyw := HOK.out.1.wf y hym
                    have y5 := vbag_any HF.out.1 y.id hyw
                    rw [bagA_eq HOK.out.1 hym, hasA_eq HOK.out.1 hym] at y5
                    have Y5 := Lib.hid y5
                    have hle : ¬ (y.bag < x.bag) := by
                      have hd := List.pairwise_iff_getElem.1 HOK.out.1.desc j' (j' + 1) (by have := HL2.out; omega) (by have := HL2.out; omega) (by omega)
                      obtain ⟨h1, e1⟩ := List.getElem?_eq_some_iff.1 hy2
                      obtain ⟨h2, e2⟩ := List.getElem?_eq_some_iff.1 HOK.out.2.1
                      rw [e1, e2] at hd
                      omega
                    clear y5 hx' hy2 hym
                    go_wp2_with fail
                    refine Y5.out.mono ?_
                    rintro e w9 ⟨rfl, hb9⟩
                    have hvl := HF.out.1.lt
                    have hbz := HF.out.2.1.size
                    have HF9 := Lib.hid (And.intro (HF.out.1.below hb9) (And.intro (HF.out.2.1.trans (hb9.mono (by omega))) (HF.out.2.2.tw (Tw.of_below hb9))))
                    clear hb9 hvl hbz
                    go_wp2
                    go_roundg (k - (j' + 1 + 1))
                    case rel => exact ⟨j' + 1 + 1, by omega, by go_num, HF9.out.1, HF9.out.2.1, HF9.out.2.2⟩
                    case measure => omega
                · obtain rfl : j = k := by omega
                  have hlen3 := vlen_any hva
                  rw [HL2.out] at hlen3
                  have HLEN := Lib.hid hlen3
                  have HFIN := Lib.hid (HB1.out.trans (hbw.mono HB1.out.size))
                  clear hlen3 hva hbw hI
                  go_wp2_with fail
                  refine HLEN.out.mono ?_
                  rintro e w10 ⟨rfl, rfl⟩
                  go_wp2
                  go_ret
                  exact ⟨rfl, HFIN.out⟩
end Go.Proofs.Ytblclpagfbpamaa
