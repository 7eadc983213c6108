/-
  The walk of the law VotersStop: it returns true, whatever the thresholds, the stakes and the stop, and writes nothing that was there.
-/
import Derived.Test.YtblclpagfbpamaaVcnt
import Derived.Deep.LoopGhost
import Derived.BigQuiet
namespace Go.Proofs.Ytblclpagfbpamaa
open Go.RowKit
set_option linter.unusedVariables false

theorem lsome_any {base : Nat} {w : World} {p : Nat} {T : List Nat} {L : List Vt} {G : Nat} (h : VA base w p T L G) (hl : L.length ≤ 1000000) (hG : G < 4611686018427387904) (n : Nat) (hn : n ≤ 1000000) :
    Calls Try.prog 27 #[.pointer (some ⟨p, 0, none⟩), .int .i64 (n : Nat)] w fun e w' => e = .returned (.int .i64 (min n L.length : Nat)) ∧ Below w.heap.size w w' :=
  lsome_of _ w L n hn hl (fun Bv K0 W hW hBv hB => all_U Bv K0 (h.below hW) hBv hB hl hG)
theorem rk_at {w : World} {A : Option Addr} {n c : Nat} {xs : List Nat} (h : Rk .u64 w A n c xs) {i : Nat} (hi : i < n) : ∃ b o, A = some ⟨b, o, none⟩ ∧ b < w.heap.size ∧ w.cell? ⟨b, o + i, none⟩ = some (.int .u64 (el xs i : Nat)) := by
  obtain ⟨b, o, rfl, hb, hc⟩ := h.at_ (by omega)
  exact ⟨b, o, rfl, hb, hc i hi⟩

set_option maxRecDepth 100000 in
set_option maxHeartbeats 6400000 in
theorem vstop_walk (P : Option Addr) (n c : Nat) (xs : List Nat) (Q : Option Addr) (m d : Nat) (ys : List Nat) (z : Nat) (w : World) (h : Rk .u64 w P n c xs) (hX : Bl 18446744073709551616 xs) (ho : Rk .u64 w Q m d ys) (hY : Bl 18446744073709551616 ys) (hz : z < 256) :
    Calls Try.prog 5 #[.slice P n c, .slice Q m d, .int .u8 (z : Nat)] w fun e w' => e = .returned (.bool true) ∧ Below w.heap.size w w' := by
  have hlen := h.len
  have hcap := h.cap
  have hmax := h.max
  have hm0 := ho.len
  have hm1 := ho.cap
  have hm2 := ho.max
  by_cases hbig : 100 < n ∨ 100 < m
  · have H := Lib.hid h
    have HO := Lib.hid ho
    clear h ho
    rcases Nat.lt_or_ge 100 n with h32 | h32
    · have k1 : (100 : Int) < (n : Int) := by omega
      go_enter Try.func5, Try.ntmps5
      go_wp2_with fail
      refine (wakeV_any _).mono ?_
      rintro e w1 ⟨rfl, hb1⟩
      go_wp2_with fail
      refine (wakeV_any _).mono ?_
      rintro e w2 ⟨rfl, hb2⟩
      go_wp2
      go_ret
      exact ⟨rfl, hb1.trans (hb2.mono hb1.size)⟩
    · have k1 : ¬ (100 : Int) < (n : Int) := by omega
      have k2 : (100 : Int) < (m : Int) := by omega
      go_enter Try.func5, Try.ntmps5
      go_wp2_with fail
      refine (wakeV_any _).mono ?_
      rintro e w1 ⟨rfl, hb1⟩
      go_wp2_with fail
      refine (wakeV_any _).mono ?_
      rintro e w2 ⟨rfl, hb2⟩
      go_wp2
      go_ret
      exact ⟨rfl, hb1.trans (hb2.mono hb1.size)⟩
  · have k1 : ¬ (100 : Int) < (n : Int) := by omega
    have k2 : ¬ (100 : Int) < (m : Int) := by omega
    have HR0 := Lib.hid h
    have HO0 := Lib.hid ho
    have HX := Lib.hid hX
    have HY := Lib.hid hY
    have HL := Lib.hid hlen
    have HM := Lib.hid hm0
    have n32 : n ≤ 100 := by omega
    have m200 : m ≤ 100 := by omega
    clear h ho hX hY hlen hm0 hbig
    go_enter Try.func5, Try.ntmps5
    go_wp2_with fail
    refine (wakeV_any _).mono ?_
    rintro e w1 ⟨rfl, hb1⟩
    have hN := vnew_any P n c xs w1 (HR0.out.below hb1) HX.out
    have HN := Lib.hid hN
    clear hN
    go_wp2_with fail
    refine HN.out.mono ?_
    rintro e w2 ⟨hb2, ⟨hr, rfl⟩ | ⟨hr, p, rfl, hva⟩⟩
    · have HB := Lib.hid (hb1.trans (hb2.mono hb1.size))
      clear hr HN hb1 hb2
      go_wp2
      go_ret
      exact ⟨rfl, HB.out⟩
    · have HVA := Lib.hid hva
      have HB1 := Lib.hid hb1
      have HO := Lib.hid (HO0.out.below hb1)
      have HB12 := Lib.hid hb2
      clear hr hva HN HR0 HO0 hb1 hb2
      go_wp2_with fail
      go_loopg [32] m (fun gk tv wr => ∃ (i : Nat) (L : List Vt), i + gk = m ∧ tv = .int .i64 (i : Int) ∧ VA w1.heap.size wr p xs L i ∧ L.length = i ∧ (∀ x ∈ L, x.id < (i : Int)) ∧ Below w1.heap.size w1 wr)
      case atStart => exact ⟨0, _, by omega, rfl, HVA.out, rfl, by simp, HB12.out⟩
      case round =>
        obtain ⟨i, L, hi, rfl, hva, hLi, hids, hbw⟩ := hrel
        clear HVA HB12
        by_cases hlt : i < m
        · obtain ⟨b, o, rfl, hbl, hc⟩ := rk_at HO.out hlt
          have hcell := (hbw.cell (p := ⟨b, o + i, none⟩) hbl).trans hc
          have hel : el ys i < 18446744073709551616 := Bl_el HY.out (by omega) i
          have hno : fnd L (i : Int) = none := fnd_of_none (fun x hx => by have := hids x hx; omega)
          have hI := vins_any hva (by unfold maxLen; omega) (by omega) (i : Int) (wf_mid (g := 100) (by omega) (by omega) (by decide)) (el ys i) hel
          rw [show insM xs L (i : Int) (el ys i) = (lastV ⟨(i : Int), el ys i, bagN xs (el ys i)⟩ L, 0) from by unfold insM; rw [hno]] at hI
          have HI := Lib.hid hI
          have HF := Lib.hid (And.intro hLi (And.intro hids hbw))
          clear hI hva hids hbw hno hc hLi
          go_wp2_with fail
          refine HI.out.mono ?_
          rintro e w5 ⟨rfl, hT⟩
          have HT := Lib.hid (And.intro hT.va (hT.below_out HF.out.2.2))
          clear hT
          go_wp2
          go_roundg (m - (i + 1))
          case rel =>
            have hp := lastV_perm ⟨(i : Int), el ys i, bagN xs (el ys i)⟩ L
            refine ⟨i + 1, _, by omega, by go_num, HT.out.1, by rw [hp.length_eq]; simp [HF.out.1], fun x hx => ?_, HT.out.2⟩
            rcases List.mem_cons.1 (hp.mem_iff.1 hx) with rfl | hx
            · simp; omega
            · have := HF.out.2.1 x hx; omega
          case measure => omega
        · obtain rfl : i = m := by omega
          have HS1 := Lib.hid (lsome_any hva (by omega) (by omega) z (by omega))
          have HV := Lib.hid hva
          have HBW := Lib.hid hbw
          have HLI := Lib.hid hLi
          clear hva hids hbw hLi
          go_wp2_with fail
          refine HS1.out.mono ?_
          rintro e w5 ⟨rfl, hb5⟩
          rw [HLI.out]
          have hv5 := HV.out.below hb5
          have HS2 := Lib.hid (lsome_any hv5 (by have := HLI.out; omega) (by omega) 1000 (by omega))
          have HV5 := Lib.hid hv5
          have HB5 := Lib.hid (HBW.out.trans (hb5.mono (by have := HV.out.lt; omega)))
          clear hv5 hb5 HS1
          have hmin : (if (z : Int) < (i : Int) then (z : Int) else (i : Int)) = ((min z i : Nat) : Int) := by split <;> omega
          go_wp2_with fail
          all_goals
            refine HS2.out.mono ?_
            rintro e w6 ⟨rfl, hb6⟩
            rw [HLI.out, Nat.min_eq_right (by omega : i ≤ 1000)]
            have hv6 := HV5.out.below hb6
            have HS3 := Lib.hid (lrows_any hv6 (by have := HLI.out; omega) (by omega))
            have HB6 := Lib.hid (HB5.out.trans (hb6.mono (by have := HV5.out.lt; omega)))
            have HSZ := Lib.hid hv6.lt
            clear hv6 hb6 HS2
            go_wp2_with fail
            refine HS3.out.mono ?_
            rintro e w7 ⟨⟨A, c7, rfl, _⟩, hb7⟩
            rw [HLI.out]
            have HB7 := Lib.hid (HB1.out.trans ((HB6.out.trans (hb7.mono (by have := HSZ.out; omega))).mono HB1.out.size))
            clear hb7
            go_wp2
            go_ret
            exact ⟨rfl, HB7.out⟩
end Go.Proofs.Ytblclpagfbpamaa
