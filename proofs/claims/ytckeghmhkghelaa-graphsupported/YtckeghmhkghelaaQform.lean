/-
  graph.Formed answers whether a snapshot is well formed. For every snapshot that can be read.
-/
import Derived.Test.YtckeghmhkghelaaQstk
import Derived.Test.YtckeghmhkghelaaYsum
namespace Go.Proofs.Ytckeghmhkghelaa
open Go.RowKit
set_option linter.unusedVariables false

/-- A snapshot is well formed. -/
def Fd (vs : List Vr) (cs : List Int) : Prop := vs.length ≤ 32 ∧ Asc 32 cs ∧ (∀ v ∈ vs, Asc 8 v.ps) ∧ tot (stk vs) < 18446744073709551616 ∧ Numb vs
instance (vs : List Vr) (cs : List Int) : Decidable (Fd vs cs) := by unfold Fd; infer_instance
abbrev bx (w : World) (s : Sn) : World := w.alloc (.cells #[.slice s.A s.n s.c, .slice s.B s.m s.d] 25)

set_option maxHeartbeats 1600000 in
theorem formedG_any (s : Sn) (w : World) (h : s.In w) : Calls Try.prog 6 #[s.val] w (OutF w (decide (Fd s.vs s.cs))) := by
  obtain ⟨A, n, c, B, m, d, vs, cs⟩ := s
  obtain ⟨r, hr⟩ : ∃ r, decide (Fd vs cs) = r := ⟨_, rfl⟩
  unfold Sn.val
  dsimp only
  rw [hr]
  have HRR := Lib.hid hr
  have HIN := Lib.hid h
  obtain ⟨hv, hc⟩ := h
  dsimp only at hv hc
  have HL := Lib.hid hv.len
  have HV := Lib.hid hv
  have HC := Lib.hid hc
  have hcap := hv.cap
  have hmax := hv.max
  have hcap2 := hc.cap
  have hmax2 := hc.max
  clear hv hc hr
  by_cases h32 : (32 : Int) < (n : Int)
  · have hF : ¬ Fd vs cs := fun hf => by have := hf.1; have := HL.out; omega
    go_enter Try.func6, Try.ntmps6
    go_wp2
    go_ret
    refine ⟨?_, (Below.refl _ _).alloc (Nat.le_refl _) _⟩
    rw [← HRR.out, decide_eq_false hF]
    rfl
  · have hb1 : Below w.heap.size w (w.alloc (.cells #[.slice A n c, .slice B m d] 25)) := (Below.refl _ _).alloc (Nat.le_refl _) _
    have hk1 := KB.new w 25 #[.slice A n c, .slice B m d]
    have hasc := asc_any B m d cs 32 _ (HC.out.below hb1 (Nat.le_refl _))
    have HB1 := Lib.hid hb1
    have HK1 := Lib.hid hk1
    clear hb1 hk1
    by_cases hca : Asc 32 cs
    · rw [decide_eq_true hca] at hasc
      go_enter Try.func6, Try.ntmps6
      go_wp2_with fail
      refine hasc.mono ?_
      rintro e w1 ⟨rfl, rfl⟩
      clear hasc
      generalize (w.alloc (.cells #[.slice A n c, .slice B m d] 25)) = w1 at *
      have x0 := HK1.out.cell 0
      have x1 := HK1.out.cell 1
      simp at x0 x1
      have hsz1 := HK1.out.lt
      go_wp2_with fail
      go_loopw [20] (fun tv wr => ∃ (k : Nat), k ≤ n ∧ tv = .int .i64 (k : Int) ∧ KB wr w.heap.size 25 #[.slice A n c, .slice B m d] ∧ (∀ v ∈ vs.take k, Asc 8 v.ps) ∧ Below w.heap.size w wr) (fun tv _ => n - (intOf tv).toNat)
      case atStart => exact ⟨0, by omega, rfl, HK1.out, fun v hv => by simp at hv, HB1.out⟩
      case round =>
        obtain ⟨k, hk, rfl, hkb, hall, hb⟩ := hrel
        have HA := Lib.hid hall
        have HKB := Lib.hid hkb
        have HB := Lib.hid hb
        have hsz := hkb.lt
        clear hall x0 x1 HB1 HK1
        by_cases hlt : k < n
        · obtain ⟨b, o, v, rfl, hbb, hve, ok, ri, c0, c1, c2⟩ := HV.out.at_ hlt
          have d0 := (hb.cell (p := ⟨b, o + k * 3, none⟩) hbb).trans c0
          have d1 := (hb.cell (p := ⟨b, o + k * 3 + 1, none⟩) hbb).trans c1
          have d2 := (hb.cell (p := ⟨b, o + k * 3 + 2, none⟩) hbb).trans c2
          have hri := ri.below hb (Nat.le_refl _)
          have HS := Lib.hid hve
          clear c0 c1 c2 hve ok ri
          obtain ⟨vi, vst, va, vn, vc, vp⟩ := v
          dsimp only at d0 d1 d2 hri
          have hb7' : Below wr.heap.size wr (wr.alloc (.cells #[.int .i64 vi, .int .u64 (vst : Int), .slice va vn vc] 31)) := (Below.refl _ _).alloc (Nat.le_refl _) _
          have hasc := asc_any va vn vc vp 8 _ (hri.below hb7' (Nat.le_refl _))
          have HB7 := Lib.hid (hb.trans (hb7'.mono hb.size))
          have HK7 := Lib.hid (hkb.below hb7' hsz)
          clear hb7' hri hb hkb HB HKB
          by_cases ha : Asc 8 vp
          · rw [decide_eq_true ha] at hasc
            go_wp2_with fail
            refine hasc.mono ?_
            rintro e w2 ⟨rfl, rfl⟩
            go_wp2
            go_roundw
            case rel => exact ⟨k + 1, by omega, by go_num, HK7.out, fun v hv => by
              rw [List.take_add_one, HS.out] at hv
              rcases List.mem_append.1 hv with hv | hv
              · exact HA.out v hv
              · simp at hv; subst hv; exact ha, HB7.out⟩
            case measure => simp [intOf]; omega
          · rw [decide_eq_false ha] at hasc
            have hF : ¬ Fd vs cs := fun hf => ha (hf.2.2.1 _ (List.mem_of_getElem? HS.out))
            go_wp2_with fail
            refine hasc.mono ?_
            rintro e w2 ⟨rfl, rfl⟩
            go_wp2
            go_ret
            refine ⟨?_, HB7.out⟩
            rw [← HRR.out, decide_eq_false hF]
            rfl
        · obtain rfl : k = n := by omega
          have hall : ∀ v ∈ vs, Asc 8 v.ps := fun v hv => HA.out v (by rw [List.take_of_length_le (by rw [HL.out]; exact Nat.le_refl _)]; exact hv)
          have x0 := hkb.cell 0
          have x1 := hkb.cell 1
          simp at x0 x1
          have hS := stakes_any ⟨A, k, c, B, m, d, vs, cs⟩ wr (HIN.out.below HB.out (Nat.le_refl _)) (by dsimp only; omega)
          unfold Sn.val at hS
          dsimp only at hS
          clear hb hkb
          go_wp2_with fail
          refine hS.mono ?_
          rintro e w2 ⟨A2, n2, c2, rfl, hrk, hb2⟩
          have hsum := ysum_any A2 n2 c2 (stk vs) w2 hrk (stk_bl HV.out)
          clear x0 x1
          by_cases ht : tot (stk vs) < 18446744073709551616
          · rw [show sumM (stk vs) = (tot (stk vs), 0) from if_pos ht] at hsum
            have HB2 := Lib.hid (HB.out.trans (hb2.mono HB.out.size))
            have hk2 := HKB.out.below hb2 hsz
            have x0 := hk2.cell 0
            simp at x0
            have hN := numb_any A k c vs w2 (HV.out.below HB2.out (Nat.le_refl _)) (by omega)
            generalize tot (stk vs) = T at hsum
            clear hb2 hk2 hrk
            go_wp2_with fail
            refine hsum.mono ?_
            rintro e w3 ⟨rfl, rfl⟩
            go_wp2_with fail
            refine hN.mono ?_
            rintro e w3 ⟨rfl, hb3⟩
            go_wp2
            go_ret
            refine ⟨?_, HB2.out.trans (hb3.mono HB2.out.size)⟩
            rw [← HRR.out]
            have he : Numb vs ↔ Fd vs cs := ⟨fun hn => ⟨by have := HL.out; omega, hca, hall, ht, hn⟩, fun hf => hf.2.2.2.2⟩
            rw [← decide_eq_decide.2 he]
            rfl
          · rw [show sumM (stk vs) = (0, 3) from if_neg ht] at hsum
            have HB2 := Lib.hid (HB.out.trans (hb2.mono HB.out.size))
            have hF : ¬ Fd vs cs := fun hf => ht hf.2.2.2.1
            clear hb2 hrk
            go_wp2_with fail
            refine hsum.mono ?_
            rintro e w3 ⟨rfl, rfl⟩
            go_wp2
            go_ret
            refine ⟨?_, HB2.out⟩
            rw [← HRR.out, decide_eq_false hF]
            rfl
    · rw [decide_eq_false hca] at hasc
      have hF : ¬ Fd vs cs := fun hf => hca hf.2.1
      go_enter Try.func6, Try.ntmps6
      go_wp2_with fail
      refine hasc.mono ?_
      rintro e w1 ⟨rfl, rfl⟩
      go_wp2
      go_ret
      refine ⟨?_, HB1.out⟩
      rw [← HRR.out, decide_eq_false hF]
      rfl
end Go.Proofs.Ytckeghmhkghelaa
