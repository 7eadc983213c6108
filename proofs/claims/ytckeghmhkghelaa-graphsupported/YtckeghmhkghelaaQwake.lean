/-
  graph.Seats and graph.Total, the reference's Small, and that the law is awake. For every snapshot that can be read.
-/
import Derived.Test.YtckeghmhkghelaaQsup
namespace Go.Proofs.Ytckeghmhkghelaa
open Go.RowKit
set_option linter.unusedVariables false

/-- How many can be elected. -/
def seatI (most : Int) (L : Nat) : Int := max 0 (min most (L : Int))
set_option maxHeartbeats 800000 in
theorem seats_any (s : Sn) (most : Int) (w : World) (h : s.In w) :
    Calls Try.prog 11 #[s.val, .int .i64 most] w fun e w' => e = .returned (.int .i64 (seatI most (supM s.vs s.cs).length)) ∧ Below w.heap.size w w' := by
  obtain ⟨A, n, c, B, m, d, vs, cs⟩ := s
  have hb1 : Below w.heap.size w (w.alloc (.cells #[.slice A n c, .slice B m d] 25)) := (Below.refl _ _).alloc (Nat.le_refl _) _
  have hA := supported_any ⟨A, n, c, B, m, d, vs, cs⟩ _ (h.below hb1 (Nat.le_refl _))
  have hX := supM_len vs cs
  unfold Sn.val at hA ⊢
  dsimp only at hA ⊢
  obtain ⟨r, hr⟩ : ∃ r, seatI most (supM vs cs).length = r := ⟨_, rfl⟩
  rw [hr]
  generalize supM vs cs = xs at *
  have HB1 := Lib.hid hb1
  have HR := Lib.hid hr
  have HX := Lib.hid hX
  clear hb1 h hr hX
  go_enter Try.func11, Try.ntmps11
  go_wp2_with fail
  refine hA.mono ?_
  rintro e w2 ⟨A2, n2, c2, rfl, hO, hb2⟩
  have HB2 := Lib.hid (HB1.out.trans (hb2.mono HB1.out.size))
  have HL := Lib.hid hO.len
  clear hO hb2 hA
  go_wp2_with fail
  go_ret
  refine ⟨?_, HB2.out⟩
  rw [← HR.out, HL.out]
  rfl
/-- The sum of all stakes. -/
def totM (vs : List Vr) (cs : List Int) : Nat := if Fd vs cs then tot (stk vs) else 0
set_option maxHeartbeats 800000 in
theorem total_any (s : Sn) (w : World) (h : s.In w) :
    Calls Try.prog 12 #[s.val] w fun e w' => e = .returned (.int .u64 (totM s.vs s.cs : Nat)) ∧ Below w.heap.size w w' := by
  obtain ⟨A, n, c, B, m, d, vs, cs⟩ := s
  have hb1 : Below w.heap.size w (w.alloc (.cells #[.slice A n c, .slice B m d] 25)) := (Below.refl _ _).alloc (Nat.le_refl _) _
  have hk1 := KB.new w 25 #[.slice A n c, .slice B m d]
  have hF := formedG_any ⟨A, n, c, B, m, d, vs, cs⟩ _ (h.below hb1 (Nat.le_refl _))
  have HIN := Lib.hid h
  unfold Sn.val at hF ⊢
  dsimp only at hF ⊢
  have HB1 := Lib.hid hb1
  have HK1 := Lib.hid hk1
  have HV := Lib.hid h.1
  clear h hb1 hk1
  by_cases hfd : Fd vs cs
  · rw [decide_eq_true hfd] at hF
    have h32 : n ≤ 32 := by have := hfd.1; have := HV.out.len; dsimp only at this; omega
    have ht := hfd.2.2.2.1
    have hM : totM vs cs = tot (stk vs) := if_pos hfd
    rw [hM]
    have hsum := fun A2 n2 c2 w2 (h : Rk .u64 w2 A2 n2 c2 (stk vs)) => ysum_any A2 n2 c2 (stk vs) w2 h (stk_bl HV.out)
    rw [show sumM (stk vs) = (tot (stk vs), 0) from if_pos ht] at hsum
    generalize tot (stk vs) = S at hsum ht ⊢
    clear hM
    go_enter Try.func12, Try.ntmps12
    go_wp2_with fail
    refine hF.mono ?_
    rintro e w2 ⟨rfl, hb2⟩
    have hB2 := HB1.out.trans (hb2.mono HB1.out.size)
    have hK2 := HK1.out.below hb2 HK1.out.lt
    have x0 := hK2.cell 0
    have x1 := hK2.cell 1
    simp at x0 x1
    have hS := stakes_any ⟨A, n, c, B, m, d, vs, cs⟩ w2 (HIN.out.below hB2 (Nat.le_refl _)) h32
    unfold Sn.val at hS
    dsimp only at hS
    have HB2 := Lib.hid hB2
    clear hb2 hB2 hK2 HK1 HB1 hF
    go_wp2_with fail
    refine hS.mono ?_
    rintro e w3 ⟨A3, n3, c3, rfl, hrk, hb3⟩
    have hsum3 := hsum A3 n3 c3 w3 hrk
    have HB3 := Lib.hid (HB2.out.trans (hb3.mono HB2.out.size))
    clear hsum hrk hb3 HB2
    go_wp2_with fail
    refine hsum3.mono ?_
    rintro e w4 ⟨rfl, rfl⟩
    go_wp2
    go_ret
    exact ⟨rfl, HB3.out⟩
  · rw [decide_eq_false hfd] at hF
    have hM : totM vs cs = 0 := if_neg hfd
    rw [hM]
    go_enter Try.func12, Try.ntmps12
    go_wp2_with fail
    refine hF.mono ?_
    rintro e w2 ⟨rfl, hb2⟩
    go_wp2
    go_ret
    exact ⟨rfl, HB1.out.trans (hb2.mono HB1.out.size)⟩

/-- Some bool is answered, and what was there is as it was. -/
def OutFs (w : World) : Ending → World → Prop := fun e w' => ∃ r, e = .returned (.bool r) ∧ Below w.heap.size w w'
set_option maxHeartbeats 800000 in
/-- Whether it is of a size that is looked at. -/
theorem small_any (s : Sn) (w : World) (h : s.In w) :
    Calls Try.prog 5 #[s.val] w (OutFs w) := by
  obtain ⟨A, n, c, B, m, d, vs, cs⟩ := s
  have hb1 : Below w.heap.size w (w.alloc (.cells #[.slice A n c, .slice B m d] 25)) := (Below.refl _ _).alloc (Nat.le_refl _) _
  have hk1 := KB.new w 25 #[.slice A n c, .slice B m d]
  obtain ⟨hv, hc⟩ := h
  unfold Sn.val
  dsimp only at hv hc ⊢
  have HV := Lib.hid hv
  have hcap := hv.cap
  have hmax := hv.max
  have hcap2 := hc.cap
  have hmax2 := hc.max
  have HB1 := Lib.hid hb1
  have HK1 := Lib.hid hk1
  clear hv hc hb1 hk1
  by_cases hm : (100 : Int) < (m : Int)
  · go_enter Try.func5, Try.ntmps5
    go_wp2
    go_ret
    exact ⟨_, rfl, HB1.out⟩
  · go_enter Try.func5, Try.ntmps5
    go_wp2_with fail
    go_loopw [11] (fun tv wr => ∃ (k : Nat), k ≤ n ∧ tv = .int .i64 (k : Int) ∧ KB wr w.heap.size 25 #[.slice A n c, .slice B m d] ∧ Below w.heap.size w wr) (fun tv _ => n - (intOf tv).toNat)
    case atStart => exact ⟨0, by omega, rfl, HK1.out, HB1.out⟩
    case round =>
      obtain ⟨k, hk, rfl, hkb, hbw⟩ := hrel
      have HK := Lib.hid hkb
      have HB := Lib.hid hbw
      clear HK1 HB1
      by_cases hlt : k < n
      · obtain ⟨b', o, v, rfl, hbb, hve, ok, ri, c0, c1, c2⟩ := HV.out.at_ hlt
        have d2 := (hbw.cell (p := ⟨b', o + k * 3 + 2, none⟩) hbb).trans c2
        have x0 := hkb.cell 0
        simp at x0
        have hn1 := ri.cap
        have hn2 := ri.max
        obtain ⟨vi, vst, va, vn, vc, vp⟩ := v
        dsimp only at d2 hn1 hn2
        clear c0 c1 c2 hve ok ri hbw hkb
        by_cases h100 : (100 : Int) ≤ (k : Int)
        · go_wp2
          go_ret
          exact ⟨_, rfl, HB.out⟩
        · by_cases h50 : (50 : Int) < (vn : Int)
          · go_wp2
            go_ret
            exact ⟨_, rfl, HB.out⟩
          · go_wp2
            go_roundw
            case rel => exact ⟨k + 1, by omega, by go_num, HK.out, HB.out⟩
            case measure => simp [intOf]; omega
      · go_wp2
        go_ret
        exact ⟨_, rfl, HB.out⟩

set_option maxHeartbeats 800000 in
theorem wakeG_any (w : World) : Calls Try.prog 4 #[] w (OutF w true) := by
  have hF := formedG_any ⟨none, 0, 0, none, 0, 0, [], []⟩ w ⟨Rv.nil w, Ri.nil w⟩
  rw [show decide (Fd [] []) = true by decide] at hF
  unfold Sn.val at hF
  dsimp only at hF
  go_enter Try.func4, Try.ntmps4
  go_wp2_with fail
  refine hF.mono ?_
  rintro e w1 ⟨rfl, hb1⟩
  have hb2 : Below w1.heap.size w1 (w1.alloc (.cells #[.int .i64 1, .int .u64 5, .slice none 0 0] 31)) := (Below.refl _ _).alloc (Nat.le_refl _) _
  have hk := KB.new w1 31 #[.int .i64 1, .int .u64 5, .slice none 0 0]
  have HB2 := Lib.hid (hb1.trans (hb2.mono hb1.size))
  clear hF hb1 hb2
  go_wp2_with fail
  generalize (w1.alloc (.cells #[.int .i64 1, .int .u64 5, .slice none 0 0] 31)) = w2 at *
  have c0 := hk.cell 0
  have c1 := hk.cell 1
  have c2 := hk.cell 2
  simp at c0 c1 c2
  have hin : Sn.In w2 ⟨some ⟨w1.heap.size, 0, none⟩, 1, 1, none, 0, 0, [⟨1, 5, none, 0, 0, []⟩], []⟩ :=
    ⟨⟨rfl, Nat.le_refl _, by show 1 ≤ 9223372036854775807; omega, fun v hv => by simp at hv; subst hv; exact ⟨⟨by decide, by decide, by decide⟩, Ri.nil _⟩, fun _ => ⟨w1.heap.size, 0, rfl, hk.lt, fun j v hj => by
      rcases Nat.eq_zero_or_pos j with e | e
      · subst e; simp at hj; subst hj; exact ⟨c0, c1, c2⟩
      · rw [List.getElem?_eq_none (by simp; omega)] at hj; cases hj⟩⟩, Ri.nil _⟩
  have hT := total_any _ w2 hin
  unfold Sn.val at hT
  dsimp only at hT
  rw [show totM [⟨1, 5, none, 0, 0, []⟩] [] = 5 by decide] at hT
  refine hT.mono ?_
  rintro e w3 ⟨rfl, hb3⟩
  go_wp2
  go_ret
  exact ⟨rfl, HB2.out.trans (hb3.mono HB2.out.size)⟩
end Go.Proofs.Ytckeghmhkghelaa
