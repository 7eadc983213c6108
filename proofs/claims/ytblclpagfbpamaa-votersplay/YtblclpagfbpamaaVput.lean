/-
  putLast of package voters: a voter becomes the last one of its bag. The conditions stand in each theorem.
-/
import Derived.Test.YtblclpagfbpamaaVrem
import Derived.Deep.RegionHeld3
namespace Go.Proofs.Ytblclpagfbpamaa
open Go.RowKit
set_option linter.unusedVariables false

/-- What putLast leaves. -/
def PutTo (base : Nat) (w w' : World) (s : VS) (T : List Nat) (R : Nat → List (Int × Int)) (f : Int → Option V3) (n : Nat) (i : Int) (x b : Nat) : Prop :=
  ∃ c, c.C = (s.ch b).C ∧ c.g = (s.ch b).g + 1 ∧ Vl base w' (s.setCh b c) T (updR R b (R b ++ [((s.ch b).g + 1, i)])) (upd f i (some (x, b, (s.ch b).g + 1))) (if (f i).isSome then n else n + 1) ∧ Tw isV w w' ∧ Below base w w'
section
variable {base : Nat} {w : World} {s : VS} {T : List Nat} {R : Nat → List (Int × Int)} {f : Int → Option V3} {n : Nat}
theorem Vl.three {b : Nat} {c : ChS Int} (h : Vl base w (s.setCh b c) T R f n) {m : Nat} (hm : s.m = some m) {g cap : Nat} (hrv : s.rv = .slice (some ⟨g, 0, none⟩) s.nb cap) (hb : b < s.nb) (hC : c.C = (s.ch b).C) :
    w.cell? ⟨s.p, 1, none⟩ = some (.slice (some ⟨g, 0, none⟩) s.nb cap) ∧ w.cell? ⟨s.p, 2, none⟩ = some (.map (some m)) ∧ w.cell? ⟨g, b, none⟩ = some (.pointer (some ⟨(s.ch b).C, 0, none⟩)) := by
  have d1 := h.blk.cell 1
  have d2 := h.blk.cell 2
  obtain ⟨g', cap', hrv', _, _, d3⟩ := h.rowAt (b := b) hb
  rw [setCh_rv, hrv] at d1 hrv'
  rw [setCh_m, hm] at d2
  injection hrv' with q1 q2 q3
  injection q1 with q1
  injection q1 with q1
  subst q1
  rw [setCh_same, hC] at d3
  simp at d1 d2
  exact ⟨d1, d2, d3⟩
set_option maxRecDepth 100000 in
set_option maxHeartbeats 3200000 in
theorem vput_any (h : Vl base w s T R f n) {m : Nat} (hm : s.m = some m) (hnb : s.nb = T.length + 1) (hl : n < maxLen) (i : Int) (hi : (Lit.int .i64 i).wf = true) (x : Nat) (hg : (Lit.int .i64 ((s.ch (bagN T x)).g + 1)).wf = true) (hlen : (s.ch (bagN T x)).hs.length < maxLen) :
    Calls Try.prog 33 #[.pointer (some ⟨s.p, 0, none⟩), .int .i64 i, .int .u64 x] w fun e w' => e = .returned (.tuple #[]) ∧ PutTo base w w' s T R f n i x (bagN T x) := by
  have hP := vproper_any h x
  have hb : bagN T x < s.nb := by
    have := bagN_le T x
    omega
  obtain ⟨b, hbe⟩ : ∃ b, b = bagN T x := ⟨_, rfl⟩
  rw [← hbe] at hP hb hg hlen ⊢
  clear hbe hnb
  have H := Lib.hid h
  have HM := Lib.hid hm
  clear h hm
  go_enter Try.func33, Try.ntmps33
  go_wp2_with fail
  refine hP.mono ?_
  rintro e w1 ⟨rfl, q, rfl⟩
  clear hP
  have hb1 : Below w.heap.size w (w.drewN q) := by
    have := Below.refl w.heap.size w
    exact ⟨this.os, this.tape, this.output, this.size, this.block⟩
  generalize w.drewN q = W at hb1 ⊢
  go_upto_region 1 with (fail)
  have hv := H.out.below hb1
  obtain ⟨g, cap, hrv, hc1, hc2, hcell⟩ := hv.rowAt hb
  have c1 := hv.blk.cell 1
  have c2 := hv.blk.cell 2
  rw [hrv] at c1
  rw [HM.out] at c2
  simp at c1 c2
  have hcall := last_anyi (s.ch b) i W.drew (show Gdi W.drew _ from ⟨(hv.chn b hb).ch.drew, (hv.chn b hb).ring⟩) hg hlen
  have K0 : W.drew.cell? ⟨s.p, 1, none⟩ = some (.slice (some ⟨g, 0, none⟩) s.nb cap) ∧ W.drew.cell? ⟨s.p, 2, none⟩ = some (.map (some m)) ∧ W.drew.cell? ⟨g, b, none⟩ = some (.pointer (some ⟨(s.ch b).C, 0, none⟩)) := ⟨c1, c2, hcell⟩
  have HV := Lib.hid hv
  have HB := Lib.hid hb1
  have HRV := Lib.hid hrv
  have hbI : (b : Int) < (s.nb : Int) := by omega
  obtain ⟨G, hG⟩ : ∃ G, G = (s.ch b).g + 1 := ⟨_, rfl⟩
  rw [← hG] at hcall
  have HG := Lib.hid hG
  have fin : ∀ w6, ChToi W.drew w6 (s.ch b) G ((s.ch b).row ++ [(G, i)]) → (w6.cell? ⟨s.p, 1, none⟩ = some (.slice (some ⟨g, 0, none⟩) s.nb cap) ∧ w6.cell? ⟨s.p, 2, none⟩ = some (.map (some m)) ∧ w6.cell? ⟨g, b, none⟩ = some (.pointer (some ⟨(s.ch b).C, 0, none⟩))) ∧
      ∃ w7, (Instr.mapUpdate 61 (.map (some m)) (.int .i64 i) (.agg #[.int .u64 (x : Nat), .int .i64 (b : Nat), .int .i64 G])).run Try.prog w6 = .ok () w7 ∧ (w7.cell? ⟨s.p, 1, none⟩ = some (.slice (some ⟨g, 0, none⟩) s.nb cap) ∧ w7.cell? ⟨s.p, 2, none⟩ = some (.map (some m)) ∧ w7.cell? ⟨g, b, none⟩ = some (.pointer (some ⟨(s.ch b).C, 0, none⟩))) ∧ PutTo base w w7 s T R f n i x b := fun w6 h6 => by
    obtain ⟨c, e1, e2, v6, t6, b6⟩ := HV.out.chain hb (ChToi.undrew h6)
    obtain ⟨w7, hrun, v7, t7, b7, _⟩ := v6.store (show (s.setCh b c).m = some m from HM.out) hi hl x b G
    refine ⟨v6.three HM.out HRV.out hb e1, w7, hrun, v7.three HM.out HRV.out hb e1, c, e1, by rw [e2, HG.out], ?_, (Tw.from HB.out t6).trans t7, ((HB.out.mono H.out.base_le).trans b6).trans b7⟩
    rw [← HG.out, ← HV.out.row b hb]; exact v7
  have FIN := Lib.hid fin
  clear hv hrv hb1 fin c1 c2 hcell hG
  go_region_held3 (fun W' => W'.cell? ⟨s.p, 1, none⟩ = some (.slice (some ⟨g, 0, none⟩) s.nb cap) ∧ W'.cell? ⟨s.p, 2, none⟩ = some (.map (some m)) ∧ W'.cell? ⟨g, b, none⟩ = some (.pointer (some ⟨(s.ch b).C, 0, none⟩)))
    (first | exact K0 | exact K1 | exact K2)
    (first | (go_at_call 46; refine hcall.mono ?_; rintro e w6 ⟨rfl, h6⟩; obtain ⟨K1, w7, hrun, K2, hput⟩ := FIN.out w6 h6; have HPUT := Lib.hid hput; clear h6 hput))
  all_goals
    go_wp2
    go_end0
    exact ⟨rfl, HPUT.out⟩
end
end Go.Proofs.Ytblclpagfbpamaa
