/-
  Front of package voters; the five calls on nil voters. The conditions stand in each theorem.
-/
import Derived.Test.YtblclpagfbpamaaVins
namespace Go.Proofs.Ytblclpagfbpamaa
open Go.RowKit
set_option linter.unusedVariables false

section
variable {base : Nat} {w : World} {p : Nat} {T : List Nat} {L : List Vt} {G : Nat}
theorem vfro_fin {w w5 w6 : World} {s : VS} {hd : Int → Int} (hs : Vg base w s hd T L G) {i o : Int} {y z : Vt} (hf : fnd L i = some y) (ho : fnd L o = some z) (hb : y.bag = z.bag) (hne : o ≠ i) (hb5 : Below w.heap.size w w5)
    {c : ChS Int} (hg : c.g = (s.ch y.bag).g) (v6 : Vl base w6 (s.setCh y.bag c) T (updR (rowsOf hd L) y.bag (insB (hd o) (hd i, i) (delR (hd i) (rowsOf hd L y.bag)))) (f3 hd L) L.length) (t6 : Tw isV w5 w6) (b6 : Below base w5 w6) : VTo base w w6 s.p T (insV o y (delV i L)) G := by
  obtain ⟨hx1, hx2⟩ := fnd_some hf
  obtain ⟨hz1, hz2⟩ := fnd_some ho
  subst hx2
  have hzd : z ∈ delV y.id L := delV_mem.2 ⟨hz1, by rw [hz2]; exact hne⟩
  have hp : L.Perm (insV o y (delV y.id L)) := (delV_perm hs.ok.nd hx1).trans (insV_perm o y (delV y.id L)).symm
  have hok : VOk T.length (insV o y (delV y.id L)) := (hs.ok.del y.id).ins hzd hz2 hb.symm (fun q hq => (delV_mem.1 hq).2) (hs.ok.st y hx1) (hs.ok.wf y hx1)
  have hR : rowsOf hd (delV y.id L) = updR (rowsOf hd L) y.bag (delR (hd y.id) (rowsOf hd L y.bag)) := funext fun q => rowsOf_del hs.ok.nd hs.inj hf q
  refine ⟨⟨s.setCh y.bag c, hd, rfl, ⟨v6.eq (fun q => ?_) (fun j => f3_perm hs.ok.nd hp j) hp.length_eq.symm, ?_, hok, fun q hq => ?_⟩⟩, (hb5.mono hs.lay.base_le).trans b6, Tw.from hb5 t6⟩
  · rw [rowsOf_ins (hs.ok.del y.id).nd hs.inj.del hzd hz2 hb.symm q, hR, updR_updR, updR_same]
  · rcases hs.ful with ⟨_, _, h0⟩ | h1
    · rw [h0] at hx1; cases hx1
    · exact .inr h1
  · have hq' : q < s.nb := hq
    by_cases e : q = y.bag
    · subst e; rw [setCh_same, hg]; exact hs.gs _ hq'
    · rw [setCh_other e]; exact hs.gs _ hq'
set_option maxRecDepth 100000 in
set_option maxHeartbeats 3200000 in
theorem vfro_any (h : VA base w p T L G) (i o : Int) (hi : (Lit.int .i64 i).wf = true) (ho : (Lit.int .i64 o).wf = true) :
    Calls Try.prog 18 #[.pointer (some ⟨p, 0, none⟩), .int .i64 i, .int .i64 o] w fun e w' => e = .returned (.int .i64 (froM L i o).2) ∧ VTo base w w' p T (froM L i o).1 G := by
  obtain ⟨s, hd, rfl, hs⟩ := h
  obtain ⟨res, hres⟩ : ∃ res, res = froM L i o := ⟨_, rfl⟩
  rw [← hres]
  unfold froM at hres
  have HA := Lib.hid (show VA base w s.p T L G from ⟨s, hd, rfl, hs⟩)
  cases hf : fnd L i with
  | none =>
    have hF := vfind_no hs.lay i hi (f3_none hf)
    rw [hf] at hres
    have HRES := Lib.hid hres
    clear hs hf hres
    go_enter Try.func18, Try.ntmps18
    go_wp2_with fail
    refine hF.mono ?_
    rintro e w1 ⟨rfl, hb⟩
    clear hF
    have hb2 : Below w.heap.size w (w1.alloc (.cells #[.int .u64 0, .int .i64 0, .int .i64 0] 65)) := hb.alloc hb.size _
    go_wp2
    go_ret
    rw [HRES.out]
    exact ⟨rfl, VTo.of_below HA.out hb2⟩
  | some y =>
    have hF := vfind_yes hs.lay i hi (f3_some (hd := hd) hf)
    rw [hf] at hres
    obtain ⟨hbn, hmem, hnb, m, hm⟩ := hs.bag hf
    obtain ⟨hy, hyh⟩ : ∃ g, g = hd i := ⟨_, rfl⟩
    rw [← hyh] at hF hmem
    have HS := Lib.hid hs
    have HF := Lib.hid hf
    have HH := Lib.hid hyh
    have HMEM := Lib.hid hmem
    have HRES := Lib.hid hres
    clear hs hf hres hm hyh hnb hmem
    go_enter Try.func18, Try.ntmps18
    go_wp2_with fail
    refine hF.mono ?_
    rintro e w1 ⟨rfl, hb⟩
    clear hF
    obtain ⟨W, hW, hbW, hK⟩ := box3 hb y.st y.bag hy
    go_upto_region 4 with (fail)
    rw [← hW]
    have hbs : w.heap.size ≤ w1.heap.size := hb.size
    generalize w1.heap.size = B at hK hbs ⊢
    clear hW hb
    have hv := HS.out.lay.below hbW
    cases ho2 : fnd L o with
    | none =>
      have hF := vfind_no hv o ho (f3_none ho2)
      have hr : res = (L, 5) := by rw [HRES.out, ho2]
      have HR := Lib.hid hr
      have HB := Lib.hid hbW
      clear hv hr ho2 hK hbW
      go_wp2_with fail
      refine hF.mono ?_
      rintro e w2 ⟨rfl, hb⟩
      clear hF
      have hb2 : Below w.heap.size w (w2.alloc (.cells #[.int .u64 0, .int .i64 0, .int .i64 0] 65)) := (HB.out.trans (hb.mono HB.out.size)).alloc (Nat.le_trans HB.out.size hb.size) _
      go_wp2
      go_ret
      rw [HR.out]
      exact ⟨rfl, VTo.of_below HA.out hb2⟩
    | some z =>
      have hF := vfind_yes hv o ho (f3_some (hd := hd) ho2)
      have hmemz := (HS.out.bag ho2).2.1
      obtain ⟨hz, hzh⟩ : ∃ g, g = hd o := ⟨_, rfl⟩
      rw [← hzh] at hF hmemz
      have HHZ := Lib.hid hzh
      have HMEMZ := Lib.hid hmemz
      have HO := Lib.hid ho2
      have hr : res = if y.bag ≠ z.bag ∨ y.st ≤ z.st then (L, 10) else (insV o y (delV i L), 0) := by rw [HRES.out, ho2]
      have HR := Lib.hid hr
      have HB := Lib.hid hbW
      have HK := Lib.hid hK
      clear hv hr ho2 hK hbW hzh hmemz
      go_wp2_with fail
      refine hF.mono ?_
      rintro e w2 ⟨rfl, hb⟩
      clear hF
      obtain ⟨W2, hW2, hbW2, hK2⟩ := box3 hb z.st z.bag hz
      go_upto_region 7 with (fail)
      rw [← hW2]
      have k1 := (HK.out.below hbW2 HK.out.lt)
      have hne2 : W.heap.size ≤ w2.heap.size := hb.size
      generalize w2.heap.size = B2 at hK2 hne2 ⊢
      have j0 := k1.cell 0
      have j1 := k1.cell 1
      have j2 := k1.cell 2
      have l0 := hK2.cell 0
      have l1 := hK2.cell 1
      have l2 := hK2.cell 2
      simp at j0 j1 j2 l0 l1 l2
      have hbw : Below w.heap.size w W2 := HB.out.trans (hbW2.mono HB.out.size)
      clear hW2 hb k1 hK2 hbW2
      have HBW := Lib.hid hbw
      by_cases hbb : y.bag = z.bag
      · have hbq : ((y.bag : Int) == (z.bag : Int)) = true := by simp [hbb]
        have hbq2 : ((y.bag : Int) != (z.bag : Int)) = false := by simp [hbb]
        by_cases hst : y.st ≤ z.st
        · have hsi : (y.st : Int) ≤ (z.st : Int) := by omega
          have hr : res = (L, 10) := by rw [HR.out, if_pos (.inr hst)]
          have HRR := Lib.hid hr
          clear hr hbb hbw
          go_wp2
          go_ret
          rw [HRR.out]
          exact ⟨rfl, VTo.of_below HA.out HBW.out⟩
        · have hsi : ¬ (y.st : Int) ≤ (z.st : Int) := by omega
          have hr : res = (insV o y (delV i L), 0) := by rw [HR.out, if_neg (by rintro (h | h); exact h hbb; exact hst h)]
          have HRR := Lib.hid hr
          have hio : o ≠ i := fun e => by
            have h1 := HF.out
            rw [← e, HO.out] at h1
            cases h1
            exact hst (Nat.le_refl _)
          have hhd : hy ≠ hz := fun e => hio (by
            obtain ⟨q1, q2⟩ := fnd_some HF.out
            obtain ⟨q3, q4⟩ := fnd_some HO.out
            have := HS.out.inj y.bag y (List.mem_filter.2 ⟨q1, by simp⟩) z (List.mem_filter.2 ⟨q3, by simp [hbb]⟩) (by rw [q2, q4, ← HH.out, ← HHZ.out, e])
            rw [q2, q4] at this
            exact this.symm)
          have hv6 := HS.out.lay.below hbw
          obtain ⟨g, cap, hrv, hc1, hc2, hcell⟩ := hv6.rowAt hbn
          have c1 := hv6.blk.cell 1
          rw [hrv] at c1
          simp at c1
          have hcall := move_yesi (s.ch y.bag) hy hz W2.drew (show Gdi W2.drew _ from ⟨(hv6.chn y.bag hbn).ch.drew, (hv6.chn y.bag hbn).ring⟩) HMEM.out (by rw [hbb]; exact HMEMZ.out) hhd
          have hvl := HS.out.vl HF.out
          rw [← HH.out] at hvl
          have hrr : (s.ch y.bag).row = rowsOf hd L y.bag := HS.out.lay.row y.bag hbn
          rw [hvl, hrr] at hcall
          have FIN : ∀ w', ChToi W2.drew w' (s.ch y.bag) (s.ch y.bag).g (insB hz (hy, i) (delR hy (rowsOf hd L y.bag))) → VTo base w w' s.p T (insV o y (delV i L)) G := fun w' h => by
            obtain ⟨c, e1, e2, v7, t7, b7⟩ := hv6.chain hbn (ChToi.undrew h)
            rw [HH.out, HHZ.out] at v7
            exact vfro_fin HS.out HF.out HO.out hbb hio HBW.out e2 v7 t7 b7
          have FN := Lib.hid FIN
          have hbnI : (y.bag : Int) < (s.nb : Int) := by omega
          clear FIN hv6 hrv hvl hrr hio hhd hr hbw hst hbb
          go_upto_region 9 with (fail)
          clear hbq hbq2 hsi
          go_still_tail 12, (by kernel_rfl)
          change wpList _ _ _ _ _ W2.drew
          go_wp2_with fail
          refine hcall.mono ?_
          rintro e w7 ⟨rfl, h7⟩
          have H7 := Lib.hid (FN.out w7 h7)
          clear h7 hcall
          go_wp2
          go_ret
          rw [HRR.out]
          exact ⟨rfl, H7.out⟩
      · have hbq : ((y.bag : Int) == (z.bag : Int)) = false := by simp; omega
        have hbq2 : ((y.bag : Int) != (z.bag : Int)) = true := by simp; omega
        have hr : res = (L, 10) := by rw [HR.out, if_pos (.inl hbb)]
        have HRR := Lib.hid hr
        clear hr hbb hbw
        go_wp2
        go_ret
        rw [HRR.out]
        exact ⟨rfl, VTo.of_below HA.out HBW.out⟩
end

/-! Nil voters. -/
set_option maxRecDepth 100000 in
set_option maxHeartbeats 800000 in
theorem vrem_nil (i : Int) (w : World) : Calls Try.prog 12 #[.pointer none, .int .i64 i] w fun e w' => e = .returned (.int .i64 1) ∧ Below w.heap.size w w' := by
  go_enter Try.func12, Try.ntmps12
  go_wp2_with fail
  refine (vfind_nil i w).mono ?_
  rintro e w1 ⟨rfl, hb⟩
  have hb2 : Below w.heap.size w (w1.alloc (.cells #[.int .u64 0, .int .i64 0, .int .i64 0] 65)) := hb.alloc hb.size _
  go_wp2
  go_ret
  exact ⟨rfl, hb2⟩
set_option maxRecDepth 100000 in
set_option maxHeartbeats 800000 in
theorem vupd_nil (i : Int) (x : Nat) (w : World) : Calls Try.prog 14 #[.pointer none, .int .i64 i, .int .u64 (x : Nat)] w fun e w' => e = .returned (.int .i64 1) ∧ Below w.heap.size w w' := by
  go_enter Try.func14, Try.ntmps14
  go_wp2_with fail
  refine (vfind_nil i w).mono ?_
  rintro e w1 ⟨rfl, hb⟩
  have hb2 : Below w.heap.size w (w1.alloc (.cells #[.int .u64 0, .int .i64 0, .int .i64 0] 65)) := hb.alloc hb.size _
  go_wp2
  go_ret
  exact ⟨rfl, hb2⟩
set_option maxRecDepth 100000 in
set_option maxHeartbeats 800000 in
theorem vreb_nil (i : Int) (w : World) : Calls Try.prog 16 #[.pointer none, .int .i64 i] w fun e w' => e = .returned (.int .i64 1) ∧ Below w.heap.size w w' := by
  go_enter Try.func16, Try.ntmps16
  go_wp2_with fail
  refine (vfind_nil i w).mono ?_
  rintro e w1 ⟨rfl, hb⟩
  have hb2 : Below w.heap.size w (w1.alloc (.cells #[.int .u64 0, .int .i64 0, .int .i64 0] 65)) := hb.alloc hb.size _
  go_wp2
  go_ret
  exact ⟨rfl, hb2⟩
set_option maxRecDepth 100000 in
set_option maxHeartbeats 800000 in
theorem vfro_nil (i o : Int) (w : World) : Calls Try.prog 18 #[.pointer none, .int .i64 i, .int .i64 o] w fun e w' => e = .returned (.int .i64 1) ∧ Below w.heap.size w w' := by
  go_enter Try.func18, Try.ntmps18
  go_wp2_with fail
  refine (vfind_nil i w).mono ?_
  rintro e w1 ⟨rfl, hb⟩
  have hb2 : Below w.heap.size w (w1.alloc (.cells #[.int .u64 0, .int .i64 0, .int .i64 0] 65)) := hb.alloc hb.size _
  go_wp2
  go_ret
  exact ⟨rfl, hb2⟩
theorem vins_nil (i : Int) (x : Nat) (w : World) : Calls Try.prog 10 #[.pointer none, .int .i64 i, .int .u64 (x : Nat)] w fun e w' => e = .returned (.int .i64 1) ∧ w = w' := by
  go_enter Try.func10, Try.ntmps10
  go_wp2
  go_ret
  exact ⟨rfl, rfl⟩
end Go.Proofs.Ytblclpagfbpamaa
