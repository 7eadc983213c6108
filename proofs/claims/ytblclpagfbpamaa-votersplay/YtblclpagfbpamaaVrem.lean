/-
  Remove of package voters. The conditions stand in each theorem.
-/
import Derived.Test.YtblclpagfbpamaaVupd
import Derived.StillTailTactics
namespace Go.Proofs.Ytblclpagfbpamaa
open Go.RowKit
set_option linter.unusedVariables false

section
variable {base : Nat} {w w' : World} {s : VS} {T : List Nat} {R : Nat → List (Int × Int)} {f : Int → Option V3} {n : Nat}
/-- Where a row's chain is read. -/
theorem Vl.rowAt (h : Vl base w s T R f n) {b : Nat} (hb : b < s.nb) : ∃ g cap, s.rv = .slice (some ⟨g, 0, none⟩) s.nb cap ∧ s.nb ≤ cap ∧ cap ≤ maxLen ∧ w.cell? ⟨g, b, none⟩ = some (.pointer (some ⟨(s.ch b).C, 0, none⟩)) := by
  rcases own_forms h.rows with ⟨_, h0, _⟩ | ⟨g, cap, hv, _, hc, hm, _, _⟩
  · omega
  · refine ⟨g, cap, hv, hc, hm, ?_⟩
    have hr := h.rows
    rw [hv] at hr
    have h1 : s.ptrs[b]? = some (.pointer (some ⟨(s.ch b).C, 0, none⟩)) := by
      unfold VS.ptrs
      rw [List.getElem?_map, List.getElem?_range hb]; rfl
    exact (hr.cellAt b (by omega)).trans h1
theorem setCh_m {s : VS} {b : Nat} {c : ChS Int} : (s.setCh b c).m = s.m := rfl
theorem setCh_p {s : VS} {b : Nat} {c : ChS Int} : (s.setCh b c).p = s.p := rfl
theorem setCh_rv {s : VS} {b : Nat} {c : ChS Int} : (s.setCh b c).rv = s.rv := rfl
theorem setCh_nb {s : VS} {b : Nat} {c : ChS Int} : (s.setCh b c).nb = s.nb := rfl
theorem ChToi.undrew {w w' : World} {s : ChS Int} {g : Int} {r : List (Int × Int)} (h : ChToi w.drew w' s g r) : ChToi w w' s g r := by
  obtain ⟨c, h1, h2, h3, h4, h5, h6⟩ := h
  exact ⟨c, h1, h2, h3, h4, ⟨h5.os, h5.tape, h5.output, h5.size, h5.block⟩, h6⟩
end
section
variable {base : Nat} {w : World} {p : Nat} {T : List Nat} {L : List Vt} {G : Nat}
theorem vrem_fin {w w5 w6 w7 : World} {s : VS} {hd : Int → Int} (hs : Vg base w s hd T L G) {i : Int} {y : Vt} (hf : fnd L i = some y) {m : Nat} (hm : s.m = some m) (hb5 : Below w.heap.size w w5)
    {c : ChS Int} (hg : c.g = (s.ch y.bag).g) (v6 : Vl base w6 (s.setCh y.bag c) T (updR (rowsOf hd L) y.bag (delR (hd i) (rowsOf hd L y.bag))) (f3 hd L) L.length) (t6 : Tw isV w5 w6) (b6 : Below base w5 w6)
    (hmp : Mv Try.prog 3 w7 (some m) (upd (f3 hd L) i none) (L.length - 1)) (hgr : w6.grownBy w7 (some m)) : VTo base w w7 s.p T (delV i L) G := by
  obtain ⟨v7, t7, b7⟩ := v6.mapped (by rw [setCh_m, hm]) hmp hgr
  obtain ⟨hx1, hx2⟩ := fnd_some hf
  have hlen : (delV i L).length = L.length - 1 := by
    have := (delV_perm hs.ok.nd hx1).length_eq
    rw [hx2, List.length_cons] at this
    omega
  refine ⟨⟨s.setCh y.bag c, hd, rfl, ⟨v7.eq (fun b => rowsOf_del hs.ok.nd hs.inj hf b) (fun j => f3_del hs.ok.nd j) hlen, hs.ful.imp (fun ⟨q1, q2, q3⟩ => ⟨q1, q2, by rw [q3]; rfl⟩) id, hs.ok.del i, fun b hb => ?_⟩⟩, ((hb5.mono hs.lay.base_le).trans b6).trans b7, (Tw.from hb5 t6).trans t7⟩
  have hb' : b < s.nb := hb
  by_cases e : b = y.bag
  · subst e; rw [setCh_same, hg]; exact hs.gs _ hb'
  · rw [setCh_other e]; exact hs.gs _ hb'
set_option maxRecDepth 100000 in
set_option maxHeartbeats 3200000 in
theorem vrem_any (h : VA base w p T L G) (i : Int) (hi : (Lit.int .i64 i).wf = true) :
    Calls Try.prog 12 #[.pointer (some ⟨p, 0, none⟩), .int .i64 i] w fun e w' => e = .returned (.int .i64 (remM L i).2) ∧ VTo base w w' p T (remM L i).1 G := by
  obtain ⟨s, hd, rfl, hs⟩ := h
  unfold remM
  cases hf : fnd L i with
  | none =>
    have hF := vfind_no hs.lay i hi (f3_none hf)
    have H := Lib.hid (show VA base w s.p T L G from ⟨s, hd, rfl, hs⟩)
    clear hs hf
    dsimp only
    go_enter Try.func12, Try.ntmps12
    go_wp2_with fail
    refine hF.mono ?_
    rintro e w1 ⟨rfl, hb⟩
    clear hF
    have hb2 : Below w.heap.size w (w1.alloc (.cells #[.int .u64 0, .int .i64 0, .int .i64 0] 65)) := hb.alloc hb.size _
    go_wp2
    go_ret
    exact ⟨rfl, VTo.of_below H.out hb2⟩
  | some y =>
    have hF := vfind_yes hs.lay i hi (f3_some (hd := hd) hf)
    obtain ⟨hbn, hmem, hnb, m, hm⟩ := hs.bag hf
    have HS := Lib.hid hs
    have HF := Lib.hid hf
    have HM := Lib.hid hm
    obtain ⟨hy, hyh⟩ : ∃ g, g = hd i := ⟨_, rfl⟩
    rw [← hyh] at hF hmem
    have HH := Lib.hid hyh
    have HMEM := Lib.hid hmem
    clear hs hf hm hyh hnb hmem
    dsimp only
    go_enter Try.func12, Try.ntmps12
    go_wp2_with fail
    refine hF.mono ?_
    rintro e w1 ⟨rfl, hb⟩
    clear hF
    obtain ⟨W, hW, hbW, hK⟩ := box3 hb y.st y.bag hy
    go_upto_region 4 with (fail)
    rw [← hW]
    have k1 := hK.cell 1
    have k2 := hK.cell 2
    simp at k1 k2
    generalize w1.heap.size = B at hK k1 k2 ⊢
    have hv := HS.out.lay.below hbW
    obtain ⟨g, cap, hrv, hc1, hc2, hcell⟩ := hv.rowAt hbn
    have c1 := hv.blk.cell 1
    rw [hrv] at c1
    simp at c1
    have hcall := remove_yesi (s.ch y.bag) hy W.drew (show Gdi W.drew _ from ⟨(hv.chn y.bag hbn).ch.drew, (hv.chn y.bag hbn).ring⟩) HMEM.out
    have HV := Lib.hid hv
    have HB := Lib.hid hbW
    generalize hvl : (s.ch y.bag).vl hy = vl at hcall
    have hbnI : (y.bag : Int) < (s.nb : Int) := by omega
    clear hW hb hv hK hrv hbW hvl
    go_still_tail 10, (by kernel_rfl)
    change wpList _ _ _ _ _ W.drew
    go_wp2_with fail
    refine hcall.mono ?_
    rintro e w6 ⟨rfl, h6⟩
    obtain ⟨c, e1, e2, v6, t6, b6⟩ := HV.out.chain hbn (ChToi.undrew h6)
    have hrr : (s.ch y.bag).row = rowsOf hd L y.bag := HV.out.row y.bag hbn
    rw [hrr, HH.out] at v6
    have c2 := v6.blk.cell 2
    have hmp := v6.mp
    rw [setCh_m, HM.out] at c2 hmp
    simp at c2
    have HC := Lib.hid (And.intro e2 (And.intro v6 (And.intro t6 b6)))
    have hfi : f3 hd L i = some (y.st, y.bag, hd i) := f3_some HF.out
    clear hcall h6 e1 e2 v6 t6 b6 hrr k1 k2 c1 hcell
    rw [setCh_p] at c2
    go_wp2_with (at_delete; refine wpList_voDrop rfl _ _ _ rfl hmp Try.underlying3 Try.underlying61 hi hfi rfl rfl ?_; intro w7 hmp7 hgr; have hfin := Lib.hid (vrem_fin HS.out HF.out HM.out HB.out HC.out.1 HC.out.2.1 HC.out.2.2.1 HC.out.2.2.2 hmp7 hgr); clear hmp hmp7 hgr c2)
    go_ret
    exact ⟨rfl, hfin.out⟩
end
end Go.Proofs.Ytblclpagfbpamaa
