/-
  Insert and Rebag of package voters. The conditions stand in each theorem.
-/
import Derived.Test.YtblclpagfbpamaaVopen
namespace Go.Proofs.Ytblclpagfbpamaa
open Go.RowKit
set_option linter.unusedVariables false

theorem wfG {g : Int} {G : Nat} (h0 : 0 ≤ g) (h : g ≤ G) (hG : G < 4611686018427387904) : (Lit.int .i64 (g + 1)).wf = true := by
  have h1 : IntKind.i64.max = 9223372036854775807 := by decide
  have h2 : IntKind.i64.min = -9223372036854775808 := by decide
  simp only [Lit.wf, decide_eq_true_eq, Bool.and_eq_true]
  omega
theorem upd_twice {β : Type} (f : Int → β) (h : Int) (x y : β) : upd (upd f h x) h y = upd f h y := by funext k; unfold upd; split <;> rfl
section
variable {base : Nat} {w : World} {p : Nat} {T : List Nat} {L : List Vt} {G : Nat}
/-- What is put last is a voter more. -/
theorem vput_fin {w' : World} {s : VS} {hd : Int → Int} (hs : Vg base w s hd T L G) (hnb : s.nb = T.length + 1) {m : Nat} (hm : s.m = some m) {i : Int} (hi : (Lit.int .i64 i).wf = true) {x : Nat} (hx : x < 18446744073709551616) (hf : fnd L i = none)
    (hp : PutTo base w w' s T (rowsOf hd L) (f3 hd L) L.length i x (bagN T x)) : VTo base w w' s.p T (lastV ⟨i, x, bagN T x⟩ L) (G + 1) := by
  obtain ⟨c, e1, e2, v, t, b⟩ := hp
  have hb : bagN T x < s.nb := by have := bagN_le T x; omega
  have hok := hs.ok.last (x := ⟨i, x, bagN T x⟩) (fnd_none hf) (bagN_le T x) hx hi
  rw [f3_none hf] at v
  refine ⟨⟨s.setCh (bagN T x) c, upd hd i ((s.ch (bagN T x)).g + 1), rfl, ⟨v.eq (fun q => rowsOf_last hs.ok.desc (x := ⟨i, x, bagN T x⟩) (fnd_none hf) q) (fun j => f3_cons (x := ⟨i, x, bagN T x⟩) hok.nd (lastV_perm _ L) j) (lastV_perm _ L).length_eq, .inr ⟨hnb, m, hm⟩, hok, fun q hq => ?_⟩⟩, b, t⟩
  have hq' : q < s.nb := hq
  by_cases e : q = bagN T x
  · rw [e, setCh_same, e2]; have := hs.gs _ hb; omega
  · rw [setCh_other e]; have := hs.gs _ hq'; omega
theorem VA.len_le (h : VA base w p T L G) : True := trivial
set_option maxRecDepth 100000 in
set_option maxHeartbeats 1600000 in
theorem vins_any (h : VA base w p T L G) (hl : L.length < maxLen) (hG : G < 4611686018427387904) (i : Int) (hi : (Lit.int .i64 i).wf = true) (x : Nat) (hx : x < 18446744073709551616) :
    Calls Try.prog 10 #[.pointer (some ⟨p, 0, none⟩), .int .i64 i, .int .u64 x] w fun e w' => e = .returned (.int .i64 (insM T L i x).2) ∧ VTo base w w' p T (insM T L i x).1 (G + 1) := by
  obtain ⟨s, hd, rfl, hs⟩ := h
  have c2 := hs.lay.blk.cell 2
  simp at c2
  have hl1 := hs.lay.look i hi
  unfold insM
  cases hf : fnd L i with
  | some y =>
    rw [f3_some hf] at hl1
    replace hl1 : (Instr.lookup 61 (.map s.m) (.int .i64 i) true).run Try.prog w = .ok (.tuple #[.agg #[.int .u64 (y.st : Nat), .int .i64 (y.bag : Nat), .int .i64 (hd i)], .bool true]) w := hl1
    have H := Lib.hid (show VA base w s.p T L (G + 1) from ⟨s, hd, rfl, hs.lay, hs.ful, hs.ok, fun b hb => by have := hs.gs b hb; omega⟩)
    generalize hd i = hh at hl1
    clear hs hf
    dsimp only
    have hb2 : Below w.heap.size w (w.alloc (.cells #[.int .u64 (y.st : Nat), .int .i64 (y.bag : Nat), .int .i64 hh] 65)) := (Below.refl _ w).alloc (Nat.le_refl _) _
    go_enter Try.func10, Try.ntmps10
    go_wp2
    go_ret
    exact ⟨rfl, VTo.of_below H.out hb2⟩
  | none =>
    rw [f3_none hf] at hl1
    replace hl1 : (Instr.lookup 61 (.map s.m) (.int .i64 i) true).run Try.prog w = .ok (.tuple #[.agg #[.int .u64 0, .int .i64 0, .int .i64 0], .bool false]) w := hl1
    have hb2 : Below w.heap.size w (w.alloc (.cells #[.int .u64 0, .int .i64 0, .int .i64 0] 65)) := (Below.refl _ w).alloc (Nat.le_refl _) _
    have hs2 : Vg base (w.alloc (.cells #[.int .u64 0, .int .i64 0, .int .i64 0] 65)) s hd T L G := ⟨hs.lay.below hb2, hs.ful, hs.ok, hs.gs⟩
    have hop := vopen_any hs2
    have HB := Lib.hid (And.intro hs.lay.base_le hb2)
    have HF := Lib.hid hf
    clear hs hf hb2 hs2
    dsimp only
    go_enter Try.func10, Try.ntmps10
    go_wp2_with fail
    refine hop.mono ?_
    rintro e w3 ⟨rfl, s3, hp3, hnb3, hs3, t3, b3⟩
    clear hop c2 hl1
    have hb : bagN T x < s3.nb := by have := bagN_le T x; omega
    obtain ⟨m, hm⟩ : ∃ m, s3.m = some m := by
      rcases hs3.ful with ⟨h0, _⟩ | ⟨_, h1⟩
      · omega
      · exact h1
    have hle := (hs3.lay.chn _ hb).len_le
    have hg0 := (hs3.lay.chn _ hb).ch.g0
    have hgs := hs3.gs _ hb
    have hput := vput_any hs3.lay hm hnb3 hl i hi x (wfG hg0 hgs hG) (by unfold maxLen; omega)
    rw [hp3] at hput
    have FIN : ∀ w', PutTo base w3 w' s3 T (rowsOf hd L) (f3 hd L) L.length i x (bagN T x) → VTo base w w' s.p T (lastV ⟨i, x, bagN T x⟩ L) (G + 1) := fun w' h => by
      have := vput_fin hs3 hnb3 hm hi hx HF.out h
      rw [hp3] at this
      exact ⟨this.va, (HB.out.2.mono HB.out.1).trans (b3.trans this.bel), Tw.from HB.out.2 (t3.trans this.tw)⟩
    have FN := Lib.hid FIN
    clear FIN hle hg0 hgs hm hs3 hnb3 hb t3 b3 hp3
    go_wp2_with fail
    refine hput.mono ?_
    rintro e w4 ⟨rfl, h4⟩
    have H4 := Lib.hid (FN.out w4 h4)
    clear h4 hput
    go_wp2
    go_ret
    exact ⟨rfl, H4.out⟩

theorem vreb_fin {w w5 w6 w7 : World} {s : VS} {hd : Int → Int} (hs : Vg base w s hd T L G) {i : Int} {y : Vt} (hf : fnd L i = some y) {m : Nat} (hm : s.m = some m) (hnb : s.nb = T.length + 1) (hne : y.bag ≠ bagN T y.st) (hb5 : Below w.heap.size w w5)
    {c : ChS Int} (hg : c.g = (s.ch y.bag).g) (t6 : Tw isV w5 w6) (b6 : Below base w5 w6)
    (hp : PutTo base w6 w7 (s.setCh y.bag c) T (updR (rowsOf hd L) y.bag (delR (hd i) (rowsOf hd L y.bag))) (f3 hd L) L.length i y.st (bagN T y.st)) : VTo base w w7 s.p T (lastV { y with bag := bagN T y.st } (delV i L)) (G + 1) := by
  obtain ⟨c', e1, e2, v, t, b⟩ := hp
  obtain ⟨hx1, hx2⟩ := fnd_some hf
  subst hx2
  have hb : bagN T y.st < s.nb := by have := bagN_le T y.st; omega
  have hy : ∀ z ∈ delV y.id L, z.id ≠ ({ y with bag := bagN T y.st } : Vt).id := fun z hz => (delV_mem.1 hz).2
  have hok := (hs.ok.del y.id).last (x := { y with bag := bagN T y.st }) hy (bagN_le T y.st) (hs.ok.st y hx1) (hs.ok.wf y hx1)
  have hlen : (lastV { y with bag := bagN T y.st } (delV y.id L)).length = L.length := by
    have h1 := (delV_perm hs.ok.nd hx1).length_eq
    have h2 := (lastV_perm { y with bag := bagN T y.st } (delV y.id L)).length_eq
    simp only [List.length_cons] at h1 h2
    omega
  have hR : updR (rowsOf hd L) y.bag (delR (hd y.id) (rowsOf hd L y.bag)) = rowsOf hd (delV y.id L) := funext fun q => (rowsOf_del hs.ok.nd hs.inj hf q).symm
  rw [f3_some hf, hR] at v
  have hgc : ((s.setCh y.bag c).ch (bagN T y.st)).g = (s.ch (bagN T y.st)).g := by rw [setCh_other (fun e => hne e.symm)]
  have hgb := hs.gs _ hb
  rw [← hgc] at hgb
  generalize hgg : ((s.setCh y.bag c).ch (bagN T y.st)).g + 1 = g' at v e2
  refine ⟨⟨(s.setCh y.bag c).setCh (bagN T y.st) c', upd hd y.id g', rfl, ⟨v.eq (fun q => rowsOf_last (hs.ok.del y.id).desc (x := { y with bag := bagN T y.st }) hy q) (fun j => ?_) hlen, .inr ⟨hnb, m, hm⟩, hok, fun q hq => ?_⟩⟩, ((hb5.mono hs.lay.base_le).trans b6).trans b, (Tw.from hb5 t6).trans t⟩
  · rw [f3_cons (x := { y with bag := bagN T y.st }) hok.nd (lastV_perm _ _) j]
    have h3 : f3 hd (delV y.id L) = upd (f3 hd L) y.id none := funext fun q => f3_del hs.ok.nd q
    rw [h3, upd_twice]
  · have hq' : q < s.nb := hq
    by_cases q1 : q = bagN T y.st
    · rw [q1, setCh_same, e2]; omega
    · rw [setCh_other q1]
      by_cases q2 : q = y.bag
      · rw [q2, setCh_same, hg]; have := hs.gs _ (q2 ▸ hq'); omega
      · rw [setCh_other q2]; have := hs.gs _ hq'; omega
set_option maxRecDepth 100000 in
set_option maxHeartbeats 3200000 in
theorem vreb_any (h : VA base w p T L G) (hl : L.length < maxLen) (hG : G < 4611686018427387904) (i : Int) (hi : (Lit.int .i64 i).wf = true) :
    Calls Try.prog 16 #[.pointer (some ⟨p, 0, none⟩), .int .i64 i] w fun e w' => e = .returned (.int .i64 (rebM T L i).2) ∧ VTo base w w' p T (rebM T L i).1 (G + 1) := by
  obtain ⟨s, hd, rfl, hs⟩ := h
  unfold rebM
  have HM1 := Lib.hid (show VA base w s.p T L (G + 1) from ⟨s, hd, rfl, hs.lay, hs.ful, hs.ok, fun b hb => by have := hs.gs b hb; omega⟩)
  cases hf : fnd L i with
  | none =>
    have hF := vfind_no hs.lay i hi (f3_none hf)
    clear hs hf
    dsimp only
    go_enter Try.func16, Try.ntmps16
    go_wp2_with fail
    refine hF.mono ?_
    rintro e w1 ⟨rfl, hb⟩
    clear hF
    have hb2 : Below w.heap.size w (w1.alloc (.cells #[.int .u64 0, .int .i64 0, .int .i64 0] 65)) := hb.alloc hb.size _
    go_wp2
    go_ret
    exact ⟨rfl, VTo.of_below HM1.out hb2⟩
  | some y =>
    have hF := vfind_yes hs.lay i hi (f3_some (hd := hd) hf)
    obtain ⟨hbn, hmem, hnb, m, hm⟩ := hs.bag hf
    have HS := Lib.hid hs
    have HF := Lib.hid hf
    have HM := Lib.hid hm
    have HNB := Lib.hid hnb
    obtain ⟨hy, hyh⟩ : ∃ g, g = hd i := ⟨_, rfl⟩
    rw [← hyh] at hF hmem
    have HH := Lib.hid hyh
    have HMEM := Lib.hid hmem
    clear hs hf hm hyh hnb hmem
    dsimp only
    obtain ⟨res, hres⟩ : ∃ res, res = (if y.bag = bagN T y.st then (L, (10 : Int)) else (lastV { y with bag := bagN T y.st } (delV i L), 0)) := ⟨_, rfl⟩
    rw [← hres]
    have HRES := Lib.hid hres
    clear hres
    go_enter Try.func16, Try.ntmps16
    go_wp2_with fail
    refine hF.mono ?_
    rintro e w1 ⟨rfl, hb⟩
    clear hF
    obtain ⟨W, hW, hbW, hK⟩ := box3 hb y.st y.bag hy
    go_upto_region 4 with (fail)
    rw [← hW]
    have hbs : w.heap.size ≤ w1.heap.size := hb.size
    generalize w1.heap.size = B at hK hbs ⊢
    clear hW hb
    have k0 := hK.cell 0
    have k1 := hK.cell 1
    simp at k0 k1
    have hv := HS.out.lay.below hbW
    have hP := fun W' (hv' : Vl base W' s T (rowsOf hd L) (f3 hd L) L.length) => vproper_any hv' y.st
    have HV := Lib.hid hv
    have HK := Lib.hid hK
    have HPc := hP W.drew (hv.keep (fun _ _ => rfl))
    obtain ⟨b', hbe⟩ : ∃ b', b' = bagN T y.st := ⟨_, rfl⟩
    rw [← hbe] at HPc
    have HBE := Lib.hid hbe
    have K0 : W.drew.cell? ⟨B, 0, none⟩ = some (.int .u64 (y.st : Nat)) ∧ W.drew.cell? ⟨B, 1, none⟩ = some (.int .i64 (y.bag : Nat)) := ⟨k0, k1⟩
    have HBW := Lib.hid (And.intro hbW hbs)
    clear hv hK hP hbe hbW hbs
    go_region_held3 (fun W' => W'.cell? ⟨B, 0, none⟩ = some (.int .u64 (y.st : Nat)) ∧ W'.cell? ⟨B, 1, none⟩ = some (.int .i64 (y.bag : Nat)))
      (first | exact K0 | exact K1)
      (first | (go_at_call 39; refine HPc.mono ?_; rintro e w6 ⟨rfl, hq⟩; have K1 : w6.cell? ⟨B, 0, none⟩ = some (.int .u64 (y.st : Nat)) ∧ w6.cell? ⟨B, 1, none⟩ = some (.int .i64 (y.bag : Nat)) := (by obtain ⟨q, rfl⟩ := hq; exact K0); have HQ := Lib.hid hq; clear hq))
    by_cases hbb : y.bag = b'
    · have hbq : ((y.bag : Int) == (b' : Int)) = true := by simp [hbb]
      have hr : res = (L, 10) := by rw [HRES.out, if_pos (by rw [← HBE.out]; exact hbb)]
      have HR := Lib.hid hr
      clear hbb hr
      go_wp2
      go_ret
      obtain ⟨q, rfl⟩ := HQ.out
      rw [HR.out]
      refine ⟨rfl, VTo.of_below HM1.out ?_⟩
      exact ⟨HBW.out.1.os, HBW.out.1.tape, HBW.out.1.output, HBW.out.1.size, HBW.out.1.block⟩
    · have hbq : ((y.bag : Int) == (b' : Int)) = false := by simp; omega
      have hne : y.bag ≠ bagN T y.st := by rw [← HBE.out]; exact hbb
      have hr : res = (lastV { y with bag := bagN T y.st } (delV i L), 0) := by rw [HRES.out, if_neg hne]
      have HR := Lib.hid hr
      have HNE := Lib.hid hne
      have hbW6 : Below w.heap.size w w6 := by
        obtain ⟨q, rfl⟩ := HQ.out
        exact ⟨HBW.out.1.os, HBW.out.1.tape, HBW.out.1.output, HBW.out.1.size, HBW.out.1.block⟩
      have hK6 : KB w6 B 65 #[.int .u64 (y.st : Nat), .int .i64 (y.bag : Nat), .int .i64 hy] := by
        obtain ⟨q, rfl⟩ := HQ.out
        exact HK.out
      clear K0 K1 HPc k0 k1 hbb hr hne HQ HV HK
      go_upto_region 6 with (fail)
      have hv6 := HS.out.lay.below hbW6
      have k1 := hK6.cell 1
      have k2 := hK6.cell 2
      simp at k1 k2
      obtain ⟨g, cap, hrv, hc1, hc2, hcell⟩ := hv6.rowAt hbn
      have c1 := hv6.blk.cell 1
      rw [hrv] at c1
      simp at c1
      have hcall := remove_yesi (s.ch y.bag) hy w6.drew (show Gdi w6.drew _ from ⟨(hv6.chn y.bag hbn).ch.drew, (hv6.chn y.bag hbn).ring⟩) HMEM.out
      have HV := Lib.hid hv6
      have HK := Lib.hid hK6
      have HB6 := Lib.hid hbW6
      generalize hvl : (s.ch y.bag).vl hy = vl at hcall
      have hbnI : (y.bag : Int) < (s.nb : Int) := by omega
      clear hv6 hK6 hrv hbW6 hvl
      go_still_tail 10, (by kernel_rfl)
      change wpList _ _ _ _ _ w6.drew
      go_wp2_with fail
      refine hcall.mono ?_
      rintro e w7 ⟨rfl, h7⟩
      obtain ⟨c, e1, e2, v7, t7, b7⟩ := HV.out.chain hbn (ChToi.undrew h7)
      have hrr : (s.ch y.bag).row = rowsOf hd L y.bag := HV.out.row y.bag hbn
      rw [hrr, HH.out] at v7
      have hb : bagN T y.st < s.nb := by rw [HNB.out]; have := bagN_le T y.st; omega
      have hch : (s.setCh y.bag c).ch (bagN T y.st) = s.ch (bagN T y.st) := setCh_other (fun e => HNE.out e.symm)
      have hle := (HS.out.lay.chn _ hb).len_le
      have hg0 := (HS.out.lay.chn _ hb).ch.g0
      have hgs := HS.out.gs _ hb
      have hput := vput_any v7 (m := m) HM.out HNB.out hl i hi y.st (by rw [hch]; exact wfG hg0 hgs hG) (by rw [hch]; unfold maxLen; omega)
      rw [setCh_p] at hput
      have k70 : w7.cell? ⟨B, 0, none⟩ = some (.int .u64 (y.st : Nat)) := by
        have := (HK.out.tw t7 (by rw [HK.out.isV_iff]; decide)).cell 0
        simpa using this
      have FIN : ∀ w', PutTo base w7 w' (s.setCh y.bag c) T (updR (rowsOf hd L) y.bag (delR (hd i) (rowsOf hd L y.bag))) (f3 hd L) L.length i y.st (bagN T y.st) → VTo base w w' s.p T (lastV { y with bag := bagN T y.st } (delV i L)) (G + 1) := fun w' h =>
        vreb_fin HS.out HF.out HM.out HNB.out HNE.out HB6.out e2 t7 b7 h
      have FN := Lib.hid FIN
      clear FIN hle hg0 hgs hch hb hrr v7 t7 b7 e1 e2 h7 hcall c1 hcell k1 k2
      go_wp2_with fail
      refine hput.mono ?_
      rintro e w8 ⟨rfl, h8⟩
      have H8 := Lib.hid (FN.out w8 h8)
      clear h8 hput
      go_wp2
      go_ret
      rw [HR.out]
      exact ⟨rfl, H8.out⟩
end
end Go.Proofs.Ytblclpagfbpamaa
