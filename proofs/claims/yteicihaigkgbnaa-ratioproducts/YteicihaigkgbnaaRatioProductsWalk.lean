/-
  The walk of the law RatioProducts: for every two fractions that can be read the call returns true and writes nothing that was there.
-/
import Derived.Test.YteicihaigkgbnaaTwo3
namespace Go.Proofs.Yteicihaigkgbnaa
open Go.RowKit

set_option maxRecDepth 100000 in
set_option maxHeartbeats 1600000 in
theorem rprods_few (A B C D : Option Addr) (n c m d n' c' m' d' : Nat) (xs ys us vs : List Nat) (w : World) (ha : Rd w A n c xs) (hb : Rd w B m d ys) (hc : Rd w C n' c' us) (hd : Rd w D m' d' vs) (hor : 24 < n ∨ 24 < m ∨ 24 < n' ∨ 24 < m') :
    Calls Try.prog 5 #[.agg #[.slice A n c, .slice B m d], .agg #[.slice C n' c', .slice D m' d']] w fun e w' => e = .returned (.bool true) ∧ Below w.heap.size w w' := by
  have e1 := ha.cap
  have e2 := ha.max
  have e3 := hb.cap
  have e4 := hb.max
  have e5 := hc.cap
  have e6 := hc.max
  have e7 := hd.cap
  have e8 := hd.max
  obtain ⟨hB1, hB2, hb0, hs0⟩ := boxes2 w 25 25 (.slice A n c) (.slice B m d) (.slice C n' c') (.slice D m' d')
  go_enter Try.func5, Try.ntmps5
  go_wp2_with fail
  generalize (w.alloc (Obj.cells #[Value.slice A n c, Value.slice B m d] 25)).alloc (Obj.cells #[Value.slice C n' c', Value.slice D m' d'] 25) = W0 at *
  refine (awake2_any _).mono ?_
  rintro e w1 ⟨rfl, hb1⟩
  have hB1a := hB1.below hb1 (by omega)
  have hB2a := hB2.below hb1 (by omega)
  obtain ⟨k0, k1⟩ := hB1a.cells
  obtain ⟨k2, k3⟩ := hB2a.cells
  have hb01 := hb0.trans (hb1.mono hb0.size)
  go_wp2_with fail
  refine (Few2_no A B C D n c m d n' c' m' d' w1 hor (by omega) (by omega) (by omega) (by omega)).mono ?_
  rintro e w2 ⟨rfl, hb2⟩
  have HB2 := Lib.hid (hb01.trans (hb2.mono hb01.size))
  clear hb01 hb1 hb2 hB1 hB2 hB1a hB2a hb0 k0 k1 k2 k3
  go_wp2_with fail
  refine (awake2_any _).mono ?_
  rintro e w3 ⟨rfl, hb3⟩
  have HC := Lib.hid (HB2.out.trans (hb3.mono HB2.out.size))
  clear hb3
  go_wp2
  go_ret
  exact ⟨rfl, HC.out⟩
set_option maxRecDepth 100000 in
set_option maxHeartbeats 6400000 in
theorem rprods_main (A B C D : Option Addr) (n c m d n' c' m' d' : Nat) (xs ys us vs : List Nat) (w : World) (ha : Rd w A n c xs) (hb : Rd w B m d ys) (hc : Rd w C n' c' us) (hd : Rd w D m' d' vs) (f1 : n ≤ 24) (f2 : m ≤ 24) (f3 : n' ≤ 24) (f4 : m' ≤ 24) (ms ns ds es fs : List Nat) (k1 k2 k3 : Int)
    (cM : ∀ W, Four W A B C D n c m d n' c' m' d' xs ys us vs → Calls Try.prog 26 #[.agg #[.slice A n c, .slice B m d], .agg #[.slice C n' c', .slice D m' d']] W (RdR2 W ms ns k1)) (cR : ∀ W, Four W A B C D n c m d n' c' m' d' xs ys us vs → Calls Try.prog 27 #[.agg #[.slice A n c, .slice B m d], .agg #[.slice C n' c', .slice D m' d']] W (RdR2 W ms ns k1))
    (cD : ∀ W, Four W A B C D n c m d n' c' m' d' xs ys us vs → Calls Try.prog 28 #[.agg #[.slice A n c, .slice B m d], .agg #[.slice C n' c', .slice D m' d']] W (RdR2 W ds es k2)) (cE : ∀ W, Four W A B C D n c m d n' c' m' d' xs ys us vs → Calls Try.prog 29 #[.agg #[.slice A n c, .slice B m d], .agg #[.slice C n' c', .slice D m' d']] W (RdR2 W ds es k2))
    (cF : ∀ W, Four W A B C D n c m d n' c' m' d' xs ys us vs → Calls Try.prog 30 #[.agg #[.slice A n c, .slice B m d]] W (RdN2 W fs k3)) (cG : ∀ W, Four W A B C D n c m d n' c' m' d' xs ys us vs → Calls Try.prog 31 #[.agg #[.slice A n c, .slice B m d]] W (RdN2 W fs k3)) :
    Calls Try.prog 5 #[.agg #[.slice A n c, .slice B m d], .agg #[.slice C n' c', .slice D m' d']] w fun e w' => e = .returned (.bool true) ∧ Below w.heap.size w w' := by
  have HcM := Lib.hid cM
  have HcR := Lib.hid cR
  have HcD := Lib.hid cD
  have HcE := Lib.hid cE
  have HcF := Lib.hid cF
  have HcG := Lib.hid cG
  clear cM cR cD cE cF cG
  obtain ⟨hB1, hB2, hb0, hs0⟩ := boxes2 w 25 25 (.slice A n c) (.slice B m d) (.slice C n' c') (.slice D m' d')
  go_enter Try.func5, Try.ntmps5
  go_wp2_with fail
  generalize (w.alloc (Obj.cells #[Value.slice A n c, Value.slice B m d] 25)).alloc (Obj.cells #[Value.slice C n' c', Value.slice D m' d'] 25) = W0 at *
  refine (awake2_any _).mono ?_
  rintro e w1 ⟨rfl, hb1⟩
  have hB1a := hB1.below hb1 (by omega)
  have hB2a := hB2.below hb1 (by omega)
  obtain ⟨k0, k1⟩ := hB1a.cells
  obtain ⟨k2, k3⟩ := hB2a.cells
  have hb01 := hb0.trans (hb1.mono hb0.size)
  have hs1 := hb1.size
  go_wp2_with fail
  refine (Few2_yes A B C D n c m d n' c' m' d' w1 f1 f2 f3 f4).mono ?_
  rintro e w2 ⟨rfl, hb2⟩
  have hb02 := hb01.trans (hb2.mono hb01.size)
  have hC1 := (hB1a.below hb2 (by omega)).cs
  have hC2 := (hB2a.below hb2 (by omega)).cs
  have hlt1 : w.heap.size < w2.heap.size := hC1.1
  have hlt2 : w.heap.size + 1 < w2.heap.size := hC2.1
  clear hB1 hB2 hB1a hB2a hb0 hb01 hb1 hb2 k0 k1 k2 k3 hs1 hs0
  go_upto_region 3 with (fail)
  go_cut [5, 6] (fun s5 s6 wx => ∃ g5 g6 : Nat, s5 = .pointer (some ⟨g5, 0, none⟩) ∧ s6 = .pointer (some ⟨g6, 0, none⟩) ∧ Hid (Cs wx g5 (.slice A n c) (.slice B m d) ∧ Cs wx g6 (.slice C n' c') (.slice D m' d') ∧ Below w2.heap.size w2 wx))
  case first =>
    have hcur := below_drew2 (Below.refl w2.heap.size w2)
    have K : w2.cell? ⟨w.heap.size, 0, none⟩ = some (.slice A n c) ∧ w2.cell? ⟨w.heap.size, 1, none⟩ = some (.slice B m d) ∧ w2.cell? ⟨w.heap.size + 1, 0, none⟩ = some (.slice C n' c') ∧ w2.cell? ⟨w.heap.size + 1, 1, none⟩ = some (.slice D m' d') := ⟨hC1.2.1, hC1.2.2, hC2.2.1, hC2.2.2⟩
    go_region_held3 (fun W => W.cell? ⟨w.heap.size, 0, none⟩ = some (.slice A n c) ∧ W.cell? ⟨w.heap.size, 1, none⟩ = some (.slice B m d) ∧ W.cell? ⟨w.heap.size + 1, 0, none⟩ = some (.slice C n' c') ∧ W.cell? ⟨w.heap.size + 1, 1, none⟩ = some (.slice D m' d'))
      (first | exact K | exact cs2 hC1 hC2 hcur | exact cs2 hC1 hC2 (by go_grown))
      (first
        | (go_at_call 16; (with_reducible refine (theirs_any A B n c m d _).mono ?_); rintro e w3 ⟨rfl, hb3⟩; replace hcur := step_cur (by first | exact hcur | exact below_al hcur (Nat.le_refl _) _ | exact below_al (below_al hcur (Nat.le_refl _) _) (Nat.le_refl _) _) hb3; replace K := cs2 hC1 hC2 hcur; have hs3 := hcur.size; (first | (have zA : Zs w3 w2.heap.size := Zs.below (zs2a w2.drew) hb3; have zB : Zs w3 (w2.heap.size + 1) := Zs.below (zs2b w2.drew) hb3; obtain ⟨y1, y2, y3, y4, y5⟩ := zA; obtain ⟨y6, y7, y8, y9, y10⟩ := zB) | (have zA : Zs w3 w2.heap.size := Zs.below (zs1 w2.drew) hb3; obtain ⟨y1, y2, y3, y4, y5⟩ := zA) | skip))
        | (go_at_call 16; (with_reducible refine (theirs_any C D n' c' m' d' _).mono ?_); rintro e w4 ⟨rfl, hb4⟩; have h34 : Below w3.heap.size w3 w4 := step_cur (by first | exact Below.refl _ _ | exact below_al (Below.refl _ _) (Nat.le_refl _) _ | exact below_al (below_al (Below.refl _ _) (Nat.le_refl _) _) (Nat.le_refl _) _) hb4; replace hcur := step_cur hcur h34; replace K := cs2 hC1 hC2 hcur; have hs4 := hcur.size; have hs34 := h34.size; (first | (have zC : Zs w4 w2.heap.size := Zs.below ⟨y1, y2, y3, y4, y5⟩ h34; have zD : Zs w4 (w2.heap.size + 1) := Zs.below ⟨y6, y7, y8, y9, y10⟩ h34; obtain ⟨q1, q2, q3, q4, q5⟩ := zC; obtain ⟨q6, q7, q8, q9, q10⟩ := zD) | (have zC : Zs w4 w2.heap.size := Zs.below ⟨y1, y2, y3, y4, y5⟩ h34; obtain ⟨q1, q2, q3, q4, q5⟩ := zC) | skip); (first | (have zE : Zs w4 w3.heap.size := Zs.below (zs2a w3) hb4; have zF : Zs w4 (w3.heap.size + 1) := Zs.below (zs2b w3) hb4; obtain ⟨r1, r2, r3, r4, r5⟩ := zE; obtain ⟨r6, r7, r8, r9, r10⟩ := zF) | (have zE : Zs w4 w3.heap.size := Zs.below (zs1 w3) hb4; obtain ⟨r1, r2, r3, r4, r5⟩ := zE) | skip)))
    all_goals
      go_wp2_with fail
      go_meet
      refine ⟨_, _, rfl, rfl, ?_⟩
      show _ ∧ _ ∧ _
      refine ⟨⟨?_, ?_, ?_⟩, ⟨?_, ?_, ?_⟩, ?_⟩
    all_goals first | omega | (simp [go_sem]; omega) | go_cell | (simp [*, go_sem]; done) | go_grown
  case rest =>
    obtain ⟨g5, g6, rfl, rfl, HC⟩ := hcut
    obtain ⟨C5, C6, hbc⟩ := HC.out
    have HW := hb02.trans (hbc.mono hb02.size)
    have C1 := hC1.below hbc
    have C2 := hC2.below hbc
    have H4 : Four _ A B C D n c m d n' c' m' d' xs ys us vs := ⟨ha.below HW, hb.below HW, hc.below HW, hd.below HW⟩
    clear HC hbc hC1 hC2 hb02 hlt1 hlt2
    obtain ⟨k0, k1⟩ := C5.2
    obtain ⟨k2, k3⟩ := C6.2
    go_wp2_with fail
    refine (HcM.out _ H4).mono ?_
    rintro e w_X ⟨XA, Xn, Xc, XB, Xm, Xd, rfl, hx, hx', hb3⟩
    clear k0 k1 k2 k3
    obtain ⟨FX, hbx⟩ := Fb.new 31 hx hx' hb3
    replace H4 := H4.below hbx
    replace C1 := C1.below hbx
    replace C2 := C2.below hbx
    replace C5 := C5.below hbx
    replace C6 := C6.below hbx
    replace HW := HW.trans (hbx.mono HW.size)
    clear hx hx' hb3 hbx
    obtain ⟨k0, k1⟩ := C1.2
    obtain ⟨k2, k3⟩ := C2.2
    go_wp2_with fail
    generalize w_X.alloc (Obj.cells #[Value.slice XA Xn Xc, Value.slice XB Xm Xd] 31) = W_X at *
    refine (HcR.out _ H4).mono ?_
    rintro e w_Y ⟨YA, Yn, Yc, YB, Ym, Yd, rfl, hx, hx', hb3⟩
    clear k0 k1 k2 k3
    obtain ⟨FY, hbx⟩ := Fb.new 25 hx hx' hb3
    replace H4 := H4.below hbx
    replace C1 := C1.below hbx
    replace C2 := C2.below hbx
    replace C5 := C5.below hbx
    replace C6 := C6.below hbx
    replace FX := FX.below hbx
    replace HW := HW.trans (hbx.mono HW.size)
    clear hx hx' hb3 hbx
    obtain ⟨k0, k1⟩ := C5.2
    obtain ⟨k2, k3⟩ := C6.2
    go_wp2_with fail
    generalize w_Y.alloc (Obj.cells #[Value.slice YA Yn Yc, Value.slice YB Ym Yd] 25) = W_Y at *
    refine (HcD.out _ H4).mono ?_
    rintro e w_U ⟨UA, Un, Uc, UB, Um, Ud, rfl, hx, hx', hb3⟩
    clear k0 k1 k2 k3
    obtain ⟨FU, hbx⟩ := Fb.new 31 hx hx' hb3
    replace H4 := H4.below hbx
    replace C1 := C1.below hbx
    replace C2 := C2.below hbx
    replace C5 := C5.below hbx
    replace C6 := C6.below hbx
    replace FX := FX.below hbx
    replace FY := FY.below hbx
    replace HW := HW.trans (hbx.mono HW.size)
    clear hx hx' hb3 hbx
    obtain ⟨k0, k1⟩ := C1.2
    obtain ⟨k2, k3⟩ := C2.2
    go_wp2_with fail
    generalize w_U.alloc (Obj.cells #[Value.slice UA Un Uc, Value.slice UB Um Ud] 31) = W_U at *
    refine (HcE.out _ H4).mono ?_
    rintro e w_V ⟨VA, Vn, Vc, VB, Vm, Vd, rfl, hx, hx', hb3⟩
    clear k0 k1 k2 k3
    obtain ⟨FV, hbx⟩ := Fb.new 25 hx hx' hb3
    replace H4 := H4.below hbx
    replace C1 := C1.below hbx
    replace C2 := C2.below hbx
    replace C5 := C5.below hbx
    replace C6 := C6.below hbx
    replace FX := FX.below hbx
    replace FY := FY.below hbx
    replace FU := FU.below hbx
    replace HW := HW.trans (hbx.mono HW.size)
    clear hx hx' hb3 hbx
    obtain ⟨k0, k1⟩ := C5.2
    go_wp2_with fail
    generalize w_V.alloc (Obj.cells #[Value.slice VA Vn Vc, Value.slice VB Vm Vd] 25) = W_V at *
    refine (HcF.out _ H4).mono ?_
    rintro e w_N ⟨NA, Nn, Nc, rfl, RN, hbx⟩
    clear k0 k1
    replace H4 := H4.below hbx
    replace C1 := C1.below hbx
    replace C2 := C2.below hbx
    replace C5 := C5.below hbx
    replace C6 := C6.below hbx
    replace FX := FX.below hbx
    replace FY := FY.below hbx
    replace FU := FU.below hbx
    replace FV := FV.below hbx
    replace HW := HW.trans (hbx.mono HW.size)
    clear hbx
    obtain ⟨k0, k1⟩ := C1.2
    go_wp2_with fail
    refine (HcG.out _ H4).mono ?_
    rintro e w_M ⟨MA, Mn, Mc, rfl, RM, hbx⟩
    clear k0 k1
    replace H4 := H4.below hbx
    replace C1 := C1.below hbx
    replace C2 := C2.below hbx
    replace C5 := C5.below hbx
    replace C6 := C6.below hbx
    replace FX := FX.below hbx
    replace FY := FY.below hbx
    replace FU := FU.below hbx
    replace FV := FV.below hbx
    replace RN := RN.below hbx
    replace HW := HW.trans (hbx.mono HW.size)
    clear hbx
    obtain ⟨k0, k1⟩ := FX.1.2
    obtain ⟨k2, k3⟩ := FY.1.2
    go_wp2_with fail
    refine (same2_yes _ _ _ _ _ _ _ _ _ _ _ _ ms ns _ FX.2.1 FX.2.2 FY.2.1 FY.2.2).mono ?_
    rintro e w_sX ⟨rfl, hbx⟩
    clear k0 k1 k2 k3
    replace FU := FU.below hbx
    replace FV := FV.below hbx
    replace RN := RN.below hbx
    replace RM := RM.below hbx
    replace HW := HW.trans (hbx.mono HW.size)
    clear hbx
    obtain ⟨k0, k1⟩ := FU.1.2
    obtain ⟨k2, k3⟩ := FV.1.2
    go_wp2_with fail
    refine (same2_yes _ _ _ _ _ _ _ _ _ _ _ _ ds es _ FU.2.1 FU.2.2 FV.2.1 FV.2.2).mono ?_
    rintro e w_sU ⟨rfl, hbx⟩
    clear k0 k1 k2 k3
    replace RN := RN.below hbx
    replace RM := RM.below hbx
    replace HW := HW.trans (hbx.mono HW.size)
    clear hbx
    go_wp2_with fail
    refine (rSame_yes _ _ _ _ _ _ fs _ RN RM).mono ?_
    rintro e w9 ⟨rfl, nq, rfl⟩
    have HF := Lib.hid (below_drewN' HW nq)
    clear HW H4 C1 C2 C5 C6 FX FY FU FV RN RM
    go_wp2
    go_ret
    exact ⟨rfl, HF.out⟩

theorem rprods_good (A B C D : Option Addr) (n c m d n' c' m' d' : Nat) (xs ys us vs : List Nat) (w : World) (ha : Rd w A n c xs) (hb : Rd w B m d ys) (hc : Rd w C n' c' us) (hd : Rd w D m' d' vs) (f1 : n ≤ 24) (f2 : m ≤ 24) (f3 : n' ≤ 24) (f4 : m' ≤ 24) :
    Calls Try.prog 5 #[.agg #[.slice A n c, .slice B m d], .agg #[.slice C n' c', .slice D m' d']] w fun e w' => e = .returned (.bool true) ∧ Below w.heap.size w w' := by
  cases g1 : frB xs ys
  · have f : (frB xs ys && frB us vs) = false := by rw [g1]; rfl
    exact rprods_main A B C D n c m d n' c' m' d' xs ys us vs w ha hb hc hd f1 f2 f3 f4 [] [] [] [] [] 1 1 1
      (fun W h => (rmul_bad2 A B C D n c m d n' c' m' d' xs ys us vs W h.1 h.2.1 h.2.2.1 h.2.2.2 f).mono fun _ _ k => k.rd) (fun W h => (xmul_bad A B C D n c m d n' c' m' d' xs ys us vs W h.1 h.2.1 h.2.2.1 h.2.2.2 f).mono fun _ _ k => k.rd)
      (fun W h => (rdiv_bad2 A B C D n c m d n' c' m' d' xs ys us vs W h.1 h.2.1 h.2.2.1 h.2.2.2 f).mono fun _ _ k => k.rd) (fun W h => (xdiv_bad A B C D n c m d n' c' m' d' xs ys us vs W h.1 h.2.1 h.2.2.1 h.2.2.2 f).mono fun _ _ k => k.rd)
      (fun W h => (floor_bad A B n c m d xs ys W h.1 h.2.1 g1).mono fun _ _ k => k.rd) (fun W h => (xfloor_bad A B n c m d xs ys W h.1 h.2.1 g1).mono fun _ _ k => k.rd)
  obtain ⟨p, q, rfl, rfl, h1⟩ := fr_of ha.lim hb.lim g1
  cases g2 : frB us vs
  · have f : (frB (digs p) (digs q) && frB us vs) = false := by rw [g2, g1]; rfl
    exact rprods_main A B C D n c m d n' c' m' d' (digs p) (digs q) us vs w ha hb hc hd f1 f2 f3 f4 [] [] [] [] (digs (p / q)) 1 1 0
      (fun W h => (rmul_bad2 A B C D n c m d n' c' m' d' (digs p) (digs q) us vs W h.1 h.2.1 h.2.2.1 h.2.2.2 f).mono fun _ _ k => k.rd) (fun W h => (xmul_bad A B C D n c m d n' c' m' d' (digs p) (digs q) us vs W h.1 h.2.1 h.2.2.1 h.2.2.2 f).mono fun _ _ k => k.rd)
      (fun W h => (rdiv_bad2 A B C D n c m d n' c' m' d' (digs p) (digs q) us vs W h.1 h.2.1 h.2.2.1 h.2.2.2 f).mono fun _ _ k => k.rd) (fun W h => (xdiv_bad A B C D n c m d n' c' m' d' (digs p) (digs q) us vs W h.1 h.2.1 h.2.2.1 h.2.2.2 f).mono fun _ _ k => k.rd)
      (fun W h => (floor_yes A B n c m d p q W h.1 h.2.1 h1).mono fun _ _ k => k.rd) (fun W h => (xfloor_yes A B n c m d p q W h.1 h.2.1 h1).mono fun _ _ k => k.rd)
  obtain ⟨r, s, rfl, rfl, h2⟩ := fr_of hc.lim hd.lim g2
  have lp : (digs p).length ≤ 24 := by rw [ha.len]; exact f1
  have lq : (digs q).length ≤ 24 := by rw [hb.len]; exact f2
  have lr : (digs r).length ≤ 24 := by rw [hc.len]; exact f3
  have ls : (digs s).length ≤ 24 := by rw [hd.len]; exact f4
  have l1 : (digs (p * r)).length ≤ 400 := Nat.le_trans (len_mul lp lr) (by omega)
  have l2 : (digs (q * s)).length ≤ 400 := Nat.le_trans (len_mul lq ls) (by omega)
  have l3 : (digs (p * s)).length ≤ 400 := Nat.le_trans (len_mul lp ls) (by omega)
  have l4 : (digs (q * r)).length ≤ 400 := Nat.le_trans (len_mul lq lr) (by omega)
  by_cases hr : r = 0
  · have hn0 : n' = 0 := by rw [← hc.len, hr, digs_zero]; rfl
    subst hn0
    exact rprods_main A B C D n c m d 0 c' m' d' (digs p) (digs q) (digs r) (digs s) w ha hb hc hd f1 f2 f3 f4 _ _ [] [] (digs (p / q)) 0 5 0
      (fun W h => (rmul_yes A B C D n c m d 0 c' m' d' p q r s W h.1 h.2.1 h.2.2.1 h.2.2.2 h1 h2 l1 l2).mono fun _ _ k => k.rd) (fun W h => (xmul_yes A B C D n c m d 0 c' m' d' p q r s W h.1 h.2.1 h.2.2.1 h.2.2.2 h1 h2 l1 l2).mono fun _ _ k => k.rd)
      (fun W h => (rdiv_none A B C D n c m d c' m' d' p q r s W h.1 h.2.1 h.2.2.1 h.2.2.2 h1 h2).mono fun _ _ k => k.rd) (fun W h => (xdiv_none A B C D n c m d c' m' d' p q r s W h.1 h.2.1 h.2.2.1 h.2.2.2 h1 h2).mono fun _ _ k => k.rd)
      (fun W h => (floor_yes A B n c m d p q W h.1 h.2.1 h1).mono fun _ _ k => k.rd) (fun W h => (xfloor_yes A B n c m d p q W h.1 h.2.1 h1).mono fun _ _ k => k.rd)
  · exact rprods_main A B C D n c m d n' c' m' d' (digs p) (digs q) (digs r) (digs s) w ha hb hc hd f1 f2 f3 f4 _ _ _ _ (digs (p / q)) 0 0 0
      (fun W h => (rmul_yes A B C D n c m d n' c' m' d' p q r s W h.1 h.2.1 h.2.2.1 h.2.2.2 h1 h2 l1 l2).mono fun _ _ k => k.rd) (fun W h => (xmul_yes A B C D n c m d n' c' m' d' p q r s W h.1 h.2.1 h.2.2.1 h.2.2.2 h1 h2 l1 l2).mono fun _ _ k => k.rd)
      (fun W h => (rdiv_yes A B C D n c m d n' c' m' d' p q r s W h.1 h.2.1 h.2.2.1 h.2.2.2 h1 h2 hr l3 l4).mono fun _ _ k => k.rd) (fun W h => (xdiv_yes A B C D n c m d n' c' m' d' p q r s W h.1 h.2.1 h.2.2.1 h.2.2.2 h1 h2 hr l3 l4).mono fun _ _ k => k.rd)
      (fun W h => (floor_yes A B n c m d p q W h.1 h.2.1 h1).mono fun _ _ k => k.rd) (fun W h => (xfloor_yes A B n c m d p q W h.1 h.2.1 h1).mono fun _ _ k => k.rd)
theorem rprods_walk (A B C D : Option Addr) (n c m d n' c' m' d' : Nat) (xs ys us vs : List Nat) (w : World) (ha : Rd w A n c xs) (hb : Rd w B m d ys) (hc : Rd w C n' c' us) (hd : Rd w D m' d' vs) :
    Calls Try.prog 5 #[.agg #[.slice A n c, .slice B m d], .agg #[.slice C n' c', .slice D m' d']] w fun e w' => e = .returned (.bool true) ∧ Below w.heap.size w w' := by
  by_cases h0 : 24 < n ∨ 24 < m ∨ 24 < n' ∨ 24 < m'
  · exact rprods_few A B C D n c m d n' c' m' d' xs ys us vs w ha hb hc hd h0
  · exact rprods_good A B C D n c m d n' c' m' d' xs ys us vs w ha hb hc hd (by omega) (by omega) (by omega) (by omega)
end Go.Proofs.Yteicihaigkgbnaa
