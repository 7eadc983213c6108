/-
  The walk of the law RatioSums: for every two fractions that can be read the call returns true and writes nothing that was there.
-/
import Derived.Test.YteicihaigkgbnaaMins
namespace Go.Proofs.Yteicihaigkgbnaa
open Go.RowKit

theorem cs10 {W W' : World} {g1 g2 g3 g4 g5 g6 g7 g8 g9 g10 : Nat} {u1 v1 u2 v2 u3 v3 u4 v4 u5 v5 u6 v6 u7 v7 u8 v8 u9 v9 u10 v10 : Value} (h1 : Cs W g1 u1 v1) (h2 : Cs W g2 u2 v2) (h3 : Cs W g3 u3 v3) (h4 : Cs W g4 u4 v4) (h5 : Cs W g5 u5 v5) (h6 : Cs W g6 u6 v6) (h7 : Cs W g7 u7 v7) (h8 : Cs W g8 u8 v8) (h9 : Cs W g9 u9 v9) (h10 : Cs W g10 u10 v10) (hb : Below W.heap.size W W') :
    W'.cell? ⟨g1, 0, none⟩ = some u1 ∧ W'.cell? ⟨g1, 1, none⟩ = some v1 ∧ W'.cell? ⟨g2, 0, none⟩ = some u2 ∧ W'.cell? ⟨g2, 1, none⟩ = some v2 ∧ W'.cell? ⟨g3, 0, none⟩ = some u3 ∧ W'.cell? ⟨g3, 1, none⟩ = some v3 ∧ W'.cell? ⟨g4, 0, none⟩ = some u4 ∧ W'.cell? ⟨g4, 1, none⟩ = some v4 ∧ W'.cell? ⟨g5, 0, none⟩ = some u5 ∧ W'.cell? ⟨g5, 1, none⟩ = some v5 ∧ W'.cell? ⟨g6, 0, none⟩ = some u6 ∧ W'.cell? ⟨g6, 1, none⟩ = some v6 ∧ W'.cell? ⟨g7, 0, none⟩ = some u7 ∧ W'.cell? ⟨g7, 1, none⟩ = some v7 ∧ W'.cell? ⟨g8, 0, none⟩ = some u8 ∧ W'.cell? ⟨g8, 1, none⟩ = some v8 ∧ W'.cell? ⟨g9, 0, none⟩ = some u9 ∧ W'.cell? ⟨g9, 1, none⟩ = some v9 ∧ W'.cell? ⟨g10, 0, none⟩ = some u10 ∧ W'.cell? ⟨g10, 1, none⟩ = some v10 :=
  ⟨(h1.below hb).2.1, (h1.below hb).2.2, (h2.below hb).2.1, (h2.below hb).2.2, (h3.below hb).2.1, (h3.below hb).2.2, (h4.below hb).2.1, (h4.below hb).2.2, (h5.below hb).2.1, (h5.below hb).2.2, (h6.below hb).2.1, (h6.below hb).2.2, (h7.below hb).2.1, (h7.below hb).2.2, (h8.below hb).2.1, (h8.below hb).2.2, (h9.below hb).2.1, (h9.below hb).2.2, (h10.below hb).2.1, (h10.below hb).2.2⟩
set_option maxRecDepth 100000 in
set_option maxHeartbeats 1600000 in
theorem rsums_few (A B C D : Option Addr) (n c m d n' c' m' d' : Nat) (xs ys us vs : List Nat) (w : World) (ha : Rd w A n c xs) (hb : Rd w B m d ys) (hc : Rd w C n' c' us) (hd : Rd w D m' d' vs) (hor : 24 < n ∨ 24 < m ∨ 24 < n' ∨ 24 < m') :
    Calls Try.prog 4 #[.agg #[.slice A n c, .slice B m d], .agg #[.slice C n' c', .slice D m' d']] w fun e w' => e = .returned (.bool true) ∧ Below w.heap.size w w' := by
  have e1 := ha.cap
  have e2 := ha.max
  have e3 := hb.cap
  have e4 := hb.max
  have e5 := hc.cap
  have e6 := hc.max
  have e7 := hd.cap
  have e8 := hd.max
  obtain ⟨hB1, hB2, hb0, hs0⟩ := boxes2 w 25 25 (.slice A n c) (.slice B m d) (.slice C n' c') (.slice D m' d')
  go_enter Try.func4, Try.ntmps4
  go_wp2_with fail
  generalize (w.alloc (Obj.cells #[Value.slice A n c, Value.slice B m d] 25)).alloc (Obj.cells #[Value.slice C n' c', Value.slice D m' d'] 25) = W0 at *
  refine (awake2_any _).mono ?_
  rintro e w1 ⟨rfl, hb1⟩
  have hB1a := hB1.below hb1 (by omega)
  have hB2a := hB2.below hb1 (by omega)
  obtain ⟨k0, k1⟩ := hB1a.cells
  obtain ⟨k2, k3⟩ := hB2a.cells
  have hb01 := hb0.trans (hb1.mono hb0.size)
  go_wp2_with fail
  refine (Few2_no A B C D n c m d n' c' m' d' w1 hor (by omega) (by omega) (by omega) (by omega)).mono ?_
  rintro e w2 ⟨rfl, hb2⟩
  have HB2 := Lib.hid (hb01.trans (hb2.mono hb01.size))
  clear hb01 hb1 hb2 hB1 hB2 hB1a hB2a hb0 k0 k1 k2 k3
  go_wp2_with fail
  refine (awake2_any _).mono ?_
  rintro e w3 ⟨rfl, hb3⟩
  have HC := Lib.hid (HB2.out.trans (hb3.mono HB2.out.size))
  clear hb3
  go_wp2
  go_ret
  exact ⟨rfl, HC.out⟩
set_option maxRecDepth 100000 in
set_option maxHeartbeats 12800000 in
theorem rsums_main (A B C D : Option Addr) (n c m d n' c' m' d' : Nat) (xs ys us vs : List Nat) (w : World) (ha : Rd w A n c xs) (hb : Rd w B m d ys) (hc : Rd w C n' c' us) (hd : Rd w D m' d' vs) (f1 : n ≤ 24) (f2 : m ≤ 24) (f3 : n' ≤ 24) (f4 : m' ≤ 24) (ms ns ds es fs ls : List Nat) (k1 k2 k3 z : Int)
    (cM : ∀ W, Four W A B C D n c m d n' c' m' d' xs ys us vs → Calls Try.prog 18 #[.agg #[.slice A n c, .slice B m d], .agg #[.slice C n' c', .slice D m' d']] W (RdR2 W ms ns k1)) (cR : ∀ W, Four W A B C D n c m d n' c' m' d' xs ys us vs → Calls Try.prog 19 #[.agg #[.slice A n c, .slice B m d], .agg #[.slice C n' c', .slice D m' d']] W (RdR2 W ms ns k1))
    (cD : ∀ W, Four W A B C D n c m d n' c' m' d' xs ys us vs → Calls Try.prog 20 #[.agg #[.slice A n c, .slice B m d], .agg #[.slice C n' c', .slice D m' d']] W (RdR2 W ds es k2)) (cE : ∀ W, Four W A B C D n c m d n' c' m' d' xs ys us vs → Calls Try.prog 21 #[.agg #[.slice A n c, .slice B m d], .agg #[.slice C n' c', .slice D m' d']] W (RdR2 W ds es k2))
    (cF : ∀ W, Four W A B C D n c m d n' c' m' d' xs ys us vs → Calls Try.prog 22 #[.agg #[.slice A n c, .slice B m d], .agg #[.slice C n' c', .slice D m' d']] W (RdR2 W fs ls k3)) (cG : ∀ W, Four W A B C D n c m d n' c' m' d' xs ys us vs → Calls Try.prog 23 #[.agg #[.slice A n c, .slice B m d], .agg #[.slice C n' c', .slice D m' d']] W (RdR2 W fs ls k3))
    (cY : ∀ W, Four W A B C D n c m d n' c' m' d' xs ys us vs → Calls Try.prog 24 #[.agg #[.slice A n c, .slice B m d], .agg #[.slice C n' c', .slice D m' d']] W fun e w' => e = .returned (.int .i64 z) ∧ Below W.heap.size W w') (cZ : ∀ W, Four W A B C D n c m d n' c' m' d' xs ys us vs → Calls Try.prog 25 #[.agg #[.slice A n c, .slice B m d], .agg #[.slice C n' c', .slice D m' d']] W fun e w' => e = .returned (.int .i64 z) ∧ Below W.heap.size W w') :
    Calls Try.prog 4 #[.agg #[.slice A n c, .slice B m d], .agg #[.slice C n' c', .slice D m' d']] w fun e w' => e = .returned (.bool true) ∧ Below w.heap.size w w' := by
  have HcM := Lib.hid cM
  have HcR := Lib.hid cR
  have HcD := Lib.hid cD
  have HcE := Lib.hid cE
  have HcF := Lib.hid cF
  have HcG := Lib.hid cG
  have HcY := Lib.hid cY
  have HcZ := Lib.hid cZ
  clear cM cR cD cE cF cG cY cZ
  obtain ⟨hB1, hB2, hb0, hs0⟩ := boxes2 w 25 25 (.slice A n c) (.slice B m d) (.slice C n' c') (.slice D m' d')
  go_enter Try.func4, Try.ntmps4
  go_wp2_with fail
  generalize (w.alloc (Obj.cells #[Value.slice A n c, Value.slice B m d] 25)).alloc (Obj.cells #[Value.slice C n' c', Value.slice D m' d'] 25) = W0 at *
  refine (awake2_any _).mono ?_
  rintro e w1 ⟨rfl, hb1⟩
  have hB1a := hB1.below hb1 (by omega)
  have hB2a := hB2.below hb1 (by omega)
  obtain ⟨k0, k1⟩ := hB1a.cells
  obtain ⟨k2, k3⟩ := hB2a.cells
  have hb01 := hb0.trans (hb1.mono hb0.size)
  have hs1 := hb1.size
  go_wp2_with fail
  refine (Few2_yes A B C D n c m d n' c' m' d' w1 f1 f2 f3 f4).mono ?_
  rintro e w2 ⟨rfl, hb2⟩
  have hb02 := hb01.trans (hb2.mono hb01.size)
  have hC1 := (hB1a.below hb2 (by omega)).cs
  have hC2 := (hB2a.below hb2 (by omega)).cs
  have hlt1 : w.heap.size < w2.heap.size := hC1.1
  have hlt2 : w.heap.size + 1 < w2.heap.size := hC2.1
  clear hB1 hB2 hB1a hB2a hb0 hb01 hb1 hb2 k0 k1 k2 k3 hs1 hs0
  go_upto_region 3 with (fail)
  go_cut [5, 6] (fun s5 s6 wx => ∃ g5 g6 : Nat, s5 = .pointer (some ⟨g5, 0, none⟩) ∧ s6 = .pointer (some ⟨g6, 0, none⟩) ∧ Hid (Cs wx g5 (.slice A n c) (.slice B m d) ∧ Cs wx g6 (.slice C n' c') (.slice D m' d') ∧ Below w2.heap.size w2 wx))
  case first =>
    have hcur := below_drew2 (Below.refl w2.heap.size w2)
    have K : w2.cell? ⟨w.heap.size, 0, none⟩ = some (.slice A n c) ∧ w2.cell? ⟨w.heap.size, 1, none⟩ = some (.slice B m d) ∧ w2.cell? ⟨w.heap.size + 1, 0, none⟩ = some (.slice C n' c') ∧ w2.cell? ⟨w.heap.size + 1, 1, none⟩ = some (.slice D m' d') := ⟨hC1.2.1, hC1.2.2, hC2.2.1, hC2.2.2⟩
    go_region_held3 (fun W => W.cell? ⟨w.heap.size, 0, none⟩ = some (.slice A n c) ∧ W.cell? ⟨w.heap.size, 1, none⟩ = some (.slice B m d) ∧ W.cell? ⟨w.heap.size + 1, 0, none⟩ = some (.slice C n' c') ∧ W.cell? ⟨w.heap.size + 1, 1, none⟩ = some (.slice D m' d'))
      (first | exact K | exact cs2 hC1 hC2 hcur | exact cs2 hC1 hC2 (by go_grown))
      (first
        | (go_at_call 16; (with_reducible refine (theirs_any A B n c m d _).mono ?_); rintro e w3 ⟨rfl, hb3⟩; replace hcur := step_cur (by first | exact hcur | exact below_al hcur (Nat.le_refl _) _ | exact below_al (below_al hcur (Nat.le_refl _) _) (Nat.le_refl _) _) hb3; replace K := cs2 hC1 hC2 hcur; have hs3 := hcur.size; (first | (have zA : Zs w3 w2.heap.size := Zs.below (zs2a w2.drew) hb3; have zB : Zs w3 (w2.heap.size + 1) := Zs.below (zs2b w2.drew) hb3; obtain ⟨y1, y2, y3, y4, y5⟩ := zA; obtain ⟨y6, y7, y8, y9, y10⟩ := zB) | (have zA : Zs w3 w2.heap.size := Zs.below (zs1 w2.drew) hb3; obtain ⟨y1, y2, y3, y4, y5⟩ := zA) | skip))
        | (go_at_call 16; (with_reducible refine (theirs_any C D n' c' m' d' _).mono ?_); rintro e w4 ⟨rfl, hb4⟩; have h34 : Below w3.heap.size w3 w4 := step_cur (by first | exact Below.refl _ _ | exact below_al (Below.refl _ _) (Nat.le_refl _) _ | exact below_al (below_al (Below.refl _ _) (Nat.le_refl _) _) (Nat.le_refl _) _) hb4; replace hcur := step_cur hcur h34; replace K := cs2 hC1 hC2 hcur; have hs4 := hcur.size; have hs34 := h34.size; (first | (have zC : Zs w4 w2.heap.size := Zs.below ⟨y1, y2, y3, y4, y5⟩ h34; have zD : Zs w4 (w2.heap.size + 1) := Zs.below ⟨y6, y7, y8, y9, y10⟩ h34; obtain ⟨q1, q2, q3, q4, q5⟩ := zC; obtain ⟨q6, q7, q8, q9, q10⟩ := zD) | (have zC : Zs w4 w2.heap.size := Zs.below ⟨y1, y2, y3, y4, y5⟩ h34; obtain ⟨q1, q2, q3, q4, q5⟩ := zC) | skip); (first | (have zE : Zs w4 w3.heap.size := Zs.below (zs2a w3) hb4; have zF : Zs w4 (w3.heap.size + 1) := Zs.below (zs2b w3) hb4; obtain ⟨r1, r2, r3, r4, r5⟩ := zE; obtain ⟨r6, r7, r8, r9, r10⟩ := zF) | (have zE : Zs w4 w3.heap.size := Zs.below (zs1 w3) hb4; obtain ⟨r1, r2, r3, r4, r5⟩ := zE) | skip)))
    all_goals
      go_wp2_with fail
      go_meet
      refine ⟨_, _, rfl, rfl, ?_⟩
      show _ ∧ _ ∧ _
      refine ⟨⟨?_, ?_, ?_⟩, ⟨?_, ?_, ?_⟩, ?_⟩
    all_goals first | omega | (simp [go_sem]; omega) | go_cell | (simp [*, go_sem]; done) | go_grown
  case rest =>
    obtain ⟨g5, g6, rfl, rfl, HC⟩ := hcut
    obtain ⟨C5, C6, hbc⟩ := HC.out
    have HW := hb02.trans (hbc.mono hb02.size)
    have C1 := hC1.below hbc
    have C2 := hC2.below hbc
    have H4 : Four _ A B C D n c m d n' c' m' d' xs ys us vs := ⟨ha.below HW, hb.below HW, hc.below HW, hd.below HW⟩
    clear HC hbc hC1 hC2 hb02 hlt1 hlt2
    obtain ⟨k0, k1⟩ := C5.2
    obtain ⟨k2, k3⟩ := C6.2
    go_wp2_with fail
    refine (HcM.out _ H4).mono ?_
    rintro e w_X ⟨XA, Xn, Xc, XB, Xm, Xd, rfl, hx, hx', hb3⟩
    clear k0 k1 k2 k3
    obtain ⟨FX, hbx⟩ := Fb.new 31 hx hx' hb3
    replace H4 := H4.below hbx
    replace C1 := C1.below hbx
    replace C2 := C2.below hbx
    replace C5 := C5.below hbx
    replace C6 := C6.below hbx
    replace HW := HW.trans (hbx.mono HW.size)
    clear hx hx' hb3 hbx
    obtain ⟨k0, k1⟩ := C1.2
    obtain ⟨k2, k3⟩ := C2.2
    go_wp2_with fail
    generalize w_X.alloc (Obj.cells #[Value.slice XA Xn Xc, Value.slice XB Xm Xd] 31) = W_X at *
    refine (HcR.out _ H4).mono ?_
    rintro e w_Y ⟨YA, Yn, Yc, YB, Ym, Yd, rfl, hx, hx', hb3⟩
    clear k0 k1 k2 k3
    obtain ⟨FY, hbx⟩ := Fb.new 25 hx hx' hb3
    replace H4 := H4.below hbx
    replace C1 := C1.below hbx
    replace C2 := C2.below hbx
    replace C5 := C5.below hbx
    replace C6 := C6.below hbx
    replace FX := FX.below hbx
    replace HW := HW.trans (hbx.mono HW.size)
    clear hx hx' hb3 hbx
    obtain ⟨k0, k1⟩ := C5.2
    obtain ⟨k2, k3⟩ := C6.2
    go_wp2_with fail
    generalize w_Y.alloc (Obj.cells #[Value.slice YA Yn Yc, Value.slice YB Ym Yd] 25) = W_Y at *
    refine (HcD.out _ H4).mono ?_
    rintro e w_U ⟨UA, Un, Uc, UB, Um, Ud, rfl, hx, hx', hb3⟩
    clear k0 k1 k2 k3
    obtain ⟨FU, hbx⟩ := Fb.new 31 hx hx' hb3
    replace H4 := H4.below hbx
    replace C1 := C1.below hbx
    replace C2 := C2.below hbx
    replace C5 := C5.below hbx
    replace C6 := C6.below hbx
    replace FX := FX.below hbx
    replace FY := FY.below hbx
    replace HW := HW.trans (hbx.mono HW.size)
    clear hx hx' hb3 hbx
    obtain ⟨k0, k1⟩ := C1.2
    obtain ⟨k2, k3⟩ := C2.2
    go_wp2_with fail
    generalize w_U.alloc (Obj.cells #[Value.slice UA Un Uc, Value.slice UB Um Ud] 31) = W_U at *
    refine (HcE.out _ H4).mono ?_
    rintro e w_V ⟨VA, Vn, Vc, VB, Vm, Vd, rfl, hx, hx', hb3⟩
    clear k0 k1 k2 k3
    obtain ⟨FV, hbx⟩ := Fb.new 25 hx hx' hb3
    replace H4 := H4.below hbx
    replace C1 := C1.below hbx
    replace C2 := C2.below hbx
    replace C5 := C5.below hbx
    replace C6 := C6.below hbx
    replace FX := FX.below hbx
    replace FY := FY.below hbx
    replace FU := FU.below hbx
    replace HW := HW.trans (hbx.mono HW.size)
    clear hx hx' hb3 hbx
    obtain ⟨k0, k1⟩ := C5.2
    obtain ⟨k2, k3⟩ := C6.2
    go_wp2_with fail
    generalize w_V.alloc (Obj.cells #[Value.slice VA Vn Vc, Value.slice VB Vm Vd] 25) = W_V at *
    refine (HcF.out _ H4).mono ?_
    rintro e w_M ⟨MA, Mn, Mc, MB, Mm, Md, rfl, hx, hx', hb3⟩
    clear k0 k1 k2 k3
    obtain ⟨FM, hbx⟩ := Fb.new 31 hx hx' hb3
    replace H4 := H4.below hbx
    replace C1 := C1.below hbx
    replace C2 := C2.below hbx
    replace C5 := C5.below hbx
    replace C6 := C6.below hbx
    replace FX := FX.below hbx
    replace FY := FY.below hbx
    replace FU := FU.below hbx
    replace FV := FV.below hbx
    replace HW := HW.trans (hbx.mono HW.size)
    clear hx hx' hb3 hbx
    obtain ⟨k0, k1⟩ := C1.2
    obtain ⟨k2, k3⟩ := C2.2
    go_wp2_with fail
    generalize w_M.alloc (Obj.cells #[Value.slice MA Mn Mc, Value.slice MB Mm Md] 31) = W_M at *
    refine (HcG.out _ H4).mono ?_
    rintro e w_N ⟨NA, Nn, Nc, NB, Nm, Nd, rfl, hx, hx', hb3⟩
    clear k0 k1 k2 k3
    obtain ⟨FN, hbx⟩ := Fb.new 25 hx hx' hb3
    replace H4 := H4.below hbx
    replace C1 := C1.below hbx
    replace C2 := C2.below hbx
    replace C5 := C5.below hbx
    replace C6 := C6.below hbx
    replace FX := FX.below hbx
    replace FY := FY.below hbx
    replace FU := FU.below hbx
    replace FV := FV.below hbx
    replace FM := FM.below hbx
    replace HW := HW.trans (hbx.mono HW.size)
    clear hx hx' hb3 hbx
    go_wp2
    generalize w_N.alloc (Obj.cells #[Value.slice NA Nn Nc, Value.slice NB Nm Nd] 25) = W_N at *
    have hcur := below_drew2 (Below.refl W_N.heap.size W_N)
    have K := cs10 FX.1 FY.1 FU.1 FV.1 FM.1 FN.1 C5 C6 C1 C2 hcur
    have K' := cs10 FX.1 FY.1 FU.1 FV.1 FM.1 FN.1 C5 C6 C1 C2 (Below.refl W_N.heap.size W_N)
    go_region_held3 (fun W => W.cell? ⟨w_X.heap.size, 0, none⟩ = some (.slice XA Xn Xc) ∧ W.cell? ⟨w_X.heap.size, 1, none⟩ = some (.slice XB Xm Xd) ∧ W.cell? ⟨w_Y.heap.size, 0, none⟩ = some (.slice YA Yn Yc) ∧ W.cell? ⟨w_Y.heap.size, 1, none⟩ = some (.slice YB Ym Yd) ∧ W.cell? ⟨w_U.heap.size, 0, none⟩ = some (.slice UA Un Uc) ∧ W.cell? ⟨w_U.heap.size, 1, none⟩ = some (.slice UB Um Ud) ∧ W.cell? ⟨w_V.heap.size, 0, none⟩ = some (.slice VA Vn Vc) ∧ W.cell? ⟨w_V.heap.size, 1, none⟩ = some (.slice VB Vm Vd) ∧ W.cell? ⟨w_M.heap.size, 0, none⟩ = some (.slice MA Mn Mc) ∧ W.cell? ⟨w_M.heap.size, 1, none⟩ = some (.slice MB Mm Md) ∧ W.cell? ⟨w_N.heap.size, 0, none⟩ = some (.slice NA Nn Nc) ∧ W.cell? ⟨w_N.heap.size, 1, none⟩ = some (.slice NB Nm Nd) ∧ W.cell? ⟨g5, 0, none⟩ = some (.slice A n c) ∧ W.cell? ⟨g5, 1, none⟩ = some (.slice B m d) ∧ W.cell? ⟨g6, 0, none⟩ = some (.slice C n' c') ∧ W.cell? ⟨g6, 1, none⟩ = some (.slice D m' d') ∧ W.cell? ⟨w.heap.size, 0, none⟩ = some (.slice A n c) ∧ W.cell? ⟨w.heap.size, 1, none⟩ = some (.slice B m d) ∧ W.cell? ⟨w.heap.size + 1, 0, none⟩ = some (.slice C n' c') ∧ W.cell? ⟨w.heap.size + 1, 1, none⟩ = some (.slice D m' d'))
      (first | exact K | exact K')
      (first
        | (go_at_call 13; (with_reducible refine (same2_yes XA XB YA YB Xn Xc Xm Xd Yn Yc Ym Yd ms ns _ ?_ ?_ ?_ ?_).mono ?_); exact FX.2.1.below hcur; exact FX.2.2.below hcur; exact FY.2.1.below hcur; exact FY.2.2.below hcur; rintro e w_1 ⟨rfl, hb9⟩; replace hcur := hcur.trans (hb9.mono hcur.size); replace K := cs10 FX.1 FY.1 FU.1 FV.1 FM.1 FN.1 C5 C6 C1 C2 hcur; clear hb9)
        | (go_at_call 13; (with_reducible refine (same2_yes UA UB VA VB Un Uc Um Ud Vn Vc Vm Vd ds es _ ?_ ?_ ?_ ?_).mono ?_); exact FU.2.1.below hcur; exact FU.2.2.below hcur; exact FV.2.1.below hcur; exact FV.2.2.below hcur; rintro e w_2 ⟨rfl, hb9⟩; replace hcur := hcur.trans (hb9.mono hcur.size); replace K := cs10 FX.1 FY.1 FU.1 FV.1 FM.1 FN.1 C5 C6 C1 C2 hcur; clear hb9)
        | (go_at_call 13; (with_reducible refine (same2_yes MA MB NA NB Mn Mc Mm Md Nn Nc Nm Nd fs ls _ ?_ ?_ ?_ ?_).mono ?_); exact FM.2.1.below hcur; exact FM.2.2.below hcur; exact FN.2.1.below hcur; exact FN.2.2.below hcur; rintro e w_3 ⟨rfl, hb9⟩; replace hcur := hcur.trans (hb9.mono hcur.size); replace K := cs10 FX.1 FY.1 FU.1 FV.1 FM.1 FN.1 C5 C6 C1 C2 hcur; clear hb9)
        | (go_at_call 24; (with_reducible refine (HcY.out _ ?_).mono ?_); exact H4.below hcur; rintro e w_4 ⟨rfl, hb9⟩; replace hcur := hcur.trans (hb9.mono hcur.size); replace K := cs10 FX.1 FY.1 FU.1 FV.1 FM.1 FN.1 C5 C6 C1 C2 hcur; clear hb9)
        | (go_at_call 25; (with_reducible refine (HcZ.out _ ?_).mono ?_); exact H4.below hcur; rintro e w_5 ⟨rfl, hb9⟩; replace hcur := hcur.trans (hb9.mono hcur.size); replace K := cs10 FX.1 FY.1 FU.1 FV.1 FM.1 FN.1 C5 C6 C1 C2 hcur; clear hb9))
    all_goals
      have HF := Lib.hid (HW.trans (hcur.mono HW.size))
      clear K K' hcur HW H4 C1 C2 C5 C6 FX FY FU FV FM FN
      go_wp2
      go_ret
      exact ⟨rfl, HF.out⟩

theorem rsums_good (A B C D : Option Addr) (n c m d n' c' m' d' : Nat) (xs ys us vs : List Nat) (w : World) (ha : Rd w A n c xs) (hb : Rd w B m d ys) (hc : Rd w C n' c' us) (hd : Rd w D m' d' vs) (f1 : n ≤ 24) (f2 : m ≤ 24) (f3 : n' ≤ 24) (f4 : m' ≤ 24) :
    Calls Try.prog 4 #[.agg #[.slice A n c, .slice B m d], .agg #[.slice C n' c', .slice D m' d']] w fun e w' => e = .returned (.bool true) ∧ Below w.heap.size w w' := by
  cases f : (frB xs ys && frB us vs)
  · exact rsums_main A B C D n c m d n' c' m' d' xs ys us vs w ha hb hc hd f1 f2 f3 f4 [] [] [] [] [] [] 1 1 1 0
      (fun W h => (radd_bad2 A B C D n c m d n' c' m' d' xs ys us vs W h.1 h.2.1 h.2.2.1 h.2.2.2 f).mono fun _ _ k => k.rd) (fun W h => (xadd_bad A B C D n c m d n' c' m' d' xs ys us vs W h.1 h.2.1 h.2.2.1 h.2.2.2 f).mono fun _ _ k => k.rd)
      (fun W h => (rsub_bad2 A B C D n c m d n' c' m' d' xs ys us vs W h.1 h.2.1 h.2.2.1 h.2.2.2 f).mono fun _ _ k => k.rd) (fun W h => (xsub_bad A B C D n c m d n' c' m' d' xs ys us vs W h.1 h.2.1 h.2.2.1 h.2.2.2 f).mono fun _ _ k => k.rd)
      (fun W h => (min_bad A B C D n c m d n' c' m' d' xs ys us vs W h.1 h.2.1 h.2.2.1 h.2.2.2 f).mono fun _ _ k => k.rd) (fun W h => (xmin_bad A B C D n c m d n' c' m' d' xs ys us vs W h.1 h.2.1 h.2.2.1 h.2.2.2 f).mono fun _ _ k => k.rd)
      (fun W h => rcmp_bad2 A B C D n c m d n' c' m' d' xs ys us vs W h.1 h.2.1 h.2.2.1 h.2.2.2 f) (fun W h => xcmp_bad A B C D n c m d n' c' m' d' xs ys us vs W h.1 h.2.1 h.2.2.1 h.2.2.2 f)
  rw [Bool.and_eq_true] at f
  obtain ⟨p, q, rfl, rfl, h1⟩ := fr_of ha.lim hb.lim f.1
  obtain ⟨r, s, rfl, rfl, h2⟩ := fr_of hc.lim hd.lim f.2
  have lp : (digs p).length ≤ 24 := by rw [ha.len]; exact f1
  have lq : (digs q).length ≤ 24 := by rw [hb.len]; exact f2
  have lr : (digs r).length ≤ 24 := by rw [hc.len]; exact f3
  have ls : (digs s).length ≤ 24 := by rw [hd.len]; exact f4
  have l1' := len_mul lp ls
  have l2' := len_mul lr lq
  have l1 : (digs (p * s)).length ≤ 400 := Nat.le_trans l1' (by omega)
  have l2 : (digs (r * q)).length ≤ 400 := Nat.le_trans l2' (by omega)
  have l3 : (digs (q * s)).length ≤ 400 := Nat.le_trans (len_mul lq ls) (by omega)
  have l4 : (digs (p * s + r * q)).length ≤ 400 := Nat.le_trans (len_add l1' l2') (by omega)
  have bA := fun W g1 g2 g3 g4 => bin_add h1 h2 l1 l2 l3 l4 W A n c B m d C n' c' D m' d' g1 g2 g3 g4
  rcases Nat.lt_trichotomy (p * s) (r * q) with hx | hx | hx
  · have rsub_less2 : ∀ W, Rd W A n c (digs p) → Rd W B m d (digs q) → Rd W C n' c' (digs r) → Rd W D m' d' (digs s) → Calls Try.prog 20 #[.agg #[.slice A n c, .slice B m d], .agg #[.slice C n' c', .slice D m' d']] W (RdR2 W [] [] 3) := fun W g1 g2 g3 g4 => by
      have h := rsub_any2 A B C D n c m d n' c' m' d' p q r s W g1 g2 g3 g4 h1 h2
      have e : subF p q r s = ([], [], 3) := by unfold subF; rw [if_pos ⟨l1, l2, l3⟩, if_pos hx]
      rw [e] at h
      exact h.mono fun _ _ k => k.rd
    have hy : p * s ≤ r * q := by omega
    exact rsums_main A B C D n c m d n' c' m' d' (digs p) (digs q) (digs r) (digs s) w ha hb hc hd f1 f2 f3 f4 _ _ [] [] _ _ 0 3 0 _
      (fun W h => bA W h.1 h.2.1 h.2.2.1 h.2.2.2) (fun W h => (xadd_yes A B C D n c m d n' c' m' d' p q r s W h.1 h.2.1 h.2.2.1 h.2.2.2 h1 h2 l1 l2 l3 l4).mono fun _ _ k => k.rd)
      (fun W h => (rsub_less2 W h.1 h.2.1 h.2.2.1 h.2.2.2)) (fun W h => (xsub_less A B C D n c m d n' c' m' d' p q r s W h.1 h.2.1 h.2.2.1 h.2.2.2 h1 h2 l1 l2 l3 hx).mono fun _ _ k => k.rd)
      (fun W h => (min_a A B C D n c m d n' c' m' d' p q r s W h.1 h.2.1 h.2.2.1 h.2.2.2 h1 h2 l1 l2 hy).mono fun _ _ k => k.rd) (fun W h => xmin_a A B C D n c m d n' c' m' d' p q r s W h.1 h.2.1 h.2.2.1 h.2.2.2 h1 h2 l1 l2 hy)
      (fun W h => rcmp_yes2 A B C D n c m d n' c' m' d' p q r s W h.1 h.2.1 h.2.2.1 h.2.2.2 h1 h2 l1 l2) (fun W h => xcmp_yes A B C D n c m d n' c' m' d' p q r s W h.1 h.2.1 h.2.2.1 h.2.2.2 h1 h2 l1 l2)
  · have hy : p * s ≤ r * q := by omega
    replace hx : r * q ≤ p * s := by omega
    have bS := fun W g1 g2 g3 g4 => bin_sub h1 h2 l1 l2 l3 hx W A n c B m d C n' c' D m' d' g1 g2 g3 g4
    exact rsums_main A B C D n c m d n' c' m' d' (digs p) (digs q) (digs r) (digs s) w ha hb hc hd f1 f2 f3 f4 _ _ _ _ _ _ 0 0 0 _
      (fun W h => bA W h.1 h.2.1 h.2.2.1 h.2.2.2) (fun W h => (xadd_yes A B C D n c m d n' c' m' d' p q r s W h.1 h.2.1 h.2.2.1 h.2.2.2 h1 h2 l1 l2 l3 l4).mono fun _ _ k => k.rd)
      (fun W h => bS W h.1 h.2.1 h.2.2.1 h.2.2.2) (fun W h => (xsub_yes A B C D n c m d n' c' m' d' p q r s W h.1 h.2.1 h.2.2.1 h.2.2.2 h1 h2 l1 l2 l3 hx).mono fun _ _ k => k.rd)
      (fun W h => (min_a A B C D n c m d n' c' m' d' p q r s W h.1 h.2.1 h.2.2.1 h.2.2.2 h1 h2 l1 l2 hy).mono fun _ _ k => k.rd) (fun W h => xmin_a A B C D n c m d n' c' m' d' p q r s W h.1 h.2.1 h.2.2.1 h.2.2.2 h1 h2 l1 l2 hy)
      (fun W h => rcmp_yes2 A B C D n c m d n' c' m' d' p q r s W h.1 h.2.1 h.2.2.1 h.2.2.2 h1 h2 l1 l2) (fun W h => xcmp_yes A B C D n c m d n' c' m' d' p q r s W h.1 h.2.1 h.2.2.1 h.2.2.2 h1 h2 l1 l2)
  · have hy := hx
    replace hx : r * q ≤ p * s := by omega
    have bS := fun W g1 g2 g3 g4 => bin_sub h1 h2 l1 l2 l3 hx W A n c B m d C n' c' D m' d' g1 g2 g3 g4
    exact rsums_main A B C D n c m d n' c' m' d' (digs p) (digs q) (digs r) (digs s) w ha hb hc hd f1 f2 f3 f4 _ _ _ _ _ _ 0 0 0 _
      (fun W h => bA W h.1 h.2.1 h.2.2.1 h.2.2.2) (fun W h => (xadd_yes A B C D n c m d n' c' m' d' p q r s W h.1 h.2.1 h.2.2.1 h.2.2.2 h1 h2 l1 l2 l3 l4).mono fun _ _ k => k.rd)
      (fun W h => bS W h.1 h.2.1 h.2.2.1 h.2.2.2) (fun W h => (xsub_yes A B C D n c m d n' c' m' d' p q r s W h.1 h.2.1 h.2.2.1 h.2.2.2 h1 h2 l1 l2 l3 hx).mono fun _ _ k => k.rd)
      (fun W h => (min_b A B C D n c m d n' c' m' d' p q r s W h.1 h.2.1 h.2.2.1 h.2.2.2 h1 h2 l1 l2 hy).mono fun _ _ k => k.rd) (fun W h => xmin_b A B C D n c m d n' c' m' d' p q r s W h.1 h.2.1 h.2.2.1 h.2.2.2 h1 h2 l1 l2 hy)
      (fun W h => rcmp_yes2 A B C D n c m d n' c' m' d' p q r s W h.1 h.2.1 h.2.2.1 h.2.2.2 h1 h2 l1 l2) (fun W h => xcmp_yes A B C D n c m d n' c' m' d' p q r s W h.1 h.2.1 h.2.2.1 h.2.2.2 h1 h2 l1 l2)
theorem rsums_walk (A B C D : Option Addr) (n c m d n' c' m' d' : Nat) (xs ys us vs : List Nat) (w : World) (ha : Rd w A n c xs) (hb : Rd w B m d ys) (hc : Rd w C n' c' us) (hd : Rd w D m' d' vs) :
    Calls Try.prog 4 #[.agg #[.slice A n c, .slice B m d], .agg #[.slice C n' c', .slice D m' d']] w fun e w' => e = .returned (.bool true) ∧ Below w.heap.size w w' := by
  by_cases h0 : 24 < n ∨ 24 < m ∨ 24 < n' ∨ 24 < m'
  · exact rsums_few A B C D n c m d n' c' m' d' xs ys us vs w ha hb hc hd h0
  · exact rsums_good A B C D n c m d n' c' m' d' xs ys us vs w ha hb hc hd (by omega) (by omega) (by omega) (by omega)
end Go.Proofs.Yteicihaigkgbnaa
