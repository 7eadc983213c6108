/-
  The walk of the law RatioRules: for every three pairs of 64-bit numbers the call returns true and writes nothing that was there.
-/
import Derived.Test.YteicihaigkgbnaaRatMath
namespace Go.Proofs.Yteicihaigkgbnaa
open Go.RowKit

set_option maxRecDepth 100000 in
set_option maxHeartbeats 1600000 in
theorem rrules_a (a0 b0 b1 c0 c1 : Nat) (w : World)  :
    Calls Try.prog 7 #[.agg #[.int .u64 (a0 : Int), .int .u64 0], .agg #[.int .u64 (b0 : Int), .int .u64 (b1 : Int)], .agg #[.int .u64 (c0 : Int), .int .u64 (c1 : Int)]] w fun e w' => e = .returned (.bool true) ∧ Below w.heap.size w w' := by
  obtain ⟨hB1, hB2, hB3, hb0, hs0⟩ := boxes3 w 57 57 57 (.int .u64 (a0 : Int)) (.int .u64 0) (.int .u64 (b0 : Int)) (.int .u64 (b1 : Int)) (.int .u64 (c0 : Int)) (.int .u64 (c1 : Int))
  go_enter Try.func7, Try.ntmps7
  go_wp2_with fail
  generalize ((w.alloc (Obj.cells #[Value.int .u64 (a0 : Int), Value.int .u64 0] 57)).alloc (Obj.cells #[Value.int .u64 (b0 : Int), Value.int .u64 (b1 : Int)] 57)).alloc (Obj.cells #[Value.int .u64 (c0 : Int), Value.int .u64 (c1 : Int)] 57) = W0 at *
  refine (awake2_any _).mono ?_
  rintro e w1 ⟨rfl, hb1⟩
  have D1 := hB1.below hb1 (by omega)
  have C1 := D1.cs
  have D2 := hB2.below hb1 (by omega)
  have C2 := D2.cs
  have D3 := hB3.below hb1 (by omega)
  have C3 := D3.cs
  have HW := hb0.trans (hb1.mono hb0.size)
  clear hB1 hB2 hB3 D1 D2 D3 hb0 hb1 hs0
  obtain ⟨k0, k1⟩ := C1.2
  obtain ⟨k2, k3⟩ := C2.2
  obtain ⟨k4, k5⟩ := C3.2
  go_wp2_with fail
  refine (awake2_any _).mono ?_
  rintro e w2 ⟨rfl, hb2⟩
  have HF := Lib.hid (HW.trans (hb2.mono HW.size))
  clear C1 C2 C3 HW hb2 k0 k1 k2 k3 k4 k5
  go_wp2
  go_ret
  exact ⟨rfl, HF.out⟩
set_option maxRecDepth 100000 in
set_option maxHeartbeats 1600000 in
theorem rrules_b (a0 a1 b0 c0 c1 : Nat) (w : World) (h0 : a1 ≠ 0) :
    Calls Try.prog 7 #[.agg #[.int .u64 (a0 : Int), .int .u64 (a1 : Int)], .agg #[.int .u64 (b0 : Int), .int .u64 0], .agg #[.int .u64 (c0 : Int), .int .u64 (c1 : Int)]] w fun e w' => e = .returned (.bool true) ∧ Below w.heap.size w w' := by
  have h1 : ((a1 : Int) == 0) = false := by simp; omega
  obtain ⟨hB1, hB2, hB3, hb0, hs0⟩ := boxes3 w 57 57 57 (.int .u64 (a0 : Int)) (.int .u64 (a1 : Int)) (.int .u64 (b0 : Int)) (.int .u64 0) (.int .u64 (c0 : Int)) (.int .u64 (c1 : Int))
  go_enter Try.func7, Try.ntmps7
  go_wp2_with fail
  generalize ((w.alloc (Obj.cells #[Value.int .u64 (a0 : Int), Value.int .u64 (a1 : Int)] 57)).alloc (Obj.cells #[Value.int .u64 (b0 : Int), Value.int .u64 0] 57)).alloc (Obj.cells #[Value.int .u64 (c0 : Int), Value.int .u64 (c1 : Int)] 57) = W0 at *
  refine (awake2_any _).mono ?_
  rintro e w1 ⟨rfl, hb1⟩
  have D1 := hB1.below hb1 (by omega)
  have C1 := D1.cs
  have D2 := hB2.below hb1 (by omega)
  have C2 := D2.cs
  have D3 := hB3.below hb1 (by omega)
  have C3 := D3.cs
  have HW := hb0.trans (hb1.mono hb0.size)
  clear hB1 hB2 hB3 D1 D2 D3 hb0 hb1 hs0
  obtain ⟨k0, k1⟩ := C1.2
  obtain ⟨k2, k3⟩ := C2.2
  obtain ⟨k4, k5⟩ := C3.2
  go_wp2_with fail
  refine (awake2_any _).mono ?_
  rintro e w2 ⟨rfl, hb2⟩
  have HF := Lib.hid (HW.trans (hb2.mono HW.size))
  clear C1 C2 C3 HW hb2 k0 k1 k2 k3 k4 k5
  go_wp2
  go_ret
  exact ⟨rfl, HF.out⟩
set_option maxRecDepth 100000 in
set_option maxHeartbeats 1600000 in
theorem rrules_c (a0 a1 b0 b1 c0 : Nat) (w : World) (h0 : a1 ≠ 0) (h00 : b1 ≠ 0) :
    Calls Try.prog 7 #[.agg #[.int .u64 (a0 : Int), .int .u64 (a1 : Int)], .agg #[.int .u64 (b0 : Int), .int .u64 (b1 : Int)], .agg #[.int .u64 (c0 : Int), .int .u64 0]] w fun e w' => e = .returned (.bool true) ∧ Below w.heap.size w w' := by
  have h1 : ((a1 : Int) == 0) = false := by simp; omega
  have h2 : ((b1 : Int) == 0) = false := by simp; omega
  obtain ⟨hB1, hB2, hB3, hb0, hs0⟩ := boxes3 w 57 57 57 (.int .u64 (a0 : Int)) (.int .u64 (a1 : Int)) (.int .u64 (b0 : Int)) (.int .u64 (b1 : Int)) (.int .u64 (c0 : Int)) (.int .u64 0)
  go_enter Try.func7, Try.ntmps7
  go_wp2_with fail
  generalize ((w.alloc (Obj.cells #[Value.int .u64 (a0 : Int), Value.int .u64 (a1 : Int)] 57)).alloc (Obj.cells #[Value.int .u64 (b0 : Int), Value.int .u64 (b1 : Int)] 57)).alloc (Obj.cells #[Value.int .u64 (c0 : Int), Value.int .u64 0] 57) = W0 at *
  refine (awake2_any _).mono ?_
  rintro e w1 ⟨rfl, hb1⟩
  have D1 := hB1.below hb1 (by omega)
  have C1 := D1.cs
  have D2 := hB2.below hb1 (by omega)
  have C2 := D2.cs
  have D3 := hB3.below hb1 (by omega)
  have C3 := D3.cs
  have HW := hb0.trans (hb1.mono hb0.size)
  clear hB1 hB2 hB3 D1 D2 D3 hb0 hb1 hs0
  obtain ⟨k0, k1⟩ := C1.2
  obtain ⟨k2, k3⟩ := C2.2
  obtain ⟨k4, k5⟩ := C3.2
  go_wp2_with fail
  refine (awake2_any _).mono ?_
  rintro e w2 ⟨rfl, hb2⟩
  have HF := Lib.hid (HW.trans (hb2.mono HW.size))
  clear C1 C2 C3 HW hb2 k0 k1 k2 k3 k4 k5
  go_wp2
  go_ret
  exact ⟨rfl, HF.out⟩
set_option maxRecDepth 100000 in
set_option maxHeartbeats 6400000 in
theorem rrules_nul (a0 a1 b0 b1 c1 : Nat) (w : World) (h1 : a1 ≠ 0) (h2 : b1 ≠ 0) (h3 : c1 ≠ 0)  (x1 x2 y1 y2 z1 z2 s1 s2 k1 k2 l1 l2 p1 p2 q1 q2 r1 r2 : Nat)
    (cX : ∀ W, Calls Try.prog 12 #[.int .u64 (a0 : Int), .int .u64 (a1 : Int)] W (RdR2 W (digs x1) (digs x2) 0))
    (cY : ∀ W, Calls Try.prog 12 #[.int .u64 (b0 : Int), .int .u64 (b1 : Int)] W (RdR2 W (digs y1) (digs y2) 0))
    (cZ : ∀ W, Calls Try.prog 12 #[.int .u64 0, .int .u64 (c1 : Int)] W (RdR2 W (digs z1) (digs z2) 0))
    (cS : Bin 18 x1 x2 y1 y2 (digs s1) (digs s2) 0)
    (cK : Bin 20 s1 s2 y1 y2 (digs k1) (digs k2) 0)
    (cL : Bin 26 s1 s2 z1 z2 (digs l1) (digs l2) 0)
    (cP : Bin 26 x1 x2 z1 z2 (digs p1) (digs p2) 0)
    (cQ : Bin 26 y1 y2 z1 z2 (digs q1) (digs q2) 0)
    (cR : Bin 18 p1 p2 q1 q2 (digs r1) (digs r2) 0)
    (cU : BinZ 24 k1 k2 x1 x2 0)
    (cV : BinZ 24 l1 l2 r1 r2 0)
    (hL : Fr l1 l2)
     :
    Calls Try.prog 7 #[.agg #[.int .u64 (a0 : Int), .int .u64 (a1 : Int)], .agg #[.int .u64 (b0 : Int), .int .u64 (b1 : Int)], .agg #[.int .u64 0, .int .u64 (c1 : Int)]] w fun e w' => e = .returned (.bool true) ∧ Below w.heap.size w w' := by
  have e1 : ((a1 : Int) == 0) = false := by simp; omega
  have e2 : ((b1 : Int) == 0) = false := by simp; omega
  have e3 : ((c1 : Int) == 0) = false := by simp; omega
  have HcX := Lib.hid cX
  have HcY := Lib.hid cY
  have HcZ := Lib.hid cZ
  have HcS := Lib.hid cS
  have HcK := Lib.hid cK
  have HcL := Lib.hid cL
  have HcP := Lib.hid cP
  have HcQ := Lib.hid cQ
  have HcR := Lib.hid cR
  have HcU := Lib.hid cU
  have HcV := Lib.hid cV
  clear cX cY cZ cS cK cL cP cQ cR cU cV
  obtain ⟨hB1, hB2, hB3, hb0, hs0⟩ := boxes3 w 57 57 57 (.int .u64 (a0 : Int)) (.int .u64 (a1 : Int)) (.int .u64 (b0 : Int)) (.int .u64 (b1 : Int)) (.int .u64 0) (.int .u64 (c1 : Int))
  go_enter Try.func7, Try.ntmps7
  go_wp2_with fail
  generalize ((w.alloc (Obj.cells #[Value.int .u64 (a0 : Int), Value.int .u64 (a1 : Int)] 57)).alloc (Obj.cells #[Value.int .u64 (b0 : Int), Value.int .u64 (b1 : Int)] 57)).alloc (Obj.cells #[Value.int .u64 0, Value.int .u64 (c1 : Int)] 57) = W0 at *
  refine (awake2_any _).mono ?_
  rintro e w1 ⟨rfl, hb1⟩
  have D1 := hB1.below hb1 (by omega)
  have C1 := D1.cs
  have D2 := hB2.below hb1 (by omega)
  have C2 := D2.cs
  have D3 := hB3.below hb1 (by omega)
  have C3 := D3.cs
  have HW := hb0.trans (hb1.mono hb0.size)
  clear hB1 hB2 hB3 D1 D2 D3 hb0 hb1 hs0
  obtain ⟨k0, k1⟩ := C1.2
  obtain ⟨k2, k3⟩ := C2.2
  obtain ⟨k4, k5⟩ := C3.2
  go_wp2_with fail
  refine (HcX.out _).mono ?_
  rintro e w_X ⟨XA, Xn, Xc, XB, Xm, Xd, rfl, hx, hx', hb3⟩
  clear k0 k1 k2 k3 k4 k5
  obtain ⟨FX, hbx⟩ := Fb.new 31 hx hx' hb3
  replace C1 := C1.below hbx
  replace C2 := C2.below hbx
  replace C3 := C3.below hbx
  replace HW := HW.trans (hbx.mono HW.size)
  clear hx hx' hb3 hbx
  obtain ⟨k0, k1⟩ := C2.2
  go_wp2_with fail
  generalize w_X.alloc (Obj.cells #[Value.slice XA Xn Xc, Value.slice XB Xm Xd] 31) = W_X at *
  refine (HcY.out _).mono ?_
  rintro e w_Y ⟨YA, Yn, Yc, YB, Ym, Yd, rfl, hx, hx', hb3⟩
  clear k0 k1
  obtain ⟨FY, hbx⟩ := Fb.new 31 hx hx' hb3
  replace C1 := C1.below hbx
  replace C2 := C2.below hbx
  replace C3 := C3.below hbx
  replace FX := FX.below hbx
  replace HW := HW.trans (hbx.mono HW.size)
  clear hx hx' hb3 hbx
  obtain ⟨k0, k1⟩ := C3.2
  go_wp2_with fail
  generalize w_Y.alloc (Obj.cells #[Value.slice YA Yn Yc, Value.slice YB Ym Yd] 31) = W_Y at *
  refine (HcZ.out _).mono ?_
  rintro e w_Z ⟨ZA, Zn, Zc, ZB, Zm, Zd, rfl, hx, hx', hb3⟩
  clear k0 k1
  obtain ⟨FZ, hbx⟩ := Fb.new 31 hx hx' hb3
  replace C1 := C1.below hbx
  replace C2 := C2.below hbx
  replace C3 := C3.below hbx
  replace FX := FX.below hbx
  replace FY := FY.below hbx
  replace HW := HW.trans (hbx.mono HW.size)
  clear hx hx' hb3 hbx
  obtain ⟨k0, k1⟩ := FX.1.2
  obtain ⟨k2, k3⟩ := FY.1.2
  go_wp2_with fail
  generalize w_Z.alloc (Obj.cells #[Value.slice ZA Zn Zc, Value.slice ZB Zm Zd] 31) = W_Z at *
  refine (HcS.out _ _ _ _ _ _ _ _ _ _ _ _ _ FX.2.1 FX.2.2 FY.2.1 FY.2.2).mono ?_
  rintro e w_S ⟨SA, Sn, Sc, SB, Sm, Sd, rfl, hx, hx', hb3⟩
  clear k0 k1 k2 k3
  obtain ⟨FS, hbx⟩ := Fb.new 31 hx hx' hb3
  replace C3 := C3.below hbx
  replace FX := FX.below hbx
  replace FY := FY.below hbx
  replace FZ := FZ.below hbx
  replace HW := HW.trans (hbx.mono HW.size)
  clear hx hx' hb3 hbx
  obtain ⟨k0, k1⟩ := FS.1.2
  obtain ⟨k2, k3⟩ := FY.1.2
  go_wp2_with fail
  generalize w_S.alloc (Obj.cells #[Value.slice SA Sn Sc, Value.slice SB Sm Sd] 31) = W_S at *
  refine (HcK.out _ _ _ _ _ _ _ _ _ _ _ _ _ FS.2.1 FS.2.2 FY.2.1 FY.2.2).mono ?_
  rintro e w_K ⟨KA, Kn, Kc, KB, Km, Kd, rfl, hx, hx', hb3⟩
  clear k0 k1 k2 k3
  obtain ⟨FK, hbx⟩ := Fb.new 31 hx hx' hb3
  replace C3 := C3.below hbx
  replace FX := FX.below hbx
  replace FY := FY.below hbx
  replace FZ := FZ.below hbx
  replace FS := FS.below hbx
  replace HW := HW.trans (hbx.mono HW.size)
  clear hx hx' hb3 hbx
  obtain ⟨k0, k1⟩ := FS.1.2
  obtain ⟨k2, k3⟩ := FZ.1.2
  go_wp2_with fail
  generalize w_K.alloc (Obj.cells #[Value.slice KA Kn Kc, Value.slice KB Km Kd] 31) = W_K at *
  refine (HcL.out _ _ _ _ _ _ _ _ _ _ _ _ _ FS.2.1 FS.2.2 FZ.2.1 FZ.2.2).mono ?_
  rintro e w_L ⟨LA, Ln, Lc, LB, Lm, Ld, rfl, hx, hx', hb3⟩
  clear k0 k1 k2 k3
  obtain ⟨FL, hbx⟩ := Fb.new 31 hx hx' hb3
  replace C3 := C3.below hbx
  replace FX := FX.below hbx
  replace FY := FY.below hbx
  replace FZ := FZ.below hbx
  replace FS := FS.below hbx
  replace FK := FK.below hbx
  replace HW := HW.trans (hbx.mono HW.size)
  clear hx hx' hb3 hbx
  obtain ⟨k0, k1⟩ := FX.1.2
  obtain ⟨k2, k3⟩ := FZ.1.2
  go_wp2_with fail
  generalize w_L.alloc (Obj.cells #[Value.slice LA Ln Lc, Value.slice LB Lm Ld] 31) = W_L at *
  refine (HcP.out _ _ _ _ _ _ _ _ _ _ _ _ _ FX.2.1 FX.2.2 FZ.2.1 FZ.2.2).mono ?_
  rintro e w_P ⟨PA, Pn, Pc, PB, Pm, Pd, rfl, hx, hx', hb3⟩
  clear k0 k1 k2 k3
  obtain ⟨FP, hbx⟩ := Fb.new 31 hx hx' hb3
  replace C3 := C3.below hbx
  replace FX := FX.below hbx
  replace FY := FY.below hbx
  replace FZ := FZ.below hbx
  replace FK := FK.below hbx
  replace FL := FL.below hbx
  replace HW := HW.trans (hbx.mono HW.size)
  clear hx hx' hb3 hbx
  obtain ⟨k0, k1⟩ := FY.1.2
  obtain ⟨k2, k3⟩ := FZ.1.2
  go_wp2_with fail
  generalize w_P.alloc (Obj.cells #[Value.slice PA Pn Pc, Value.slice PB Pm Pd] 31) = W_P at *
  refine (HcQ.out _ _ _ _ _ _ _ _ _ _ _ _ _ FY.2.1 FY.2.2 FZ.2.1 FZ.2.2).mono ?_
  rintro e w_Q ⟨QA, Qn, Qc, QB, Qm, Qd, rfl, hx, hx', hb3⟩
  clear k0 k1 k2 k3
  obtain ⟨FQ, hbx⟩ := Fb.new 31 hx hx' hb3
  replace C3 := C3.below hbx
  replace FX := FX.below hbx
  replace FZ := FZ.below hbx
  replace FK := FK.below hbx
  replace FL := FL.below hbx
  replace FP := FP.below hbx
  replace HW := HW.trans (hbx.mono HW.size)
  clear hx hx' hb3 hbx
  obtain ⟨k0, k1⟩ := FP.1.2
  obtain ⟨k2, k3⟩ := FQ.1.2
  go_wp2_with fail
  generalize w_Q.alloc (Obj.cells #[Value.slice QA Qn Qc, Value.slice QB Qm Qd] 31) = W_Q at *
  refine (HcR.out _ _ _ _ _ _ _ _ _ _ _ _ _ FP.2.1 FP.2.2 FQ.2.1 FQ.2.2).mono ?_
  rintro e w_R ⟨RA, Rn, Rc, RB, Rm, Rd, rfl, hx, hx', hb3⟩
  clear k0 k1 k2 k3
  obtain ⟨FR, hbx⟩ := Fb.new 31 hx hx' hb3
  replace C3 := C3.below hbx
  replace FX := FX.below hbx
  replace FZ := FZ.below hbx
  replace FK := FK.below hbx
  replace FL := FL.below hbx
  replace FP := FP.below hbx
  replace HW := HW.trans (hbx.mono HW.size)
  clear hx hx' hb3 hbx
  obtain ⟨k0, k1⟩ := FK.1.2
  obtain ⟨k2, k3⟩ := FX.1.2
  go_wp2_with fail
  generalize w_R.alloc (Obj.cells #[Value.slice RA Rn Rc, Value.slice RB Rm Rd] 31) = W_R at *
  refine (HcU.out _ _ _ _ _ _ _ _ _ _ _ _ _ FK.2.1 FK.2.2 FX.2.1 FX.2.2).mono ?_
  rintro e w_u ⟨rfl, hbx⟩
  clear k0 k1 k2 k3
  replace C3 := C3.below hbx
  replace FX := FX.below hbx
  replace FZ := FZ.below hbx
  replace FL := FL.below hbx
  replace FP := FP.below hbx
  replace FR := FR.below hbx
  replace HW := HW.trans (hbx.mono HW.size)
  clear hbx
  obtain ⟨k0, k1⟩ := FL.1.2
  obtain ⟨k2, k3⟩ := FR.1.2
  go_wp2_with fail
  refine (HcV.out _ _ _ _ _ _ _ _ _ _ _ _ _ FL.2.1 FL.2.2 FR.2.1 FR.2.2).mono ?_
  rintro e w_v ⟨rfl, hbx⟩
  clear k0 k1 k2 k3
  replace C3 := C3.below hbx
  replace FX := FX.below hbx
  replace FZ := FZ.below hbx
  replace FL := FL.below hbx
  replace FP := FP.below hbx
  replace HW := HW.trans (hbx.mono HW.size)
  clear hbx
  obtain ⟨k0, k1⟩ := FL.1.2
  go_wp2_with fail
  refine (frmd_nat _ _ _ _ _ _ l1 l2 _ FL.2.1 FL.2.2 hL).mono ?_
  rintro e w_f ⟨rfl, hbx⟩
  clear k0 k1
  replace C3 := C3.below hbx
  replace FX := FX.below hbx
  replace FZ := FZ.below hbx
  replace FP := FP.below hbx
  replace HW := HW.trans (hbx.mono HW.size)
  clear hbx
  obtain ⟨k0, k1⟩ := C3.2
  have HF := Lib.hid HW
  clear C3 FX FZ FP HW
  go_wp2
  go_ret
  exact ⟨rfl, HF.out⟩
set_option maxRecDepth 100000 in
set_option maxHeartbeats 6400000 in
theorem rrules_main (a0 a1 b0 b1 c0 c1 : Nat) (w : World) (h1 : a1 ≠ 0) (h2 : b1 ≠ 0) (h3 : c1 ≠ 0) (h4 : c0 ≠ 0) (x1 x2 y1 y2 z1 z2 s1 s2 k1 k2 l1 l2 p1 p2 q1 q2 r1 r2 t1 t2 : Nat)
    (cX : ∀ W, Calls Try.prog 12 #[.int .u64 (a0 : Int), .int .u64 (a1 : Int)] W (RdR2 W (digs x1) (digs x2) 0))
    (cY : ∀ W, Calls Try.prog 12 #[.int .u64 (b0 : Int), .int .u64 (b1 : Int)] W (RdR2 W (digs y1) (digs y2) 0))
    (cZ : ∀ W, Calls Try.prog 12 #[.int .u64 (c0 : Int), .int .u64 (c1 : Int)] W (RdR2 W (digs z1) (digs z2) 0))
    (cS : Bin 18 x1 x2 y1 y2 (digs s1) (digs s2) 0)
    (cK : Bin 20 s1 s2 y1 y2 (digs k1) (digs k2) 0)
    (cL : Bin 26 s1 s2 z1 z2 (digs l1) (digs l2) 0)
    (cP : Bin 26 x1 x2 z1 z2 (digs p1) (digs p2) 0)
    (cQ : Bin 26 y1 y2 z1 z2 (digs q1) (digs q2) 0)
    (cR : Bin 18 p1 p2 q1 q2 (digs r1) (digs r2) 0)
    (cU : BinZ 24 k1 k2 x1 x2 0)
    (cV : BinZ 24 l1 l2 r1 r2 0)
    (hL : Fr l1 l2)
    (cT : Bin 28 p1 p2 z1 z2 (digs t1) (digs t2) 0) (cW : BinZ 24 t1 t2 x1 x2 0) :
    Calls Try.prog 7 #[.agg #[.int .u64 (a0 : Int), .int .u64 (a1 : Int)], .agg #[.int .u64 (b0 : Int), .int .u64 (b1 : Int)], .agg #[.int .u64 (c0 : Int), .int .u64 (c1 : Int)]] w fun e w' => e = .returned (.bool true) ∧ Below w.heap.size w w' := by
  have e1 : ((a1 : Int) == 0) = false := by simp; omega
  have e2 : ((b1 : Int) == 0) = false := by simp; omega
  have e3 : ((c1 : Int) == 0) = false := by simp; omega
  have HcX := Lib.hid cX
  have HcY := Lib.hid cY
  have HcZ := Lib.hid cZ
  have HcS := Lib.hid cS
  have HcK := Lib.hid cK
  have HcL := Lib.hid cL
  have HcP := Lib.hid cP
  have HcQ := Lib.hid cQ
  have HcR := Lib.hid cR
  have HcU := Lib.hid cU
  have HcV := Lib.hid cV
  clear cX cY cZ cS cK cL cP cQ cR cU cV
  have HcT := Lib.hid cT
  have HcW := Lib.hid cW
  clear cT cW
  obtain ⟨hB1, hB2, hB3, hb0, hs0⟩ := boxes3 w 57 57 57 (.int .u64 (a0 : Int)) (.int .u64 (a1 : Int)) (.int .u64 (b0 : Int)) (.int .u64 (b1 : Int)) (.int .u64 (c0 : Int)) (.int .u64 (c1 : Int))
  go_enter Try.func7, Try.ntmps7
  go_wp2_with fail
  generalize ((w.alloc (Obj.cells #[Value.int .u64 (a0 : Int), Value.int .u64 (a1 : Int)] 57)).alloc (Obj.cells #[Value.int .u64 (b0 : Int), Value.int .u64 (b1 : Int)] 57)).alloc (Obj.cells #[Value.int .u64 (c0 : Int), Value.int .u64 (c1 : Int)] 57) = W0 at *
  refine (awake2_any _).mono ?_
  rintro e w1 ⟨rfl, hb1⟩
  have D1 := hB1.below hb1 (by omega)
  have C1 := D1.cs
  have D2 := hB2.below hb1 (by omega)
  have C2 := D2.cs
  have D3 := hB3.below hb1 (by omega)
  have C3 := D3.cs
  have HW := hb0.trans (hb1.mono hb0.size)
  clear hB1 hB2 hB3 D1 D2 D3 hb0 hb1 hs0
  obtain ⟨k0, k1⟩ := C1.2
  obtain ⟨k2, k3⟩ := C2.2
  obtain ⟨k4, k5⟩ := C3.2
  go_wp2_with fail
  refine (HcX.out _).mono ?_
  rintro e w_X ⟨XA, Xn, Xc, XB, Xm, Xd, rfl, hx, hx', hb3⟩
  clear k0 k1 k2 k3 k4 k5
  obtain ⟨FX, hbx⟩ := Fb.new 31 hx hx' hb3
  replace C1 := C1.below hbx
  replace C2 := C2.below hbx
  replace C3 := C3.below hbx
  replace HW := HW.trans (hbx.mono HW.size)
  clear hx hx' hb3 hbx
  obtain ⟨k0, k1⟩ := C2.2
  go_wp2_with fail
  generalize w_X.alloc (Obj.cells #[Value.slice XA Xn Xc, Value.slice XB Xm Xd] 31) = W_X at *
  refine (HcY.out _).mono ?_
  rintro e w_Y ⟨YA, Yn, Yc, YB, Ym, Yd, rfl, hx, hx', hb3⟩
  clear k0 k1
  obtain ⟨FY, hbx⟩ := Fb.new 31 hx hx' hb3
  replace C1 := C1.below hbx
  replace C2 := C2.below hbx
  replace C3 := C3.below hbx
  replace FX := FX.below hbx
  replace HW := HW.trans (hbx.mono HW.size)
  clear hx hx' hb3 hbx
  obtain ⟨k0, k1⟩ := C3.2
  go_wp2_with fail
  generalize w_Y.alloc (Obj.cells #[Value.slice YA Yn Yc, Value.slice YB Ym Yd] 31) = W_Y at *
  refine (HcZ.out _).mono ?_
  rintro e w_Z ⟨ZA, Zn, Zc, ZB, Zm, Zd, rfl, hx, hx', hb3⟩
  clear k0 k1
  obtain ⟨FZ, hbx⟩ := Fb.new 31 hx hx' hb3
  replace C1 := C1.below hbx
  replace C2 := C2.below hbx
  replace C3 := C3.below hbx
  replace FX := FX.below hbx
  replace FY := FY.below hbx
  replace HW := HW.trans (hbx.mono HW.size)
  clear hx hx' hb3 hbx
  obtain ⟨k0, k1⟩ := FX.1.2
  obtain ⟨k2, k3⟩ := FY.1.2
  go_wp2_with fail
  generalize w_Z.alloc (Obj.cells #[Value.slice ZA Zn Zc, Value.slice ZB Zm Zd] 31) = W_Z at *
  refine (HcS.out _ _ _ _ _ _ _ _ _ _ _ _ _ FX.2.1 FX.2.2 FY.2.1 FY.2.2).mono ?_
  rintro e w_S ⟨SA, Sn, Sc, SB, Sm, Sd, rfl, hx, hx', hb3⟩
  clear k0 k1 k2 k3
  obtain ⟨FS, hbx⟩ := Fb.new 31 hx hx' hb3
  replace C3 := C3.below hbx
  replace FX := FX.below hbx
  replace FY := FY.below hbx
  replace FZ := FZ.below hbx
  replace HW := HW.trans (hbx.mono HW.size)
  clear hx hx' hb3 hbx
  obtain ⟨k0, k1⟩ := FS.1.2
  obtain ⟨k2, k3⟩ := FY.1.2
  go_wp2_with fail
  generalize w_S.alloc (Obj.cells #[Value.slice SA Sn Sc, Value.slice SB Sm Sd] 31) = W_S at *
  refine (HcK.out _ _ _ _ _ _ _ _ _ _ _ _ _ FS.2.1 FS.2.2 FY.2.1 FY.2.2).mono ?_
  rintro e w_K ⟨KA, Kn, Kc, KB, Km, Kd, rfl, hx, hx', hb3⟩
  clear k0 k1 k2 k3
  obtain ⟨FK, hbx⟩ := Fb.new 31 hx hx' hb3
  replace C3 := C3.below hbx
  replace FX := FX.below hbx
  replace FY := FY.below hbx
  replace FZ := FZ.below hbx
  replace FS := FS.below hbx
  replace HW := HW.trans (hbx.mono HW.size)
  clear hx hx' hb3 hbx
  obtain ⟨k0, k1⟩ := FS.1.2
  obtain ⟨k2, k3⟩ := FZ.1.2
  go_wp2_with fail
  generalize w_K.alloc (Obj.cells #[Value.slice KA Kn Kc, Value.slice KB Km Kd] 31) = W_K at *
  refine (HcL.out _ _ _ _ _ _ _ _ _ _ _ _ _ FS.2.1 FS.2.2 FZ.2.1 FZ.2.2).mono ?_
  rintro e w_L ⟨LA, Ln, Lc, LB, Lm, Ld, rfl, hx, hx', hb3⟩
  clear k0 k1 k2 k3
  obtain ⟨FL, hbx⟩ := Fb.new 31 hx hx' hb3
  replace C3 := C3.below hbx
  replace FX := FX.below hbx
  replace FY := FY.below hbx
  replace FZ := FZ.below hbx
  replace FS := FS.below hbx
  replace FK := FK.below hbx
  replace HW := HW.trans (hbx.mono HW.size)
  clear hx hx' hb3 hbx
  obtain ⟨k0, k1⟩ := FX.1.2
  obtain ⟨k2, k3⟩ := FZ.1.2
  go_wp2_with fail
  generalize w_L.alloc (Obj.cells #[Value.slice LA Ln Lc, Value.slice LB Lm Ld] 31) = W_L at *
  refine (HcP.out _ _ _ _ _ _ _ _ _ _ _ _ _ FX.2.1 FX.2.2 FZ.2.1 FZ.2.2).mono ?_
  rintro e w_P ⟨PA, Pn, Pc, PB, Pm, Pd, rfl, hx, hx', hb3⟩
  clear k0 k1 k2 k3
  obtain ⟨FP, hbx⟩ := Fb.new 31 hx hx' hb3
  replace C3 := C3.below hbx
  replace FX := FX.below hbx
  replace FY := FY.below hbx
  replace FZ := FZ.below hbx
  replace FK := FK.below hbx
  replace FL := FL.below hbx
  replace HW := HW.trans (hbx.mono HW.size)
  clear hx hx' hb3 hbx
  obtain ⟨k0, k1⟩ := FY.1.2
  obtain ⟨k2, k3⟩ := FZ.1.2
  go_wp2_with fail
  generalize w_P.alloc (Obj.cells #[Value.slice PA Pn Pc, Value.slice PB Pm Pd] 31) = W_P at *
  refine (HcQ.out _ _ _ _ _ _ _ _ _ _ _ _ _ FY.2.1 FY.2.2 FZ.2.1 FZ.2.2).mono ?_
  rintro e w_Q ⟨QA, Qn, Qc, QB, Qm, Qd, rfl, hx, hx', hb3⟩
  clear k0 k1 k2 k3
  obtain ⟨FQ, hbx⟩ := Fb.new 31 hx hx' hb3
  replace C3 := C3.below hbx
  replace FX := FX.below hbx
  replace FZ := FZ.below hbx
  replace FK := FK.below hbx
  replace FL := FL.below hbx
  replace FP := FP.below hbx
  replace HW := HW.trans (hbx.mono HW.size)
  clear hx hx' hb3 hbx
  obtain ⟨k0, k1⟩ := FP.1.2
  obtain ⟨k2, k3⟩ := FQ.1.2
  go_wp2_with fail
  generalize w_Q.alloc (Obj.cells #[Value.slice QA Qn Qc, Value.slice QB Qm Qd] 31) = W_Q at *
  refine (HcR.out _ _ _ _ _ _ _ _ _ _ _ _ _ FP.2.1 FP.2.2 FQ.2.1 FQ.2.2).mono ?_
  rintro e w_R ⟨RA, Rn, Rc, RB, Rm, Rd, rfl, hx, hx', hb3⟩
  clear k0 k1 k2 k3
  obtain ⟨FR, hbx⟩ := Fb.new 31 hx hx' hb3
  replace C3 := C3.below hbx
  replace FX := FX.below hbx
  replace FZ := FZ.below hbx
  replace FK := FK.below hbx
  replace FL := FL.below hbx
  replace FP := FP.below hbx
  replace HW := HW.trans (hbx.mono HW.size)
  clear hx hx' hb3 hbx
  obtain ⟨k0, k1⟩ := FK.1.2
  obtain ⟨k2, k3⟩ := FX.1.2
  go_wp2_with fail
  generalize w_R.alloc (Obj.cells #[Value.slice RA Rn Rc, Value.slice RB Rm Rd] 31) = W_R at *
  refine (HcU.out _ _ _ _ _ _ _ _ _ _ _ _ _ FK.2.1 FK.2.2 FX.2.1 FX.2.2).mono ?_
  rintro e w_u ⟨rfl, hbx⟩
  clear k0 k1 k2 k3
  replace C3 := C3.below hbx
  replace FX := FX.below hbx
  replace FZ := FZ.below hbx
  replace FL := FL.below hbx
  replace FP := FP.below hbx
  replace FR := FR.below hbx
  replace HW := HW.trans (hbx.mono HW.size)
  clear hbx
  obtain ⟨k0, k1⟩ := FL.1.2
  obtain ⟨k2, k3⟩ := FR.1.2
  go_wp2_with fail
  refine (HcV.out _ _ _ _ _ _ _ _ _ _ _ _ _ FL.2.1 FL.2.2 FR.2.1 FR.2.2).mono ?_
  rintro e w_v ⟨rfl, hbx⟩
  clear k0 k1 k2 k3
  replace C3 := C3.below hbx
  replace FX := FX.below hbx
  replace FZ := FZ.below hbx
  replace FL := FL.below hbx
  replace FP := FP.below hbx
  replace HW := HW.trans (hbx.mono HW.size)
  clear hbx
  obtain ⟨k0, k1⟩ := FL.1.2
  go_wp2_with fail
  refine (frmd_nat _ _ _ _ _ _ l1 l2 _ FL.2.1 FL.2.2 hL).mono ?_
  rintro e w_f ⟨rfl, hbx⟩
  clear k0 k1
  replace C3 := C3.below hbx
  replace FX := FX.below hbx
  replace FZ := FZ.below hbx
  replace FP := FP.below hbx
  replace HW := HW.trans (hbx.mono HW.size)
  clear hbx
  have e4 : ((c0 : Int) == 0) = false := by simp; omega
  obtain ⟨k0, k1⟩ := C3.2
  obtain ⟨k2, k3⟩ := FP.1.2
  obtain ⟨k4, k5⟩ := FZ.1.2
  go_wp2_with fail
  refine (HcT.out _ _ _ _ _ _ _ _ _ _ _ _ _ FP.2.1 FP.2.2 FZ.2.1 FZ.2.2).mono ?_
  rintro e w_T ⟨TA, Tn, Tc, TB, Tm, Td, rfl, hx, hx', hb3⟩
  clear k0 k1 k2 k3 k4 k5
  obtain ⟨FT, hbx⟩ := Fb.new 31 hx hx' hb3
  replace FX := FX.below hbx
  replace HW := HW.trans (hbx.mono HW.size)
  clear hx hx' hb3 hbx
  obtain ⟨k0, k1⟩ := FT.1.2
  obtain ⟨k2, k3⟩ := FX.1.2
  go_wp2_with fail
  generalize w_T.alloc (Obj.cells #[Value.slice TA Tn Tc, Value.slice TB Tm Td] 31) = W_T at *
  refine (HcW.out _ _ _ _ _ _ _ _ _ _ _ _ _ FT.2.1 FT.2.2 FX.2.1 FX.2.2).mono ?_
  rintro e w_w ⟨rfl, hbx⟩
  clear k0 k1 k2 k3
  replace HW := HW.trans (hbx.mono HW.size)
  clear hbx
  have HF := Lib.hid HW
  clear C3 FX FZ FP FT HW
  go_wp2
  go_ret
  exact ⟨rfl, HF.out⟩

theorem of_red (p q : Nat) (hp : p < 18446744073709551616) (hq : q < 18446744073709551616) (h : q ≠ 0) (W : World) :
    Calls Try.prog 12 #[.int .u64 (p : Int), .int .u64 (q : Int)] W (RdR2 W (digs (p / Nat.gcd p q)) (digs (q / Nat.gcd p q)) 0) := by
  have := qof_any p q W hp hq
  rw [mkR_digs (Nat.le_trans (len64 hp) (by omega)) (Nat.le_trans (len64 hq) (by omega)) h] at this
  exact this.mono fun _ _ k => k.rd
theorem rrules_good (a0 a1 b0 b1 c0 c1 : Nat) (w : World) (ga0 : a0 < 18446744073709551616) (ga1 : a1 < 18446744073709551616) (gb0 : b0 < 18446744073709551616) (gb1 : b1 < 18446744073709551616) (gc0 : c0 < 18446744073709551616) (gc1 : c1 < 18446744073709551616) (h1 : a1 ≠ 0) (h2 : b1 ≠ 0) (h3 : c1 ≠ 0) :
    Calls Try.prog 7 #[.agg #[.int .u64 (a0 : Int), .int .u64 (a1 : Int)], .agg #[.int .u64 (b0 : Int), .int .u64 (b1 : Int)], .agg #[.int .u64 (c0 : Int), .int .u64 (c1 : Int)]] w fun e w' => e = .returned (.bool true) ∧ Below w.heap.size w w' := by
  have cX := of_red a0 a1 ga0 ga1 h1
  have cY := of_red b0 b1 gb0 gb1 h2
  have cZ := of_red c0 c1 gc0 gc1 h3
  have Lx := len_red (len64 ga0) (len64 ga1)
  have Ly := len_red (len64 gb0) (len64 gb1)
  have Lz := len_red (len64 gc0) (len64 gc1)
  have Fx := fr_red (Nat.le_trans (len64 ga0) (by omega)) (Nat.le_trans (len64 ga1) (by omega)) h1
  have Fy := fr_red (Nat.le_trans (len64 gb0) (by omega)) (Nat.le_trans (len64 gb1) (by omega)) h2
  have Fz := fr_red (Nat.le_trans (len64 gc0) (by omega)) (Nat.le_trans (len64 gc1) (by omega)) h3
  have Ez := (red_facts c0 c1 h3).1
  generalize a0 / Nat.gcd a0 a1 = x1 at *
  generalize a1 / Nat.gcd a0 a1 = x2 at *
  generalize b0 / Nat.gcd b0 b1 = y1 at *
  generalize b1 / Nat.gcd b0 b1 = y2 at *
  generalize c0 / Nat.gcd c0 c1 = z1 at *
  generalize c1 / Nat.gcd c0 c1 = z2 at *
  have nx := Fx.2.2.1
  have ny := Fy.2.2.1
  have nz := Fz.2.2.1
  -- the sum
  have a1' := len_mul Lx.1 Ly.2
  have a2' := len_mul Ly.1 Lx.2
  have a3' := len_mul Lx.2 Ly.2
  have a4' := len_add a1' a2'
  have cS := bin_add Fx Fy (Nat.le_trans a1' (by omega)) (Nat.le_trans a2' (by omega)) (Nat.le_trans a3' (by omega)) (Nat.le_trans a4' (by omega))
  have Ls := len_red a4' a3'
  have Fs := fr_red (Nat.le_trans a4' (by omega)) (Nat.le_trans a3' (by omega)) (Nat.mul_ne_zero nx ny)
  have Es := (red_facts (x1 * y2 + y1 * x2) (x2 * y2) (Nat.mul_ne_zero nx ny)).1
  generalize (x1 * y2 + y1 * x2) / Nat.gcd (x1 * y2 + y1 * x2) (x2 * y2) = s1 at *
  generalize x2 * y2 / Nat.gcd (x1 * y2 + y1 * x2) (x2 * y2) = s2 at *
  have ns := Fs.2.2.1
  -- the difference
  have b1' := len_mul Ls.1 Ly.2
  have b2' := len_mul Ly.1 Ls.2
  have b3' := len_mul Ls.2 Ly.2
  have hle := sum_ge_part nx ny Es
  have cK := bin_sub Fs Fy (Nat.le_trans b1' (by omega)) (Nat.le_trans b2' (by omega)) (Nat.le_trans b3' (by omega)) hle
  have b4' : (digs (s1 * y2 - y1 * s2)).length ≤ 7 := Nat.le_trans (len_digs_mono (Nat.sub_le _ _)) b1'
  have Lk := len_red b4' b3'
  have Fk := fr_red (Nat.le_trans b4' (by omega)) (Nat.le_trans b3' (by omega)) (Nat.mul_ne_zero ns ny)
  have Ek := (red_facts (s1 * y2 - y1 * s2) (s2 * y2) (Nat.mul_ne_zero ns ny)).1
  generalize (s1 * y2 - y1 * s2) / Nat.gcd (s1 * y2 - y1 * s2) (s2 * y2) = k1 at *
  generalize s2 * y2 / Nat.gcd (s1 * y2 - y1 * s2) (s2 * y2) = k2 at *
  -- the products
  have d1 := len_mul Ls.1 Lz.1
  have d2 := len_mul Ls.2 Lz.2
  have cL := bin_mul Fs Fz (Nat.le_trans d1 (by omega)) (Nat.le_trans d2 (by omega))
  have Ll := len_red d1 d2
  have Fl := fr_red (Nat.le_trans d1 (by omega)) (Nat.le_trans d2 (by omega)) (Nat.mul_ne_zero ns nz)
  have El := (red_facts (s1 * z1) (s2 * z2) (Nat.mul_ne_zero ns nz)).1
  generalize s1 * z1 / Nat.gcd (s1 * z1) (s2 * z2) = l1 at *
  generalize s2 * z2 / Nat.gcd (s1 * z1) (s2 * z2) = l2 at *
  have d3 := len_mul Lx.1 Lz.1
  have d4 := len_mul Lx.2 Lz.2
  have cP := bin_mul Fx Fz (Nat.le_trans d3 (by omega)) (Nat.le_trans d4 (by omega))
  have Lp := len_red d3 d4
  have Fp := fr_red (Nat.le_trans d3 (by omega)) (Nat.le_trans d4 (by omega)) (Nat.mul_ne_zero nx nz)
  have Ep := (red_facts (x1 * z1) (x2 * z2) (Nat.mul_ne_zero nx nz)).1
  generalize x1 * z1 / Nat.gcd (x1 * z1) (x2 * z2) = p1 at *
  generalize x2 * z2 / Nat.gcd (x1 * z1) (x2 * z2) = p2 at *
  have d5 := len_mul Ly.1 Lz.1
  have d6 := len_mul Ly.2 Lz.2
  have cQ := bin_mul Fy Fz (Nat.le_trans d5 (by omega)) (Nat.le_trans d6 (by omega))
  have Lq := len_red d5 d6
  have Fq := fr_red (Nat.le_trans d5 (by omega)) (Nat.le_trans d6 (by omega)) (Nat.mul_ne_zero ny nz)
  have Eq := (red_facts (y1 * z1) (y2 * z2) (Nat.mul_ne_zero ny nz)).1
  generalize y1 * z1 / Nat.gcd (y1 * z1) (y2 * z2) = q1 at *
  generalize y2 * z2 / Nat.gcd (y1 * z1) (y2 * z2) = q2 at *
  have np := Fp.2.2.1
  have nq := Fq.2.2.1
  -- the sum of the products
  have e1 := len_mul Lp.1 Lq.2
  have e2 := len_mul Lq.1 Lp.2
  have e3 := len_mul Lp.2 Lq.2
  have e4 := len_add e1 e2
  have cR := bin_add Fp Fq (Nat.le_trans e1 (by omega)) (Nat.le_trans e2 (by omega)) (Nat.le_trans e3 (by omega)) (Nat.le_trans e4 (by omega))
  have Lr := len_red e4 e3
  have Fr_ := fr_red (Nat.le_trans e4 (by omega)) (Nat.le_trans e3 (by omega)) (Nat.mul_ne_zero np nq)
  have Er := (red_facts (p1 * q2 + q1 * p2) (p2 * q2) (Nat.mul_ne_zero np nq)).1
  generalize (p1 * q2 + q1 * p2) / Nat.gcd (p1 * q2 + q1 * p2) (p2 * q2) = r1 at *
  generalize p2 * q2 / Nat.gcd (p1 * q2 + q1 * p2) (p2 * q2) = r2 at *
  -- the comparisons
  have cU := bin_cmp Fk Fx (Nat.le_trans (len_mul Lk.1 Lx.2) (by omega)) (Nat.le_trans (len_mul Lx.1 Lk.2) (by omega))
  rw [back_eq nx ny ns Es Ek, cmpN_eq] at cU
  have cV := bin_cmp Fl Fr_ (Nat.le_trans (len_mul Ll.1 Lr.2) (by omega)) (Nat.le_trans (len_mul Lr.1 Ll.2) (by omega))
  rw [dist_eq nx ny nz ns np nq Es El Ep Eq Er, cmpN_eq] at cV
  by_cases h4 : c0 = 0
  · subst h4
    exact rrules_nul a0 a1 b0 b1 c1 w h1 h2 h3 x1 x2 y1 y2 z1 z2 s1 s2 k1 k2 l1 l2 p1 p2 q1 q2 r1 r2 cX cY cZ cS cK cL cP cQ cR cU cV Fl
  · have hz1 : z1 ≠ 0 := by
      intro e; rw [e, Nat.zero_mul] at Ez
      exact Nat.mul_ne_zero h4 nz Ez.symm
    have f1 := len_mul Lp.1 Lz.2
    have f2 := len_mul Lp.2 Lz.1
    have cT := bin_div Fp Fz hz1 (Nat.le_trans f1 (by omega)) (Nat.le_trans f2 (by omega))
    have Lt := len_red f1 f2
    have Ft := fr_red (Nat.le_trans f1 (by omega)) (Nat.le_trans f2 (by omega)) (Nat.mul_ne_zero np hz1)
    have Et := (red_facts (p1 * z2) (p2 * z1) (Nat.mul_ne_zero np hz1)).1
    generalize p1 * z2 / Nat.gcd (p1 * z2) (p2 * z1) = t1 at *
    generalize p2 * z1 / Nat.gcd (p1 * z2) (p2 * z1) = t2 at *
    have cW := bin_cmp Ft Fx (Nat.le_trans (len_mul Lt.1 Lx.2) (by omega)) (Nat.le_trans (len_mul Lx.1 Lt.2) (by omega))
    rw [again_eq np hz1 Ep Et, cmpN_eq] at cW
    exact rrules_main a0 a1 b0 b1 c0 c1 w h1 h2 h3 h4 x1 x2 y1 y2 z1 z2 s1 s2 k1 k2 l1 l2 p1 p2 q1 q2 r1 r2 t1 t2 cX cY cZ cS cK cL cP cQ cR cU cV Fl cT cW
theorem rrules_walk (a0 a1 b0 b1 c0 c1 : Nat) (w : World) (ga0 : a0 < 18446744073709551616) (ga1 : a1 < 18446744073709551616) (gb0 : b0 < 18446744073709551616) (gb1 : b1 < 18446744073709551616) (gc0 : c0 < 18446744073709551616) (gc1 : c1 < 18446744073709551616) :
    Calls Try.prog 7 #[.agg #[.int .u64 (a0 : Int), .int .u64 (a1 : Int)], .agg #[.int .u64 (b0 : Int), .int .u64 (b1 : Int)], .agg #[.int .u64 (c0 : Int), .int .u64 (c1 : Int)]] w fun e w' => e = .returned (.bool true) ∧ Below w.heap.size w w' := by
  by_cases h1 : a1 = 0
  · subst h1; exact rrules_a a0 b0 b1 c0 c1 w
  by_cases h2 : b1 = 0
  · subst h2; exact rrules_b a0 a1 b0 c0 c1 w h1
  by_cases h3 : c1 = 0
  · subst h3; exact rrules_c a0 a1 b0 b1 c0 w h1 h2
  exact rrules_good a0 a1 b0 b1 c0 c1 w ga0 ga1 gb0 gb1 gc0 gc1 h1 h2 h3
end Go.Proofs.Yteicihaigkgbnaa
