/-
  The walk of the law RatioLong: for every 8-bit number and every 32-bit number the call returns true and writes nothing that was there.
-/
import Derived.Test.YteicihaigkgbnaaLongMath
namespace Go.Proofs.Yteicihaigkgbnaa
open Go.RowKit

/-- Two rows of the call's own. -/
def Two (w : World) (gx gy : Nat) (xs ys : List Nat) (W : World) : Prop := gx ≠ gy ∧ w.heap.size ≤ gx ∧ w.heap.size ≤ gy ∧ Blk W gx xs ∧ Blk W gy ys ∧ Below w.heap.size w W
theorem two_xy (w : World) (us vs : List Nat) : Two w w.heap.size (w.heap.size + 1) us vs ((w.alloc (.cells (vals us) 54)).alloc (.cells (vals vs) 54)).drew := by
  have hs : (w.alloc (.cells (vals us) 54)).heap.size = w.heap.size + 1 := by simp
  refine ⟨by omega, Nat.le_refl _, by omega, ((Blk.new w us).alloc _).drew, ?_, (((Below.refl _ w).alloc (Nat.le_refl _) _).alloc (by omega) _).drew⟩
  have := Blk.new (w.alloc (.cells (vals us) 54)) vs
  rw [hs] at this
  exact this.drew
theorem two_yx (w : World) (us vs : List Nat) : Two w (w.heap.size + 1) w.heap.size us vs ((w.alloc (.cells (vals vs) 54)).alloc (.cells (vals us) 54)).drew := by
  obtain ⟨h1, h2, h3, h4, h5, h6⟩ := two_xy w vs us
  exact ⟨fun e => h1 e.symm, h3, h2, h5, h4, h6⟩
/-- One limb is stored in each. -/
theorem Two.set_ {w W : World} {gx gy : Nat} {xs ys : List Nat} (h : Two w gx gy xs ys W) (i x y : Nat) : Two w gx gy (xs.set i x) (ys.set i y) ((W.setCell ⟨gx, i, none⟩ (.int .u32 (x : Int))).setCell ⟨gy, i, none⟩ (.int .u32 (y : Int))) := by
  obtain ⟨h1, h2, h3, h4, h5, h6⟩ := h
  exact ⟨h1, h2, h3, (h4.set_ i x).far h1 _, (h5.far (p := ⟨gx, i, none⟩) (fun e => h1 e.symm) _).set_ i y, (h6.setCell (p := ⟨gx, i, none⟩) h2 _).setCell (p := ⟨gy, i, none⟩) h3 _⟩

set_option maxRecDepth 100000 in
set_option maxHeartbeats 6400000 in
theorem rlong_big (N low K M : Nat) (w : World) (hN : N < 256) (hlow : low < 4294967296) (hK : K = 150 + N % 60) (hM : big K (low ||| 1) = digs M) (hlen : 400 < 2 * K) (h1 h2 : Nat)
    (cA : ∀ W A n c B m d, Rd W A n c (digs M) → Rd W B m d (digs 2) → Calls Try.prog 10 #[.slice A n c, .slice B m d] W (RdR2 W (digs M) (digs 2) 0))
    (cB : ∀ W A n c B m d, Rd W A n c (digs 2) → Rd W B m d (digs M) → Calls Try.prog 10 #[.slice A n c, .slice B m d] W (RdR2 W (digs 2) (digs M) 0))
    (cG : Bin 26 M 2 M 2 [] [] 4)
    (cH : Bin 18 M 2 M 2 (digs h1) (digs h2) 0)
    (cI : Bin 28 M 2 2 M [] [] 4)
    (cU : BinZ 24 M 2 2 M 0) :
    Calls Try.prog 6 #[.int .u8 (N : Int), .int .u32 (low : Int)] w fun e w' => e = .returned (.bool true) ∧ Below w.heap.size w w' := by
  have HcA := Lib.hid cA
  have HcB := Lib.hid cB
  have HcG := Lib.hid cG
  have HcH := Lib.hid cH
  have HcI := Lib.hid cI
  have HcU := Lib.hid cU
  clear cA cB cG cH cI cU
  have hKK : (150 + (N : Int) % 60) = (K : Int) := by omega
  have hK1 : 150 ≤ K := by omega
  have hK2 : K ≤ 209 := by omega
  have hmk := mk32 (K : Int) K rfl (by omega)
  have hor : bits .or .u32 (low : Int) 1 = ((low ||| 1 : Nat) : Int) := u32_or_nat low 1 hlow (by omega)
  have hv := or_lt hlow
  generalize low ||| 1 = v at *
  have HM := Lib.hid hM
  clear hM hK
  go_enter Try.func6, Try.ntmps6
  go_wp2_with fail
  refine (awake2_any _).mono ?_
  rintro e w1 ⟨rfl, hb1⟩
  go_upto_region 4 with (fail)
  clear hKK hN
  go_cut [6, 7] (fun s6 s7 wx => ∃ gx gy : Nat, s6 = .slice (some ⟨gx, 0, none⟩) K K ∧ s7 = .slice (some ⟨gy, 0, none⟩) K K ∧ Hid (Two w1 gx gy (zeros K) (zeros K) wx))
  case first =>
    go_region
    all_goals (go_wp2_with fail; go_meet; first | exact ⟨_, _, rfl, rfl, two_xy _ _ _⟩ | exact ⟨_, _, rfl, rfl, two_yx _ _ _⟩)
  case rest =>
    obtain ⟨gx, gy, rfl, rfl, HC⟩ := hcut
    clear hmk
    have hne := HC.out.1
    have hne' : gy ≠ gx := fun e => hne e.symm
    go_wp2
    go_loopg [31] K (fun g t wr => ∃ k : Nat, k + g = K ∧ t = .int .i64 k ∧ Hid (Two w1 gx gy (fil K k) (fil K k) wr))
    case atStart => exact ⟨0, Nat.zero_add _, rfl, by rw [fil_zero]; exact HC⟩
    case round =>
      clear HC
      obtain ⟨k, hk, rfl, HT⟩ := hrel
      have HKK := Lib.hid hk
      clear hk
      by_cases hkn : k < K
      · obtain ⟨_, hgx, hgy, hBx, hBy, hbel⟩ := HT.out
        have hl := fil_len (k := K) (i := k) (by omega)
        have c1 := hBx.cell (i := k) (by omega)
        have c2 := hBy.cell (i := k) (by omega)
        have z1 := hBx.frozen k
        have z2 := hBy.frozen k
        have hki : (k : Int) < (K : Int) := by omega
        clear hBx hBy hbel hl
        go_wp2
        go_roundg (gk - 1)
        case rel =>
          refine ⟨k + 1, by have := HKK.out; omega, by go_num, ?_⟩
          have := HT.out.set_ k 4294967295 4294967295
          rw [fil_set hkn] at this
          exact this
        case measure => have := HKK.out; omega
      · have hkn' : ¬ ((k : Int) < (K : Int)) := by omega
        have hkK : k = K := by have := HKK.out; omega
        subst hkK
        have hT := HT.out
        obtain ⟨_, hgx, hgy, hBx, hBy, hbel⟩ := hT
        have hl := fil_len (k := k) (i := k) (Nat.le_refl _)
        have c1 := hBx.cell (i := 0) (by omega)
        have c2 := hBy.cell (i := 0) (by omega)
        have z1 := hBx.frozen 0
        have z2 := hBy.frozen 0
        have hpos : (0 : Int) < (k : Int) := by omega
        have HT2 := HT.out.set_ 0 v v
        rw [fil_big (by omega)] at HT2
        obtain ⟨_, _, _, hCx, hCy, hbe2⟩ := HT2
        have hlb := big_len (k := k) (v := v) (by omega)
        have Ra := (hCx.nw (big_lim hv) hlb (by omega) (Nat.zero_le _)).1
        have Rb := (hCy.nw (big_lim hv) hlb (by omega) (Nat.zero_le _)).1
        rw [HM.out] at Ra Rb
        have HW := hb1.trans (hbe2.mono hb1.size)
        clear hBx hBy hbel hl hCx hCy hbe2 hlb HT HM HKK hgx hgy
        have hlI : 400 < 2 * (k : Int) := by omega
        go_wp2_with fail
        refine (of_any 2 _ (by omega)).mono ?_
        rintro e w_O ⟨OA, On, Oc, rfl, hOO, hbx⟩
        have RO := hOO.1
        replace Ra := Ra.below hbx
        replace Rb := Rb.below hbx
        replace HW := HW.trans (hbx.mono HW.size)
        clear hbx hOO
        go_wp2_with fail
        refine (HcA.out _ _ _ _ _ _ _ Ra RO).mono ?_
        rintro e w_X ⟨XA, Xn, Xc, XB, Xm, Xd, rfl, hx, hx', hb3⟩
        obtain ⟨FX, hbx⟩ := Fb.new 31 hx hx' hb3
        replace Rb := Rb.below hbx
        replace HW := HW.trans (hbx.mono HW.size)
        clear hx hx' hb3 hbx
        go_wp2_with fail
        generalize w_X.alloc (Obj.cells #[Value.slice XA Xn Xc, Value.slice XB Xm Xd] 31) = W_X at *
        refine (of_any 2 _ (by omega)).mono ?_
        rintro e w_P ⟨PA, Pn, Pc, rfl, hOP, hbx⟩
        have RP := hOP.1
        replace Rb := Rb.below hbx
        replace FX := FX.below hbx
        replace HW := HW.trans (hbx.mono HW.size)
        clear hbx hOP
        go_wp2_with fail
        refine (HcB.out _ _ _ _ _ _ _ RP Rb).mono ?_
        rintro e w_Y ⟨YA, Yn, Yc, YB, Ym, Yd, rfl, hx, hx', hb3⟩
        obtain ⟨FY, hbx⟩ := Fb.new 31 hx hx' hb3
        replace FX := FX.below hbx
        replace HW := HW.trans (hbx.mono HW.size)
        clear hx hx' hb3 hbx
        obtain ⟨k0, k1⟩ := FX.1.2
        go_wp2_with fail
        generalize w_Y.alloc (Obj.cells #[Value.slice YA Yn Yc, Value.slice YB Ym Yd] 31) = W_Y at *
        refine (HcG.out _ _ _ _ _ _ _ _ _ _ _ _ _ FX.2.1 FX.2.2 FX.2.1 FX.2.2).mono ?_
        rintro e w_G ⟨GA, Gn, Gc, GB, Gm, Gd, rfl, hx, hx', hb3⟩
        clear k0 k1
        obtain ⟨FG, hbx⟩ := Fb.new 31 hx hx' hb3
        replace FX := FX.below hbx
        replace FY := FY.below hbx
        replace HW := HW.trans (hbx.mono HW.size)
        clear hx hx' hb3 hbx
        obtain ⟨k0, k1⟩ := FX.1.2
        go_wp2_with fail
        generalize w_G.alloc (Obj.cells #[Value.slice GA Gn Gc, Value.slice GB Gm Gd] 31) = W_G at *
        refine (HcH.out _ _ _ _ _ _ _ _ _ _ _ _ _ FX.2.1 FX.2.2 FX.2.1 FX.2.2).mono ?_
        rintro e w_H ⟨HA, Hn, Hc, HB, Hm, Hd, rfl, hx, hx', hb3⟩
        clear k0 k1
        obtain ⟨FH, hbx⟩ := Fb.new 31 hx hx' hb3
        replace FX := FX.below hbx
        replace FY := FY.below hbx
        replace HW := HW.trans (hbx.mono HW.size)
        clear hx hx' hb3 hbx
        obtain ⟨k0, k1⟩ := FX.1.2
        obtain ⟨k2, k3⟩ := FY.1.2
        go_wp2_with fail
        generalize w_H.alloc (Obj.cells #[Value.slice HA Hn Hc, Value.slice HB Hm Hd] 31) = W_H at *
        refine (HcI.out _ _ _ _ _ _ _ _ _ _ _ _ _ FX.2.1 FX.2.2 FY.2.1 FY.2.2).mono ?_
        rintro e w_I ⟨IA, In, Ic, IB, Im, Id, rfl, hx, hx', hb3⟩
        clear k0 k1 k2 k3
        obtain ⟨FI, hbx⟩ := Fb.new 31 hx hx' hb3
        replace FX := FX.below hbx
        replace FY := FY.below hbx
        replace HW := HW.trans (hbx.mono HW.size)
        clear hx hx' hb3 hbx
        obtain ⟨k0, k1⟩ := FX.1.2
        obtain ⟨k2, k3⟩ := FY.1.2
        go_wp2_with fail
        generalize w_I.alloc (Obj.cells #[Value.slice IA In Ic, Value.slice IB Im Id] 31) = W_I at *
        refine (HcU.out _ _ _ _ _ _ _ _ _ _ _ _ _ FX.2.1 FX.2.2 FY.2.1 FY.2.2).mono ?_
        rintro e w_u ⟨rfl, hbx⟩
        clear k0 k1 k2 k3
        replace HW := HW.trans (hbx.mono HW.size)
        clear hbx
        have HF := Lib.hid HW
        clear FX FY HW
        go_wp2
        go_ret
        exact ⟨rfl, HF.out⟩
set_option maxRecDepth 100000 in
set_option maxHeartbeats 6400000 in
theorem rlong_small (N low K M : Nat) (w : World) (hN : N < 256) (hlow : low < 4294967296) (hK : K = 150 + N % 60) (hM : big K (low ||| 1) = digs M) (hlen : 2 * K ≤ 400) (g1 g2 h1 h2 i1 i2 : Nat)
    (cA : ∀ W A n c B m d, Rd W A n c (digs M) → Rd W B m d (digs 2) → Calls Try.prog 10 #[.slice A n c, .slice B m d] W (RdR2 W (digs M) (digs 2) 0))
    (cB : ∀ W A n c B m d, Rd W A n c (digs 2) → Rd W B m d (digs M) → Calls Try.prog 10 #[.slice A n c, .slice B m d] W (RdR2 W (digs 2) (digs M) 0))
    (cG : Bin 26 M 2 M 2 (digs g1) (digs g2) 0)
    (cH : Bin 18 M 2 M 2 (digs h1) (digs h2) 0)
    (cI : Bin 28 M 2 2 M (digs i1) (digs i2) 0)
    (cU : BinZ 24 M 2 2 M 1)
    (cV : BinZ 24 2 M M 2 (-1)) :
    Calls Try.prog 6 #[.int .u8 (N : Int), .int .u32 (low : Int)] w fun e w' => e = .returned (.bool true) ∧ Below w.heap.size w w' := by
  have HcA := Lib.hid cA
  have HcB := Lib.hid cB
  have HcG := Lib.hid cG
  have HcH := Lib.hid cH
  have HcI := Lib.hid cI
  have HcU := Lib.hid cU
  have HcV := Lib.hid cV
  clear cA cB cG cH cI cU cV
  have hKK : (150 + (N : Int) % 60) = (K : Int) := by omega
  have hK1 : 150 ≤ K := by omega
  have hK2 : K ≤ 209 := by omega
  have hmk := mk32 (K : Int) K rfl (by omega)
  have hor : bits .or .u32 (low : Int) 1 = ((low ||| 1 : Nat) : Int) := u32_or_nat low 1 hlow (by omega)
  have hv := or_lt hlow
  generalize low ||| 1 = v at *
  have HM := Lib.hid hM
  clear hM hK
  go_enter Try.func6, Try.ntmps6
  go_wp2_with fail
  refine (awake2_any _).mono ?_
  rintro e w1 ⟨rfl, hb1⟩
  go_upto_region 4 with (fail)
  clear hKK hN
  go_cut [6, 7] (fun s6 s7 wx => ∃ gx gy : Nat, s6 = .slice (some ⟨gx, 0, none⟩) K K ∧ s7 = .slice (some ⟨gy, 0, none⟩) K K ∧ Hid (Two w1 gx gy (zeros K) (zeros K) wx))
  case first =>
    go_region
    all_goals (go_wp2_with fail; go_meet; first | exact ⟨_, _, rfl, rfl, two_xy _ _ _⟩ | exact ⟨_, _, rfl, rfl, two_yx _ _ _⟩)
  case rest =>
    obtain ⟨gx, gy, rfl, rfl, HC⟩ := hcut
    clear hmk
    have hne := HC.out.1
    have hne' : gy ≠ gx := fun e => hne e.symm
    go_wp2
    go_loopg [31] K (fun g t wr => ∃ k : Nat, k + g = K ∧ t = .int .i64 k ∧ Hid (Two w1 gx gy (fil K k) (fil K k) wr))
    case atStart => exact ⟨0, Nat.zero_add _, rfl, by rw [fil_zero]; exact HC⟩
    case round =>
      clear HC
      obtain ⟨k, hk, rfl, HT⟩ := hrel
      have HKK := Lib.hid hk
      clear hk
      by_cases hkn : k < K
      · obtain ⟨_, hgx, hgy, hBx, hBy, hbel⟩ := HT.out
        have hl := fil_len (k := K) (i := k) (by omega)
        have c1 := hBx.cell (i := k) (by omega)
        have c2 := hBy.cell (i := k) (by omega)
        have z1 := hBx.frozen k
        have z2 := hBy.frozen k
        have hki : (k : Int) < (K : Int) := by omega
        clear hBx hBy hbel hl
        go_wp2
        go_roundg (gk - 1)
        case rel =>
          refine ⟨k + 1, by have := HKK.out; omega, by go_num, ?_⟩
          have := HT.out.set_ k 4294967295 4294967295
          rw [fil_set hkn] at this
          exact this
        case measure => have := HKK.out; omega
      · have hkn' : ¬ ((k : Int) < (K : Int)) := by omega
        have hkK : k = K := by have := HKK.out; omega
        subst hkK
        have hT := HT.out
        obtain ⟨_, hgx, hgy, hBx, hBy, hbel⟩ := hT
        have hl := fil_len (k := k) (i := k) (Nat.le_refl _)
        have c1 := hBx.cell (i := 0) (by omega)
        have c2 := hBy.cell (i := 0) (by omega)
        have z1 := hBx.frozen 0
        have z2 := hBy.frozen 0
        have hpos : (0 : Int) < (k : Int) := by omega
        have HT2 := HT.out.set_ 0 v v
        rw [fil_big (by omega)] at HT2
        obtain ⟨_, _, _, hCx, hCy, hbe2⟩ := HT2
        have hlb := big_len (k := k) (v := v) (by omega)
        have Ra := (hCx.nw (big_lim hv) hlb (by omega) (Nat.zero_le _)).1
        have Rb := (hCy.nw (big_lim hv) hlb (by omega) (Nat.zero_le _)).1
        rw [HM.out] at Ra Rb
        have HW := hb1.trans (hbe2.mono hb1.size)
        clear hBx hBy hbel hl hCx hCy hbe2 hlb HT HM HKK hgx hgy
        have hlI : ¬ (400 < 2 * (k : Int)) := by omega
        go_wp2_with fail
        refine (of_any 2 _ (by omega)).mono ?_
        rintro e w_O ⟨OA, On, Oc, rfl, hOO, hbx⟩
        have RO := hOO.1
        replace Ra := Ra.below hbx
        replace Rb := Rb.below hbx
        replace HW := HW.trans (hbx.mono HW.size)
        clear hbx hOO
        go_wp2_with fail
        refine (HcA.out _ _ _ _ _ _ _ Ra RO).mono ?_
        rintro e w_X ⟨XA, Xn, Xc, XB, Xm, Xd, rfl, hx, hx', hb3⟩
        obtain ⟨FX, hbx⟩ := Fb.new 31 hx hx' hb3
        replace Rb := Rb.below hbx
        replace HW := HW.trans (hbx.mono HW.size)
        clear hx hx' hb3 hbx
        go_wp2_with fail
        generalize w_X.alloc (Obj.cells #[Value.slice XA Xn Xc, Value.slice XB Xm Xd] 31) = W_X at *
        refine (of_any 2 _ (by omega)).mono ?_
        rintro e w_P ⟨PA, Pn, Pc, rfl, hOP, hbx⟩
        have RP := hOP.1
        replace Rb := Rb.below hbx
        replace FX := FX.below hbx
        replace HW := HW.trans (hbx.mono HW.size)
        clear hbx hOP
        go_wp2_with fail
        refine (HcB.out _ _ _ _ _ _ _ RP Rb).mono ?_
        rintro e w_Y ⟨YA, Yn, Yc, YB, Ym, Yd, rfl, hx, hx', hb3⟩
        obtain ⟨FY, hbx⟩ := Fb.new 31 hx hx' hb3
        replace FX := FX.below hbx
        replace HW := HW.trans (hbx.mono HW.size)
        clear hx hx' hb3 hbx
        obtain ⟨k0, k1⟩ := FX.1.2
        go_wp2_with fail
        generalize w_Y.alloc (Obj.cells #[Value.slice YA Yn Yc, Value.slice YB Ym Yd] 31) = W_Y at *
        refine (HcG.out _ _ _ _ _ _ _ _ _ _ _ _ _ FX.2.1 FX.2.2 FX.2.1 FX.2.2).mono ?_
        rintro e w_G ⟨GA, Gn, Gc, GB, Gm, Gd, rfl, hx, hx', hb3⟩
        clear k0 k1
        obtain ⟨FG, hbx⟩ := Fb.new 31 hx hx' hb3
        replace FX := FX.below hbx
        replace FY := FY.below hbx
        replace HW := HW.trans (hbx.mono HW.size)
        clear hx hx' hb3 hbx
        obtain ⟨k0, k1⟩ := FX.1.2
        go_wp2_with fail
        generalize w_G.alloc (Obj.cells #[Value.slice GA Gn Gc, Value.slice GB Gm Gd] 31) = W_G at *
        refine (HcH.out _ _ _ _ _ _ _ _ _ _ _ _ _ FX.2.1 FX.2.2 FX.2.1 FX.2.2).mono ?_
        rintro e w_H ⟨HA, Hn, Hc, HB, Hm, Hd, rfl, hx, hx', hb3⟩
        clear k0 k1
        obtain ⟨FH, hbx⟩ := Fb.new 31 hx hx' hb3
        replace FX := FX.below hbx
        replace FY := FY.below hbx
        replace HW := HW.trans (hbx.mono HW.size)
        clear hx hx' hb3 hbx
        obtain ⟨k0, k1⟩ := FX.1.2
        obtain ⟨k2, k3⟩ := FY.1.2
        go_wp2_with fail
        generalize w_H.alloc (Obj.cells #[Value.slice HA Hn Hc, Value.slice HB Hm Hd] 31) = W_H at *
        refine (HcI.out _ _ _ _ _ _ _ _ _ _ _ _ _ FX.2.1 FX.2.2 FY.2.1 FY.2.2).mono ?_
        rintro e w_I ⟨IA, In, Ic, IB, Im, Id, rfl, hx, hx', hb3⟩
        clear k0 k1 k2 k3
        obtain ⟨FI, hbx⟩ := Fb.new 31 hx hx' hb3
        replace FX := FX.below hbx
        replace FY := FY.below hbx
        replace HW := HW.trans (hbx.mono HW.size)
        clear hx hx' hb3 hbx
        obtain ⟨k0, k1⟩ := FX.1.2
        obtain ⟨k2, k3⟩ := FY.1.2
        go_wp2_with fail
        generalize w_I.alloc (Obj.cells #[Value.slice IA In Ic, Value.slice IB Im Id] 31) = W_I at *
        refine (HcU.out _ _ _ _ _ _ _ _ _ _ _ _ _ FX.2.1 FX.2.2 FY.2.1 FY.2.2).mono ?_
        rintro e w_u ⟨rfl, hbx⟩
        clear k0 k1 k2 k3
        replace FX := FX.below hbx
        replace FY := FY.below hbx
        replace HW := HW.trans (hbx.mono HW.size)
        clear hbx
        obtain ⟨k0, k1⟩ := FY.1.2
        obtain ⟨k2, k3⟩ := FX.1.2
        go_wp2_with fail
        refine (HcV.out _ _ _ _ _ _ _ _ _ _ _ _ _ FY.2.1 FY.2.2 FX.2.1 FX.2.2).mono ?_
        rintro e w_v ⟨rfl, hbx⟩
        clear k0 k1 k2 k3
        replace HW := HW.trans (hbx.mono HW.size)
        clear hbx
        have HF := Lib.hid HW
        clear FX FY HW
        go_wp2
        go_ret
        exact ⟨rfl, HF.out⟩
theorem rlong_walk (N low : Nat) (w : World) (hN : N < 256) (hlow : low < 4294967296) :
    Calls Try.prog 6 #[.int .u8 (N : Int), .int .u32 (low : Int)] w fun e w' => e = .returned (.bool true) ∧ Below w.heap.size w w' := by
  obtain ⟨K, hK⟩ : ∃ K, K = 150 + N % 60 := ⟨_, rfl⟩
  have hK1 : 150 ≤ K := by omega
  have hK2 : K ≤ 209 := by omega
  obtain ⟨M, hM⟩ : ∃ M, val (big K (low ||| 1)) = M := ⟨_, rfl⟩
  have hd : big K (low ||| 1) = digs M := by rw [← hM, digs_big (by omega) (or_lt hlow)]
  have hodd : M % 2 = 1 := by rw [← hM]; exact big_odd (or_odd low)
  have g2 : Nat.gcd M 2 = 1 := gcd_odd_two hodd
  have g2' : Nat.gcd 2 M = 1 := by rw [Nat.gcd_comm]; exact g2
  have hsq := big_sq (by omega) hM
  have hpos := big_pos (by omega) hM
  have lM : (digs M).length = K := by rw [← hd]; exact big_len (by omega)
  have l2 : (digs 2).length = 1 := by rw [digs_two']; rfl
  have F1 : Fr M 2 := ⟨by omega, by omega, by omega, g2⟩
  have F2 : Fr 2 M := ⟨by omega, by omega, by omega, g2'⟩
  have cA : ∀ W A n c B m d, Rd W A n c (digs M) → Rd W B m d (digs 2) → Calls Try.prog 10 #[.slice A n c, .slice B m d] W (RdR2 W (digs M) (digs 2) 0) := fun W A n c B m d h1 h2 => by
    have := make_any A B n c m d (digs M) (digs 2) W h1 h2
    rw [mkR_digs (by omega) (by omega) (by omega), g2, Nat.div_one, Nat.div_one] at this
    exact this.mono fun _ _ k => k.rd
  have cB : ∀ W A n c B m d, Rd W A n c (digs 2) → Rd W B m d (digs M) → Calls Try.prog 10 #[.slice A n c, .slice B m d] W (RdR2 W (digs 2) (digs M) 0) := fun W A n c B m d h1 h2 => by
    have := make_any A B n c m d (digs 2) (digs M) W h1 h2
    rw [mkR_digs (by omega) (by omega) (by omega), g2', Nat.div_one, Nat.div_one] at this
    exact this.mono fun _ _ k => k.rd
  have m2 : (digs (M * 2)).length ≤ K + 1 := len_mul (by omega) (by omega)
  have m4 : (digs (2 * 2)).length ≤ 1 + 1 := len_mul (by omega) (by omega)
  have cH := bin_add F1 F1 (by omega) (by omega) (by omega) (Nat.le_trans (len_add m2 m2) (by omega))
  by_cases h4 : 400 < 2 * K
  · exact rlong_big N low K M w hN hlow hK hd h4 _ _ cA cB (bin_mul_long F1 F1 (by omega)) cH (bin_div_long F1 F2 (by omega) (by omega)) (bin_cmp_long F1 F2 (by omega))
  · have hm : (digs (M * M)).length ≤ K + K := len_mul (by omega) (by omega)
    have cU := bin_cmp F1 F2 (by omega) (by omega)
    have cV := bin_cmp F2 F1 (by omega) (by omega)
    have hlt : 2 * 2 < M * M := by
      have : M * 2 ≤ M * M := Nat.mul_le_mul_left _ (by omega)
      omega
    rw [cmpN_gt hlt] at cU
    rw [cmpN_lt hlt] at cV
    exact rlong_small N low K M w hN hlow hK hd (by omega) _ _ _ _ _ _ cA cB (bin_mul F1 F1 (by omega) (by omega)) cH (bin_div F1 F2 (by omega) (by omega) (by omega)) cU cV
end Go.Proofs.Yteicihaigkgbnaa
