/-
  phragmen.race's score. For every race that lies well formed, with scores that are far from too long.
  phragmen.committee: the seats, in the order in which they were elected, with their scores. For every well formed snapshot, and at most eight seats.
  phragmen.Elect: the seats and the shares. For every well formed snapshot, and at most eight seats.
-/
import Derived.Test.YtehekjlakegkpaaGreatX21
import Derived.Test.YtehekjlakegkpaaGreatX24
import Derived.Test.YtehekjlakegkpaaGreatX25
import Derived.Deep.RegionHeld3
section
namespace Go.Proofs.YtehekjlakegkpaaGreat
open Go.RowKit
set_option linter.unusedVariables false

theorem sc_end {w4 wr w7 : World} {S : Nat} {cs : Array Value} {A3 B3 : Option Addr} {n3 c3 m3 d3 : Nat} {x : Rat} (hT : Turns (fun b => b = S) w4 wr) (hb7 : Below wr.heap.size wr w7) (hK : KB wr S 38 cs) (hn : NX w7 wr.heap.size ⟨A3, n3, c3, B3, m3, d3⟩ x) :
    (∀ u v, cs = #[u, v] → KB ((w7.setCell ⟨S, 0, none⟩ (.slice A3 n3 c3)).setCell ⟨S, 1, none⟩ (.slice B3 m3 d3)) S 38 #[.slice A3 n3 c3, .slice B3 m3 d3]) ∧ RX ((w7.setCell ⟨S, 0, none⟩ (.slice A3 n3 c3)).setCell ⟨S, 1, none⟩ (.slice B3 m3 d3)) ⟨A3, n3, c3, B3, m3, d3⟩ x ∧
    Pr (fun b => b = S) A3 n3 ∧ Pr (fun b => b = S) B3 m3 ∧ Turns (fun b => b = S) w4 ((w7.setCell ⟨S, 0, none⟩ (.slice A3 n3 c3)).setCell ⟨S, 1, none⟩ (.slice B3 m3 d3)) := by
  have hS := hK.lt
  have hp1 : Pr (fun b => b = S) A3 n3 := fun a e h0 hh => by
    obtain ⟨b, o, e', hb, _⟩ := hn.1.2 h0
    rw [show A3 = some ⟨b, o, none⟩ from e'] at e
    injection e with e
    subst e
    dsimp only at hh; omega
  have hp2 : Pr (fun b => b = S) B3 m3 := fun a e h0 hh => by
    obtain ⟨b, o, e', hb, _⟩ := hn.2.2 h0
    rw [show B3 = some ⟨b, o, none⟩ from e'] at e
    injection e with e
    subst e
    dsimp only at hh; omega
  have hT7 : Turns (fun b => b = S) w4 w7 := hT.bel hb7 hT.size (Nat.le_refl _)
  have hS7 : Turns (fun b => b = S) w7 ((w7.setCell ⟨S, 0, none⟩ (.slice A3 n3 c3)).setCell ⟨S, 1, none⟩ (.slice B3 m3 d3)) := ((Turns.refl (fun b => b = S) w7).setCell' (p := ⟨S, 0, none⟩) rfl _).setCell' (p := ⟨S, 1, none⟩) rfl _
  refine ⟨fun u v e => ?_, hn.rx.turns hS7 hp1 hp2, hp1, hp2, (hT7.setCell' (p := ⟨S, 0, none⟩) rfl _).setCell' (p := ⟨S, 1, none⟩) rfl _⟩
  subst e
  simpa using ((hK.below hb7 hS).set 0 (.slice A3 n3 c3)).set 1 (.slice B3 m3 d3)
set_option maxHeartbeats 6400000 in
theorem score_any {w : World} {base D : Nat} {m : Rm} {vs : List Vr} (u : Rn) (h : RcIn w base m) (hv : Rv w m.vA m.n m.vc vs) (hu : Ri w u.A u.n u.c (ints u.ps)) (hp : ∀ p ∈ u.ps, p < m.n ∧ zl m.lt p < (m.es.length : Int)) (hz : SzM m D)
    (hs : (u.ps.map fun p => (vs[p]?.map Vr.st).getD 0).sum < 18446744073709551616) (hst : 0 < u.st ∧ u.st < 18446744073709551616) :
    Calls Tryz.prog 137 #[.pointer (some ⟨m.P, 0, none⟩), u.val] w (OutX w (scM vs m u)) := by
  have hlo := fun W (g1 : RcIn W base m) g2 g3 => loaded_any u g1 g2 g3 hp hz.len hs
  have HLO := Lib.hid hlo
  have HR := Lib.hid h
  have HV := Lib.hid hv
  have HU := Lib.hid hu
  have hL : ∀ i, el (ldL vs m.lt m.es.length u.ps) i < 18446744073709551616 := fun i => Nat.lt_of_le_of_lt (ldL_le _ _ _ _ _) hs
  have HL := Lib.hid hL
  have hxs : ∀ x ∈ m.es.map Se.x, Den D x ∧ x ≤ 8 := fun x hx => by
    obtain ⟨e, he, rfl⟩ := List.mem_map.1 hx
    exact hz.es e he
  have HSM := Lib.hid (fun k hk => lsum_sm hz.pos hz.le (ldL vs m.lt m.es.length u.ps) (m.es.map Se.x) hxs hL k hk)
  have HZ := Lib.hid hz
  unfold scM
  obtain ⟨cd, UA, un, uc, ps, st⟩ := u
  unfold Rn.val at *
  dsimp only at *
  obtain ⟨hk1, hk2, hb0, hs0⟩ := boxK2 w 180 38 #[.int .i64 cd, .slice UA un uc, .int .u64 (st : Int)] #[.slice none 0 0, .slice none 0 0]
  clear h hv hu hlo hL hxs hp hs hz
  generalize hLd : ldL vs m.lt m.es.length ps = L at *
  go_enter Tryz.func137, Tryz.ntmps137
  go_wp2_with fail
  generalize ((w.alloc (Obj.cells #[.int .i64 cd, .slice UA un uc, .int .u64 (st : Int)] 180)).alloc (Obj.cells #[Value.slice none 0 0, Value.slice none 0 0] 38)) = W0 at *
  refine (number_any 1 W0 (by omega)).mono ?_
  rintro e w2 ⟨f0, rfl, hf0, hb2⟩
  have hb02 := hb0.trans (hb2.mono hb0.size)
  have hk1' := hk1.below hb2 hk1.lt
  have hk2' := hk2.below hb2 hk2.lt
  obtain ⟨A0, n0, c0, B0, m0, d0⟩ := f0
  unfold Fp.val
  dsimp only
  have hkS := KB.new w2 38 #[.slice A0 n0 c0, .slice B0 m0 d0]
  have hbA : Below w2.heap.size w2 (w2.alloc (.cells #[.slice A0 n0 c0, .slice B0 m0 d0] 38)) := (Below.refl _ _).alloc (Nat.le_refl _) _
  have hfA := hf0.rx.below hbA (Nat.le_refl _)
  have hPA : Pr (fun b => b = w2.heap.size) A0 n0 ∧ Pr (fun b => b = w2.heap.size) B0 m0 := ⟨fun a e hn hh => by have := hf0.1.1.lt a e hn; omega, fun a e hn hh => by have := hf0.2.1.lt a e hn; omega⟩
  have hk1A := hk1'.below hbA hk1'.lt
  have hk2A := hk2'.below hbA hk2'.lt
  have hb0A := hb02.trans (hbA.mono hb02.size)
  have hS2 : w.heap.size + 2 ≤ w2.heap.size := by have := hb2.size; omega
  clear hf0 hk1 hk2 hk1' hk2' hb2 hb0 hb02 hbA
  go_upto_region 2 with (fail)
  obtain ⟨wA, hwA⟩ : ∃ wA, w2.alloc (Obj.cells #[Value.slice A0 n0 c0, Value.slice B0 m0 d0] 38) = wA := ⟨_, rfl⟩
  rw [hwA] at hkS hfA hk1A hk2A hb0A ⊢
  generalize hS : w2.heap.size = S at *
  have x0 := hk1A.cell 0
  have x1 := hk1A.cell 1
  have x2 := hk1A.cell 2
  simp at x0 x1 x2
  have hSl := hkS.lt
  have hb0s := hb0A.size
  go_wp2_with fail
  refine (HLO.out wA (HR.out.below hb0A (Nat.le_refl _)) (HV.out.below hb0A (Nat.le_refl _)) (HU.out.below hb0A (Nat.le_refl _))).mono ?_
  rintro e w4 ⟨gL, rfl, hgL, hLr, hb4⟩
  have hkS4 := hkS.below hb4 hSl
  have hk1B := hk1A.below hb4 hk1A.lt
  have hk2B := hk2A.below hb4 hk2A.lt
  have hfB := hfA.below hb4 (Nat.le_refl _)
  have hb04 := hb0A.trans (hb4.mono hb0A.size)
  have hs4 := hb4.size
  have HLR := Lib.hid hLr
  have HPL := Lib.hid (show Pr (fun b => b = S) (some ⟨gL, 0, none⟩) m.es.length from fun a e hn hh => by cases e; dsimp only at hh; omega)
  have HB4 := Lib.hid hb04
  clear x0 x1 x2 hk1A hk2A hkS hfA hb4 hb0A hLr HLO hb04
  have hE8 := HZ.out.len
  go_wp2_with fail
  go_loopg [13] m.es.length (fun g9 tv wr => ∃ (k : Nat) (f : Fp), g9 = m.es.length - k ∧ k ≤ m.es.length ∧ tv = .int .i64 (k : Int) ∧ KB wr S 38 #[.slice f.A f.n f.c, .slice f.B f.m f.d] ∧ RX wr f (lsum L (m.es.map Se.x) k) ∧ Pr (fun b => b = S) f.A f.n ∧ Pr (fun b => b = S) f.B f.m ∧ Turns (fun b => b = S) w4 wr)
  case atStart => exact ⟨0, ⟨A0, n0, c0, B0, m0, d0⟩, rfl, by omega, rfl, hkS4, hfB, hPA.1, hPA.2, Turns.refl _ _⟩
  case round =>
    obtain ⟨k, ⟨A, n, c, B, m1, d⟩, hg9, hk, rfl, hK, hX, hp1, hp2, hT⟩ := hrel
    dsimp only at hK hp1 hp2
    have hb : Below w.heap.size w wr := HB4.out.trans (hT.below (by have := HB4.out.size; omega) (fun b hb => by omega))
    clear hkS4 hfB hPA
    by_cases hlt : k < m.es.length
    · obtain ⟨y, hy⟩ : ∃ y, m.es[k]? = some y := ⟨_, List.getElem?_eq_getElem hlt⟩
      have hLw := HLR.out.turns hT HPL.out
      obtain ⟨bb, oo, e, hbb, hcc⟩ := hLw.at_ (by omega)
      injection e with e
      injection e with e1 e2 _
      subst e1 e2
      have d0 := hcc k hlt
      rw [Nat.zero_add] at d0
      have hC := HR.out.below hb (Nat.le_refl _)
      obtain ⟨gE, cE, hev, hEb, hEl, hEn, hEm, s0, s1, s2⟩ := hC.seat hy
      have hyx := HZ.out.es y (List.mem_of_getElem? hy)
      have hyr := (HR.out.ed y (List.mem_of_getElem? hy)).1.below hb (Nat.le_refl _)
      have hsum : lsum L (m.es.map Se.x) (k + 1) = lsum L (m.es.map Se.x) k + (el L k : Rat) * y.x := by
        show _ + _ * _ = _
        rw [List.getElem?_map, hy]; rfl
      have hsmk := HSM.out k (by omega)
      have hLk := HL.out k
      have P2 := hC.blk.cell 2
      rw [hev] at P2
      simp at P2
      have hSr : S < wr.heap.size := hK.lt
      have hbk : Below wr.heap.size wr wr.drew := (Below.refl _ _).drew
      have HF := Lib.hid (fun W' (hb' : Below wr.heap.size wr W') => (⟨(hK.below hb' hSr).cell 0, (hK.below hb' hSr).cell 1, (hb'.cell (p := ⟨m.P, 2, none⟩) hC.blk.lt).trans P2, (hb'.cell (p := ⟨gE, k * 3 + 1, none⟩) hEl).trans s1, (hb'.cell (p := ⟨gE, k * 3 + 2, none⟩) hEl).trans s2⟩ : _ ∧ _ ∧ _ ∧ _ ∧ _))
      have HG := Lib.hid (fun W' (hb' : Below wr.heap.size wr W') => (⟨hX.below hb' (Nat.le_refl _), hyr.below hb' (Nat.le_refl _)⟩ : RX W' _ _ ∧ RX W' _ _))
      have HE := Lib.hid (fun w7 A3 n3 c3 B3 m3 d3 (hb7 : Below wr.heap.size wr w7) x (hn : NX w7 wr.heap.size ⟨A3, n3, c3, B3, m3, d3⟩ x) => sc_end hT hb7 hK hn)
      have q0 := hK.cell 0
      have q1 := hK.cell 1
      simp at q0 q1
      have hki : (k : Int) < (m.es.length : Int) := by omega
      by_cases h0 : el L k = 0
      · rw [h0, show ((0 : Nat) : Rat) * y.x = 0 from by grind] at hsum
        rw [show lsum L (m.es.map Se.x) k + 0 = lsum L (m.es.map Se.x) k from by grind] at hsum
        rw [h0] at d0
        go_wp2
        go_roundg (m.es.length - (k + 1))
        case measure => omega
        case rel => exact ⟨k + 1, ⟨A, n, c, B, m1, d⟩, rfl, by omega, by go_num, hK, by rw [hsum]; exact hX, hp1, hp2, hT⟩
      · have hpos : (0 : Int) < (el L k : Int) := by omega
        have HSUM := Lib.hid hsum
        have HSX := Lib.hid (And.intro hsmk (mul_sm HZ.out.pos HZ.out.le hLk hyx.1 hyx.2))
        have HSY := Lib.hid (x8_sm HZ.out.pos HZ.out.le hyx.1 hyx.2)
        clear hcc hLw hC hev hEb hEn hEm s0 hyx hyr hsum hsmk hT hX hp1 hp2 HL HSM
        generalize el L k = a at *
        generalize lsum L (m.es.map Se.x) k = sx at *
        obtain ⟨yc, ⟨yA, yn, ycc, yB, ym, yd⟩, yx⟩ := y
        dsimp only at *
        go_upto_region 6 with (fail)
        go_region_with (first
          | (go_at_call 88; refine (number_any a _ hLk).mono ?_; rintro e w5 ⟨f1, rfl, hf1, hb5⟩; have hb5' := hbk.trans (hb5.mono (Nat.le_refl wr.heap.size)); obtain ⟨r0, r1, r2, r3, r4⟩ := HF.out w5 hb5'; simp at r0 r1; have H5 := Lib.hid (And.intro hf1 hb5'); clear hf1 hb5 hb5')
          | (go_at_call 92; refine (times_any (f := f1) (g := ⟨yA, yn, ycc, yB, ym, yd⟩) H5.out.1.rx (HG.out w5 H5.out.2).2 (Sm.word hLk) HSY.out).mono ?_; rintro e w6 ⟨f2, rfl, hf2, hb6⟩; have hb6' := H5.out.2.trans (hb6.mono H5.out.2.size); obtain ⟨t0, t1, t2, t3, t4⟩ := HF.out w6 hb6'; simp at t0 t1; have H6 := Lib.hid (And.intro hf2 hb6'); clear hf2 hb6 hb6')
          | (go_at_call 166; refine (plus_any (f := ⟨A, n, c, B, m1, d⟩) (g := f2) (HG.out w6 H6.out.2).1 H6.out.1.rx HSX.out.1 HSX.out.2).mono ?_; rintro e w7 ⟨⟨A3, n3, c3, B3, m3, d3⟩, rfl, hf3, hb7⟩; have hb7' := H6.out.2.trans (hb7.mono H6.out.2.size); have hf3' := hf3.mono (lo' := wr.heap.size) H6.out.2.size; have H7 := Lib.hid (HE.out w7 A3 n3 c3 B3 m3 d3 hb7' _ hf3'); have k7 := hK.below hb7' hSr; have u0 := k7.cell 0; have u1 := k7.cell 1; have f0 := k7.frozen 0; have f1' := k7.frozen 1; simp at u0 u1; clear hf3 hb7 hb7' hf3' k7; unfold Fp.val; dsimp only))
        all_goals
          go_wp2
          go_roundg (m.es.length - (k + 1))
          case measure => omega
          case rel => exact ⟨k + 1, ⟨A3, n3, c3, B3, m3, d3⟩, rfl, by omega, by go_num, H7.out.1 _ _ rfl, by rw [HSUM.out]; exact H7.out.2.1, H7.out.2.2.1, H7.out.2.2.2.1, H7.out.2.2.2.2⟩
    · obtain rfl : k = m.es.length := by omega
      have hsE := HSM.out m.es.length hE8
      have hSr : S < wr.heap.size := hK.lt
      have hbk : Below wr.heap.size wr wr.drew := (Below.refl _ _).drew
      have hk1C := hk1B.turns hT (by omega)
      have hk2C := hk2B.turns hT (by omega)
      have l2 := hk2C.lt
      have HF := Lib.hid (fun W' (hb' : Below wr.heap.size wr W') => (⟨(hK.below hb' hSr).cell 0, (hK.below hb' hSr).cell 1, (hk1C.below hb' hk1C.lt).cell 2⟩ : _ ∧ _ ∧ _))
      have HG := Lib.hid (fun W' (hb' : Below wr.heap.size wr W') => hX.below hb' (Nat.le_refl _))
      have HQ := Lib.hid (fun W' (hb' : Below wr.heap.size wr W') => hk2C.below hb' l2)
      have HBW := Lib.hid hb
      have hwr := hb.size
      have q0 := hK.cell 0
      have q1 := hK.cell 1
      have q2 := hk1C.cell 2
      simp at q0 q1 q2
      obtain ⟨hst1, hst2⟩ := hst
      have hstp : (0 : Rat) < (st : Rat) := by exact_mod_cast hst1
      clear hT hX hp1 hp2 hg9 HL HSM hk1C hk2C hk1B hk2B hb
      generalize lsum L (m.es.map Se.x) m.es.length = sx at *
      go_wp2_with fail
      go_region_with (first
        | (go_at_call 88; refine (number_any st _ hst2).mono ?_; rintro e w5 ⟨f1, rfl, hf1, hb5⟩; have hb5' := hbk.trans (hb5.mono (Nat.le_refl wr.heap.size)); obtain ⟨r0, r1, r2⟩ := HF.out w5 hb5'; simp at r0 r1 r2; have H5 := Lib.hid (And.intro hf1 hb5'); clear hf1 hb5 hb5')
        | (go_at_call 91; refine (over_any (f := ⟨A, n, c, B, m1, d⟩) (g := f1) (HG.out w5 H5.out.2) H5.out.1.rx hsE (Sm.word hst2) hstp).mono ?_; rintro e w7 ⟨⟨A3, n3, c3, B3, m3, d3⟩, rfl, hf3, hb7⟩; have hb7' := H5.out.2.trans (hb7.mono H5.out.2.size); have hf3' := hf3.mono (lo' := wr.heap.size) H5.out.2.size; have k7 := HQ.out w7 hb7'; have k8 := (k7.set 0 (.slice A3 n3 c3)).set 1 (.slice B3 m3 d3); have u0 := k7.cell 0; have u1 := k7.cell 1; have f0 := k7.frozen 0; have f1' := k7.frozen 1; have v0 := k8.cell 0; have v1 := k8.cell 1; simp at u0 u1 v0 v1; have H7 := Lib.hid (outX_end (w := w) (g := w.heap.size + 1) hf3' (HBW.out.trans (hb7'.mono hwr)) (by omega) l2); clear hf3 hb7 hb7' hf3' k7 k8; unfold Fp.val; dsimp only))
      all_goals
        go_wp2
        refine bodyPost_ret (v := .agg #[.slice A3 n3 c3, .slice B3 m3 d3]) (by simp [results, Tryz.results137, go_sem, v0, v1]) rfl ?_
        exact H7.out
end Go.Proofs.YtehekjlakegkpaaGreat
end
section
namespace Go.Proofs.YtehekjlakegkpaaGreat
open Go.RowKit
set_option linter.unusedVariables false

/-- The supported candidates. -/
def supR (vs : List Vr) (cs : List Int) : List Int := ints (supM vs cs)
theorem supR_len (vs : List Vr) (cs : List Int) : (supR vs cs).length = (supM vs cs).length := ints_len _
theorem supR_eq {vs : List Vr} {cs : List Int} (h : Fd vs cs) : supR vs cs = cs.filter fun x => vs.any fun v => apv v x := by
  have e : supM vs cs = supN vs cs := if_pos h
  unfold supR ints
  rw [e]
  unfold supN
  rw [List.map_map]
  have : ∀ l : List Int, (∀ x ∈ l, 0 ≤ x) → l.map ((fun (x : Nat) => (x : Int)) ∘ Int.toNat) = l := fun l hl => by
    induction l with
    | nil => rfl
    | cons x l ih =>
      rw [List.map_cons, ih (fun y hy => hl y (by simp [hy]))]
      congr 1
      exact Int.toNat_of_nonneg (hl x (by simp))
  refine this _ fun x hx => ?_
  obtain ⟨j, hj, rfl⟩ := mem_zl.1 (List.mem_filter.1 hx).1
  exact h.2.1.ge j hj
theorem supR_nodup {vs : List Vr} {cs : List Int} (h : Fd vs cs) : (supR vs cs).Nodup := by
  rw [supR_eq h]
  exact (h.2.1.pair.imp (fun hlt => by omega) : cs.Pairwise (· ≠ ·)).filter _
theorem supR_some {vs : List Vr} {cs : List Int} (h : Fd vs cs) : ∀ c ∈ supR vs cs, ∃ v ∈ vs, apv v c = true := fun c hc => by
  rw [supR_eq h] at hc
  exact List.any_eq_true.1 (List.mem_filter.1 hc).2
theorem supR_mem {vs : List Vr} {cs : List Int} (h : Fd vs cs) {c : Int} : c ∈ supR vs cs ↔ c ∈ cs ∧ ∃ v ∈ vs, apv v c = true := by
  rw [supR_eq h, List.mem_filter, List.any_eq_true]
/-- How it begins. -/
theorem lk0 {vs : List Vr} {cs : List Int} {m : Rm} (hn : m.n = vs.length) (hrs : m.rs.map Rn.out = beg vs (supM vs cs)) (hes : m.es = []) (hlt : m.lt = List.replicate vs.length (-1)) : Lk vs m (rc0 vs (supR vs cs)) := by
  have hz : ∀ j, j < vs.length → zl m.lt j = -1 := fun j hj => by
    rw [hlt, zl_get _ _ (by simpa using hj)]; simp
  refine ⟨hn, ?_, by rw [hes]; rfl, ?_, fun j hj => ?_, by rw [hlt, hn]; simp⟩
  · rw [hrs]
    show _ = (supR vs cs).map _
    unfold beg supR ints
    rw [List.map_map]; rfl
  · show vs.map (fun v => (v, (0 : Rat))) = _
    rw [← zsF_zero 0 vs]
    refine zsF_congr _ _ _ _ fun i hi => ?_
    unfold ldJ
    rw [Nat.zero_add, hz i hi, if_pos (by omega)]
  · rw [hz j (by omega)]; omega
/-- Seats in new memory. -/
def ComTo (w : World) (es0 : List (Int × Rat)) : Ending → World → Prop := fun e w' => ∃ A c es, e = .returned (.slice A es.length c) ∧ w'.ownsRow w.heap.size 40 3 (.slice A es.length c) es.length (seC es) ∧ (∀ x ∈ es, RX w' x.f x.x) ∧ es.map Se.out = es0 ∧ Below w.heap.size w w'
set_option maxHeartbeats 3200000 in
theorem committee_any (s : Sn) (k : Nat) (w : World) (h : s.In w) (hfd : Fd s.vs s.cs) (hk8 : k ≤ 8) (hk : k ≤ (supR s.vs s.cs).length) :
    Calls Tryz.prog 40 #[s.val, .int .i64 (k : Int)] w (ComTo w ((rc0 s.vs (supR s.vs s.cs)).run k).es) := by
  obtain ⟨A, n, c, B, m, d, vs, cs⟩ := s
  dsimp only at hfd hk ⊢
  have hBe := fun W g => begun_any ⟨A, n, c, B, m, d, vs, cs⟩ W g hfd
  have HI := Lib.hid h
  have hnl := h.1.len
  dsimp only at hnl
  unfold Sn.val at hBe ⊢
  dsimp only at hBe ⊢
  have hk1 := KB.new w 25 #[.slice A n c, .slice B m d]
  have hb1 : Below w.heap.size w (w.alloc (.cells #[.slice A n c, .slice B m d] 25)) := (Below.refl _ _).alloc (Nat.le_refl _) _
  have x0 := hk1.cell 0
  have x1 := hk1.cell 1
  simp at x0 x1
  have hs1 : (w.alloc (.cells #[.slice A n c, .slice B m d] 25)).heap.size = w.heap.size + 1 := by simp
  have HBE := Lib.hid (hBe _ (h.below hb1 (Nat.le_refl _)))
  have hsum := hfd.sum
  have hnd := supR_nodup hfd
  have hso := supR_some hfd
  have h32 : (supR vs cs).length ≤ 32 := by rw [supR_len]; exact supM_len vs cs
  clear hBe h hk1
  go_enter Tryz.func40, Tryz.ntmps40
  go_wp2_with fail
  refine HBE.out.mono ?_
  rintro e w2 ⟨m0, rfl, hC, e1, e2, e3, hrs, hes, hlt, hb2⟩
  rw [hs1] at hC hb2
  have hb02 := hb1.trans (hb2.mono (by omega))
  have hL0 := lk0 (cs := cs) (m := m0) (by rw [e2, hnl]) hrs hes (by rw [hlt, hnl])
  dsimp only at e1 e2 e3
  have HH := Lib.hid (And.intro hC (And.intro hL0 hb02))
  clear hC hL0 hb02 hrs hes hlt hb2 x0 x1 hb1 HBE
  go_wp2_with fail
  go_loopg [9] k (fun g9 tv wr => ∃ (i : Nat) (mk : Rm), g9 = k - i ∧ i ≤ k ∧ tv = .int .i64 (i : Int) ∧ mk.P = m0.P ∧ mk.vA = A ∧ mk.n = n ∧ mk.vc = c ∧ RcIn wr (w.heap.size + 1) mk ∧ Lk vs mk ((rc0 vs (supR vs cs)).run i) ∧ Below w.heap.size w wr)
  case atStart => exact ⟨0, m0, rfl, by omega, rfl, rfl, e1, e2, e3, HH.out.1, HH.out.2.1, HH.out.2.2⟩
  case round =>
    obtain ⟨i, mk, hg9, hi, rfl, hP, hvA, hvn, hvc, hC, hL, hb⟩ := hrel
    clear HH
    by_cases hlt : i < k
    · obtain ⟨t, hRun⟩ := run_some vs (supR vs cs) hnd hso i (by omega)
      obtain ⟨D, hSiz⟩ := siz_some vs (supR vs cs) hnd hso hsum i (by omega)
      obtain ⟨hok, hz⟩ := hL.ok hRun hSiz (by omega) hsum
      have hleft := hRun.left
      have hlen := hL.len
      have hV : Rv wr mk.vA mk.n mk.vc vs := by rw [hvA, hvn, hvc]; exact HI.out.1.below hb (Nat.le_refl _)
      have hbs := hb.size
      have hPl := hC.blk.lt
      have hPb := hC.pb
      have hEl := elect_any hC hV hz (by omega) (by omega) hok (by omega) (fun W g1 g2 u hu => score_any (D := D) u g1 g2 (g1.rd u hu).1 (hok u hu).pl hz (hok u hu).sm (hok u hu).st)
      rw [hP] at hEl
      have HEL := Lib.hid hEl
      have hki : (i : Int) < (k : Int) := by omega
      clear hEl
      go_wp2_with fail
      refine HEL.out.mono ?_
      rintro e w5 ⟨rfl, m', b, u, q1, q2, q3, q4, q5, q6, q7, q8, q9, q10, q11, q12⟩
      have hL' := hL.next q1 q2 q6 q8 q9 q10
      have hb5 : Below w.heap.size w w5 := hb.trans (q11.below (by omega) (fun x hx => by have := (hC.lt hx).1; omega))
      have HN := Lib.hid (And.intro q3 (And.intro hL' hb5))
      clear q3 hL' hb5 q11 q12 HEL hC hL
      go_wp2
      go_roundg (k - (i + 1))
      case measure => omega
      case rel => exact ⟨i + 1, m', rfl, by omega, by go_num, q4.trans hP, q5.trans hvA, q6.trans hvn, q7.trans hvc, HN.out.1, HN.out.2.1, HN.out.2.2⟩
    · obtain rfl : i = k := by omega
      have P2 := hC.blk.cell 2
      rw [hP] at P2
      simp at P2
      obtain ⟨EA, ec, hev⟩ : ∃ EA ec, mk.ev = .slice EA mk.es.length ec := by
        rcases own_forms hC.eo with ⟨e, hl, _⟩ | ⟨g, cap, e, _⟩
        · exact ⟨none, 0, by rw [e, hl]⟩
        · exact ⟨_, _, e⟩
      rw [hev] at P2
      have HF := Lib.hid (show ComTo w ((rc0 vs (supR vs cs)).run i).es (.returned (.slice EA mk.es.length ec)) wr from ⟨EA, ec, mk.es, rfl, by rw [← hev]; exact own_low hC.eo (by omega), fun x hx => (hC.ed x hx).1, hL.es, hb⟩)
      clear hC hL hb
      go_wp2
      go_ret
      exact HF.out
end Go.Proofs.YtehekjlakegkpaaGreat
end
section
namespace Go.Proofs.YtehekjlakegkpaaGreat
open Go.RowKit
set_option linter.unusedVariables false

section
variable {P : Program} (w : World)
theorem run_appU (sz by_ : Nat) (z : Value) (T : TypeId) (base : Nat) (t ty : TypeId) (ht : P.underlying t = some (.slice T)) (hinfo : (P.info? T).map (fun i => (i.zero, i.size, i.bytes)) = some (some z, sz, by_)) (hzs : z.cells.size = sz) (hsz : 0 < sz)
    (A B : Option Addr) (n c m d : Nat) (xs ys : List Value) (hown : w.ownsRow base T sz (.slice A n c) n xs) (hr : Sr sz w B m d ys) (h1 : ∀ u ∈ ys, u.oneCell' = true) (h63 : n + m ≤ maxLen) (hs : (n + m) * by_ ≤ 140737488355328) (hbase : base ≤ w.heap.size) :
    ∃ A' c' w', (Builtin.append_ #[t, t] ty #[.slice A n c, .slice B m d]).run P w = .ok (.slice A' (n + m) c') w' ∧ w'.ownsRow base T sz (.slice A' (n + m) c') (n + m) (xs ++ ys) ∧ Turns (fun b => (Value.slice A n c).ownBlock = some b) w w' ∧ ((Value.slice A' (n + m) c').ownBlock = (Value.slice A n c).ownBlock ∨ (Value.slice A' (n + m) c').ownBlock = some w.heap.size) := by
  obtain ⟨i0, hi, hz0, hz1, hz2⟩ := info_parts hinfo
  rcases B with _ | ad
  · obtain ⟨rfl, rfl⟩ := hr.2.2.2.1 rfl
    obtain rfl := List.eq_nil_of_length_eq_zero (by simpa using hr.len)
    refine ⟨A, c, w, ?_, by simpa using hown, Turns.refl _ _, .inl rfl⟩
    rcases hown.2 with ⟨hv, rfl⟩ | ⟨g, cap, cur, hv, _, _, hnc, _⟩
    · injection hv with h1 h2 h3
      subst h1 h3
      simp [Builtin.append_, run_underlying ht, sizeOf, typeInfo, hi, Builtin.lenOf, Builtin.firstCells]
    · injection hv with h1 h2 h3
      subst h1 h3
      simp [Builtin.append_, run_underlying ht, sizeOf, typeInfo, hi, Builtin.lenOf, Builtin.firstCells, hnc, storeCells]
  · obtain ⟨v', w', hrun, h2, h3, h4, h5⟩ := run_append_own_at (P := P) w base t ty T i0 z sz by_ ht hi hz0 hz1 hz2 hzs hsz (.slice A n c) n xs hown ad m d ys hr.len (hr.2.2.2.2 ad rfl) h1 h63 hs hbase
    have hbel : Turns (fun b => (Value.slice A n c).ownBlock = some b) w w' := Turns.grown h3 (fun r e => e)
    rcases h2.2 with ⟨rfl, hn⟩ | ⟨g, cap, cur, rfl, _⟩
    · have hn' : n + m = 0 := hn
      exact ⟨none, 0, w', by rw [hn']; exact hrun, by rw [hn'] at h2 ⊢; exact h2, hbel, by rw [hn']; exact h5⟩
    · exact ⟨_, _, w', hrun, h2, hbel, h5⟩
variable {w : World}
theorem wpList_appU (sz by_ : Nat) (z : Value) (T : TypeId) {ops : Array Oper} {rest : List Oper} {o : Oper} {a : Act} {Q : Exit → Act → World → Prop} (hgd : o.guard = none) (s x : Operand) (t : TypeId)
    (ho : o.op = .call { callee := .builtin .append, args := #[s, x], argTypes := #[t, t] })
    (base : Nat) (ht : P.underlying t = some (.slice T)) (hinfo : (P.info? T).map (fun i => (i.zero, i.size, i.bytes)) = some (some z, sz, by_)) (hzs : z.cells.size = sz) (hsz : 0 < sz)
    (A B : Option Addr) (n c m d : Nat) (xs ys : List Value) (hse : a.eval s = .slice A n c) (hxe : a.eval x = .slice B m d) (hown : w.ownsRow base T sz (.slice A n c) n xs) (hr : Sr sz w B m d ys) (h1 : ∀ u ∈ ys, u.oneCell' = true) (h63 : n + m ≤ maxLen) (hs : (n + m) * by_ ≤ 140737488355328) (hbase : base ≤ w.heap.size)
    (h : ∀ A' c' w', w'.ownsRow base T sz (.slice A' (n + m) c') (n + m) (xs ++ ys) → Turns (fun b => (Value.slice A n c).ownBlock = some b) w w' → ((Value.slice A' (n + m) c').ownBlock = (Value.slice A n c).ownBlock ∨ (Value.slice A' (n + m) c').ownBlock = some w.heap.size) → wpList P ops Q rest (a.put o.dst (.slice A' (n + m) c')) w') : wpList P ops Q (o :: rest) a w := by
  refine wpList_plain hgd fun K hK => ?_
  obtain ⟨A', c', w', hrun, h2, h3, h4⟩ := run_appU (P := P) w sz by_ z T base t o.type ht hinfo hzs hsz A B n c m d xs ys hown hr h1 h63 hs hbase
  unfold Oper.wp execOp
  simp only [ho, resolve, invoke, builtin, Sem.run_bind, Sem.run_pure, Result.andThen_ok, List.map_toArray, List.map_cons, List.map_nil, hse, hxe, hrun]
  exact hK _ _ (h A' c' w' h2 h3 h4)
end
/-- All shares, in a row of the call's own. -/
structure AlIn (wr : World) (base : Nat) (rv : Value) (ss : List Sh) : Prop where
  row : wr.ownsRow base 47 4 rv ss.length (shC ss)
  fr : ∀ t ∈ ss, RX wr t.f t.x ∧ Pr (fun b => rv.ownBlock = some b) t.f.A t.f.n ∧ Pr (fun b => rv.ownBlock = some b) t.f.B t.f.m
theorem AlIn.below {w w' : World} {base : Nat} {rv : Value} {ss : List Sh} (h : AlIn w base rv ss) (hb : Below w.heap.size w w') : AlIn w' base rv ss :=
  ⟨own_below h.row hb (fun g e => (h.row.lt _ e).2), fun t ht => ⟨(h.fr t ht).1.below hb (Nat.le_refl _), (h.fr t ht).2⟩⟩
theorem AlIn.app {w w' : World} {base : Nat} {rv v' : Value} {ss ts : List Sh} (h : AlIn w base rv ss) (hts : ∀ t ∈ ts, RX w t.f t.x ∧ Pr (fun b => rv.ownBlock = some b) t.f.A t.f.n ∧ Pr (fun b => rv.ownBlock = some b) t.f.B t.f.m)
    (ho : w'.ownsRow base 47 4 v' (ss.length + ts.length) (shC ss ++ shC ts)) (ht : Turns (fun b => rv.ownBlock = some b) w w') (hv : v'.ownBlock = rv.ownBlock ∨ v'.ownBlock = some w.heap.size) : AlIn w' base v' (ss ++ ts) := by
  have hF : ∀ b, v'.ownBlock = some b → rv.ownBlock = some b ∨ w.heap.size ≤ b := fun b hb => by
    rcases hv with e | e
    · exact .inl (e ▸ hb)
    · rw [hb] at e; injection e with e; exact .inr (by omega)
  refine ⟨?_, fun t hm => ?_⟩
  · rw [List.length_append, show shC (ss ++ ts) = shC ss ++ shC ts from List.flatMap_append]; exact ho
  · rcases List.mem_append.1 hm with hm | hm
    · obtain ⟨a, b, c⟩ := h.fr t hm
      exact ⟨a.turns ht b c, b.new a.1.lt hF, c.new a.2.lt hF⟩
    · obtain ⟨a, b, c⟩ := hts t hm
      exact ⟨a.turns ht b c, b.new a.1.lt hF, c.new a.2.lt hF⟩
/-- What a voter's shares are, as mathematics: in some ascending order. -/
def GivL (v : Vr) (es : List (Int × Rat)) (a : List Sh) : Prop := (∀ t ∈ a, t.v = v.id) ∧ (a.map fun t => (t.c, t.x)).Perm (wts v es) ∧ a.Pairwise fun s t => s.c ≤ t.c
/-- All voters' shares, in their order. -/
def ShR (es : List (Int × Rat)) : List Vr → List Sh → Prop
  | [], l => l = []
  | v :: vs, l => ∃ a b, l = a ++ b ∧ GivL v es a ∧ ShR es vs b
theorem ShR.snoc {es : List (Int × Rat)} {vs : List Vr} {l a : List Sh} {v : Vr} (h : ShR es vs l) (ha : GivL v es a) : ShR es (vs ++ [v]) (l ++ a) := by
  induction vs generalizing l with
  | nil =>
    obtain rfl : l = [] := h
    exact ⟨a, [], by simp, ha, rfl⟩
  | cons u vs ih =>
    obtain ⟨x, y, rfl, hx, hy⟩ := h
    exact ⟨x, y ++ a, by rw [List.append_assoc], hx, ih hy⟩
/-- What Elect answers. -/
def ElTo (w : World) (s : Sn) (k : Nat) : Ending → World → Prop := fun e w' => ∃ (A : Option Addr) (c : Nat) (es : List Se) (B : Option Addr) (d : Nat) (ss : List Sh), e = .returned (.tuple #[.slice A es.length c, .slice B ss.length d, .int .i64 0]) ∧
  w'.ownsRow w.heap.size 40 3 (.slice A es.length c) es.length (seC es) ∧ (∀ x ∈ es, RX w' x.f x.x) ∧ es.map Se.out = ((rc0 s.vs (supR s.vs s.cs)).run (min k (supR s.vs s.cs).length)).es ∧
  AlIn w' w.heap.size (.slice B ss.length d) ss ∧ ShR (es.map Se.out) s.vs ss ∧ Below w.heap.size w w'
theorem SeIn.below {w w' : World} {A : Option Addr} {n : Nat} {es : List Se} (h : SeIn w A n es) (hb : Below w.heap.size w w') : SeIn w' A n es := by
  refine ⟨h.len, fun j e he => ?_, fun e he => (h.rx e he).below hb (Nat.le_refl _)⟩
  obtain ⟨b, h1, h2, h3, h4, h5⟩ := h.at_ j e he
  exact ⟨b, h1, Nat.lt_of_lt_of_le h2 hb.size, (hb.cell (p := ⟨b, j * 3, none⟩) h2).trans h3, (hb.cell (p := ⟨b, j * 3 + 1, none⟩) h2).trans h4, (hb.cell (p := ⟨b, j * 3 + 2, none⟩) h2).trans h5⟩
theorem sr_of_own {w : World} {base sz n : Nat} {T : TypeId} {A : Option Addr} {c : Nat} {cs : List Value} (h : w.ownsRow base T sz (.slice A n c) n cs) : Sr sz w A n c cs := by
  rcases own_forms h with ⟨e, hl, hc⟩ | ⟨g, cap, e, _⟩
  · injection e with e1 e2 e3
    subst e1 e3 hc hl
    exact Sr.nil _ _
  · injection e with e1 e2 e3
    subst e1 e3
    have := own_part h 0 n (by omega)
    have hl := h.1
    simpa [List.take_of_length_le, hl] using this
/-- Seats that were elected can be read; their sizes. -/
theorem seIn_of {w : World} {base : Nat} {A : Option Addr} {c : Nat} {es : List Se} (h : w.ownsRow base 40 3 (.slice A es.length c) es.length (seC es)) (hr : ∀ x ∈ es, RX w x.f x.x) : SeIn w A es.length es := by
  refine ⟨rfl, fun j e he => ?_, hr⟩
  have hj := (List.getElem?_eq_some_iff.1 he).1
  obtain ⟨g, c', e1, hb, hg, hnc, hc, hi⟩ := own3_at h hj
  injection e1 with e1 _ _
  have h0 := hi 0 (by omega)
  have h1 := hi 1 (by omega)
  have h2 := hi 2 (by omega)
  unfold seC at h0 h1 h2
  rw [flat3_get Se.cells (fun _ => rfl) es j 0 e he (by omega)] at h0
  rw [flat3_get Se.cells (fun _ => rfl) es j 1 e he (by omega)] at h1
  rw [flat3_get Se.cells (fun _ => rfl) es j 2 e he (by omega)] at h2
  exact ⟨g, e1, hg, h0, h1, h2⟩
theorem seOk_of {vs : List Vr} {cs : List Int} {k : Nat} {es : List Se} (hfd : Fd vs cs) (hk8 : k ≤ 8) (hk : k ≤ (supR vs cs).length) (he : es.map Se.out = ((rc0 vs (supR vs cs)).run k).es) : (∃ D, SeOk es D) ∧ (∀ e ∈ es, e.cd ∈ cs) := by
  obtain ⟨t, hRun⟩ := run_some vs (supR vs cs) (supR_nodup hfd) (supR_some hfd) k hk
  obtain ⟨D, hSiz⟩ := siz_some vs (supR vs cs) (supR_nodup hfd) (supR_some hfd) hfd.sum k hk
  have hm : ∀ e ∈ es, e.out ∈ ((rc0 vs (supR vs cs)).run k).es := fun e h => by rw [← he]; exact List.mem_map_of_mem h
  refine ⟨⟨D, hSiz.pos, Nat.le_trans hSiz.le (pw_le (by omega)), fun e h => ?_, ?_, ?_⟩, fun e h => ?_⟩
  · have h1 := hSiz.es _ (hm e h)
    have h2 := hRun.top _ (hm e h)
    refine ⟨h1.1, Rat.le_trans h1.2 ?_, h2.1⟩
    have h8 : ((k : Nat) : Rat) ≤ ((8 : Nat) : Rat) := by exact_mod_cast hk8
    exact h8
  · have := hRun.up
    rw [← he, List.map_map] at this
    exact this
  · have := congrArg List.length he
    rw [List.length_map, hRun.len] at this
    omega
  · have h1 : e.cd ∈ ((rc0 vs (supR vs cs)).run k).es.map Prod.fst := List.mem_map_of_mem (hm e h)
    exact ((supR_mem hfd).1 (hRun.prm.subset (List.mem_append_left _ h1))).1
theorem giv_of {v : Vr} {es : List (Int × Rat)} {ls : List Se} (hp : (ls.map Se.out).Perm (wts v es)) (ho : ls.Pairwise fun a b => a.cd ≤ b.cd) : GivL v es (ls.map (Se.sh v.id)) := by
  refine ⟨fun t ht => ?_, ?_, ?_⟩
  · obtain ⟨e, _, rfl⟩ := List.mem_map.1 ht
    rfl
  · rw [List.map_map]; exact hp
  · exact List.pairwise_map.2 ho
set_option maxHeartbeats 6400000 in
set_option maxRecDepth 100000 in
theorem elect_ok (s : Sn) (k : Nat) (w : World) (h : s.In w) (hfd : Fd s.vs s.cs) (hk8 : k ≤ 8) : Calls Tryz.prog 13 #[s.val, .int .i64 (k : Int)] w (ElTo w s k) := by
  have hF := fun W g => formedG_any s W g
  rw [decide_eq_true hfd] at hF
  have hSe := fun W g => seats_any s (k : Int) W g
  have hKe : seatI (k : Int) (supM s.vs s.cs).length = ((min k (supR s.vs s.cs).length : Nat) : Int) := by rw [supR_len]; unfold seatI; omega
  rw [hKe] at hSe
  have hK8 : min k (supR s.vs s.cs).length ≤ 8 := by omega
  have hKl : min k (supR s.vs s.cs).length ≤ (supR s.vs s.cs).length := Nat.min_le_right _ _
  have hCo := fun W g => committee_any s (min k (supR s.vs s.cs).length) W g hfd hK8 hKl
  have HSO := Lib.hid (fun es he => seOk_of (es := es) hfd hK8 hKl he)
  have HI := Lib.hid h
  have hnl := h.1.len
  have hncap := h.1.cap
  have hnmax := h.1.max
  have hn32 := hfd.1
  have HF := Lib.hid hF
  have HSe := Lib.hid hSe
  have HCo := Lib.hid hCo
  unfold ElTo
  generalize min k (supR s.vs s.cs).length = K at *
  obtain ⟨A, n, c, B, m, d, vs, cs⟩ := s
  unfold Sn.val at *
  dsimp only at *
  have hk1 := KB.new w 25 #[.slice A n c, .slice B m d]
  have hb1 : Below w.heap.size w (w.alloc (.cells #[.slice A n c, .slice B m d] 25)) := (Below.refl _ _).alloc (Nat.le_refl _) _
  have x0 := hk1.cell 0
  have x1 := hk1.cell 1
  simp at x0 x1
  have HF1 := Lib.hid (HF.out _ (h.below hb1 (Nat.le_refl _)))
  have hk0 : ¬ (k : Int) < 0 := by omega
  have hk9 : ¬ (8 : Int) < (k : Int) := by omega
  clear hF hSe hCo h hKe
  go_enter Tryz.func13, Tryz.ntmps13
  go_wp2_with fail
  refine HF1.out.mono ?_
  rintro e w2 ⟨rfl, hb2⟩
  have hk2 := hk1.below hb2 hk1.lt
  have hb02 := hb1.trans (hb2.mono hb1.size)
  clear x0 x1 hk1 hb1 hb2 HF1 HF
  have x0 := hk2.cell 0
  have x1 := hk2.cell 1
  simp at x0 x1
  have HBX := Lib.hid (And.intro hk2 hb02)
  have hk2l := hk2.lt
  have K0 := And.intro x0 x1
  have HKF := Lib.hid (fun W' (hb' : Below w2.heap.size w2 W') => And.intro ((hb'.cell (p := ⟨w.heap.size, 0, none⟩) hk2l).trans x0) ((hb'.cell (p := ⟨w.heap.size, 1, none⟩) hk2l).trans x1))
  have HIN := Lib.hid (fun W' (hb' : Below w2.heap.size w2 W') => HI.out.below (hb02.trans (hb'.mono hb02.size)) (Nat.le_refl _))
  clear hk2 hb02 x0 x1
  go_upto_region 3 with (fail)
  go_region_held3 (fun W' => W'.cell? ⟨w.heap.size, 0, none⟩ = some (.slice A n c) ∧ W'.cell? ⟨w.heap.size, 1, none⟩ = some (.slice B m d))
    (first | exact K0 | exact K1 | exact K2)
    (first
      | (go_at_call 41; refine (HSe.out _ ?_).mono ?_; exact HIN.out _ (Below.refl w2.heap.size w2).drew; rintro e w3 ⟨rfl, hb3⟩; have HB3 := Lib.hid ((Below.refl w2.heap.size w2).drew.trans (hb3.mono (Nat.le_refl w2.heap.size))); have K1 := HKF.out w3 HB3.out; clear hb3)
      | (go_at_call 40; refine (HCo.out _ (HIN.out _ HB3.out)).mono ?_; rintro e w4 ⟨EA, ec, es, rfl, hown, hrx, heq, hb4⟩; have HB4 := Lib.hid (HB3.out.trans (hb4.mono HB3.out.size)); have HES := Lib.hid (And.intro (own_low hown (show w.heap.size ≤ w3.heap.size from Nat.le_trans HBX.out.2.size HB3.out.size)) (And.intro hrx heq)); have K2 := HKF.out w4 HB4.out; clear hb4 hown hrx heq))
  all_goals
    obtain ⟨⟨D, hok⟩, hcs⟩ := HSO.out es HES.out.2.2
    have hSI := seIn_of HES.out.1 HES.out.2.1
    have hec : es.length ≤ ec := by
      rcases own_forms HES.out.1 with ⟨e, hl, _⟩ | ⟨g, cap, e, _, hnc, _⟩
      · injection e with e1 e2 e3; omega
      · injection e with e1 e2 e3; omega
    have HGV := Lib.hid (fun W v (hv : v ∈ vs) (g1 : Sn.In W ⟨A, n, c, B, m, d, vs, cs⟩) (g2 : SeIn W EA es.length es) => given_any ⟨A, n, c, B, m, d, vs, cs⟩ v EA es.length ec D es W g1 hfd hv g2 hok hec hcs)
    unfold Sn.val at HGV
    have HSI := Lib.hid hSI
    have hBw : Below w.heap.size w w4 := HBX.out.2.trans (HB4.out.mono HBX.out.2.size)
    have HBW := Lib.hid hBw
    have hbx4 := HBX.out.1.below HB4.out HBX.out.1.lt
    have HBX4 := Lib.hid hbx4
    have x0 := K2.1
    have x1 := K2.2
    have hww := hBw.size
    have hbxl := hbx4.lt
    have he8 := hok.len
    clear hSI hok hcs hBw hbx4 HCo HSe HSO K0 K1 K2 HKF HIN
    dsimp only at HGV
    go_wp2_with fail
    go_loopg [8, 30] n (fun g9 sv tv wr => ∃ (i : Nat) (ss : List Sh) (SA : Option Addr) (sc : Nat), g9 = n - i ∧ i ≤ n ∧ tv = .int .i64 (i : Int) ∧ sv = .slice SA ss.length sc ∧ ss.length ≤ i * 8 ∧ AlIn wr w4.heap.size (.slice SA ss.length sc) ss ∧ ShR (es.map Se.out) (vs.take i) ss ∧ Below w4.heap.size w4 wr)
    case atStart => exact ⟨0, [], none, 0, by omega, by omega, rfl, rfl, by simp, ⟨World.ownsRow_nil _ _ _ _, fun t ht => by simp at ht⟩, rfl, Below.refl _ _⟩
    case round =>
      obtain ⟨i, ss, SA, sc, hg9, hi, rfl, rfl, hsl, hAl, hSR, hb⟩ := hrel
      by_cases hlt : i < n
      · obtain ⟨b, o, v, rfl, hbb, hve, ok, ri, c0, c1, c2⟩ := HI.out.1.at_ hlt
        have hbwr := HBW.out.trans (hb.mono HBW.out.size)
        have q0 := (hbwr.cell (p := ⟨b, o + i * 3, none⟩) hbb).trans c0
        have q1 := (hbwr.cell (p := ⟨b, o + i * 3 + 1, none⟩) hbb).trans c1
        have q2 := (hbwr.cell (p := ⟨b, o + i * 3 + 2, none⟩) hbb).trans c2
        have hvm := List.mem_of_getElem? hve
        have htk : vs.take (i + 1) = vs.take i ++ [v] := by rw [List.take_add_one, hve]; rfl
        have hA7 : Below wr.heap.size wr (wr.alloc (.cells #[.int .i64 v.id, .int .u64 (v.st : Int), .slice v.a v.n v.c] 43)) := (Below.refl _ _).alloc (Nat.le_refl _) _
        have hK7 := KB.new wr 43 #[.int .i64 v.id, .int .u64 (v.st : Int), .slice v.a v.n v.c]
        have hb7 := hb.trans (hA7.mono hb.size)
        have hG := HGV.out _ v hvm (HI.out.below (hbwr.trans (hA7.mono hbwr.size)) (Nat.le_refl _)) (HSI.out.below hb7)
        have HG := Lib.hid hG
        have hbx7 := HBX4.out.below hb7 hbxl
        have HAL := Lib.hid hAl
        have HA7 := Lib.hid hA7
        have HB7 := Lib.hid hb7
        have HSR := Lib.hid (And.intro hSR htk)
        have hki : (i : Int) < (n : Int) := by omega
        clear hG hA7 hb7 hAl hSR htk c0 c1 c2 hvm ok ri hve
        obtain ⟨vi, vst, va, vn, vc, vp⟩ := v
        unfold Vr.val at HG
        dsimp only at *
        go_upto_region 8 with (fail)
        obtain ⟨w7, hw7⟩ : ∃ w7, wr.alloc (Obj.cells #[.int .i64 vi, .int .u64 (vst : Int), .slice va vn vc] 43) = w7 := ⟨_, rfl⟩
        rw [hw7] at HG HA7 HB7 hbx7 hK7 ⊢
        have y0 := hbx7.cell 0
        have y1 := hbx7.cell 1
        have v0 := hK7.cell 0
        have v1 := hK7.cell 1
        have v2 := hK7.cell 2
        simp at y0 y1 v0 v1 v2
        clear hbx7 hK7
        generalize hQ : wr.heap.size = Q at *
        go_wp2_with fail
        refine HG.out.mono ?_
        rintro e w9 ⟨LA, lc, ls, rfl, hown, hrx, hperm, hord, hb9⟩
        have hls8 : ls.length ≤ 8 := by
          have h1 := hperm.length_eq
          rw [List.length_map] at h1
          unfold wts at h1
          rw [List.length_map] at h1
          have h2 := edg_len ⟨vi, vst, va, vn, vc, vp⟩ (es.map Se.out) 0
          rw [List.length_map] at h2
          omega
        have hs7 := HA7.out.size
        have hAl9 : AlIn w9 w4.heap.size (.slice SA ss.length sc) ss := (HAL.out.below (hQ ▸ HA7.out)).below hb9
        have hSr := sr_of_own hown
        have HSr := Lib.hid (And.intro hAl9 hSr)
        have HRX := Lib.hid (And.intro hrx (And.intro hperm hord))
        have HB9 := Lib.hid (HB7.out.trans (hb9.mono HB7.out.size))
        have hs9 := hb9.size
        have hw4 := HB7.out.size
        clear hown hrx hperm hord hb9 hAl9 hSr q0 q1 q2 y0 y1 v0 v1 v2
        go_wp2_with (at_builtin; (refine wpList_appU 4 64 _ 47 rfl (.tmp 34) (.tmp 38) 29 rfl w4.heap.size Tryz.underlying29 shInfo rfl (by decide) SA LA ss.length sc ls.length lc (shC ss) (shL vi ls) rfl rfl HSr.out.1.row HSr.out.2 (shL_one _ _) (by unfold maxLen; omega) (by omega) (by omega) ?_); intro A1 c1 w10 o1 t1 h5)
        have hll : (ss ++ ls.map (Se.sh vi)).length = ss.length + ls.length := by simp
        have hAA := HSr.out.1.app (ts := ls.map (Se.sh vi)) (v' := .slice A1 (ss.length + ls.length) c1) (fun t ht => by
          obtain ⟨x, hx, rfl⟩ := List.mem_map.1 ht
          obtain ⟨hx1, hx2⟩ := HRX.out.1 x hx
          refine ⟨hx1, fun a e hn hb' => ?_, fun a e hn hb' => ?_⟩
          · have h3 := hx2.1 a e hn
            have h4 := (HAL.out.row.lt _ hb').2
            omega
          · have h3 := hx2.2 a e hn
            have h4 := (HAL.out.row.lt _ hb').2
            omega) (by rw [List.length_map]; exact o1) t1 h5
        have hSn := HSR.out.1.snoc (giv_of (v := ⟨vi, vst, va, vn, vc, vp⟩) HRX.out.2.1 HRX.out.2.2)
        rw [← HSR.out.2] at hSn
        have hbF : Below w4.heap.size w4 w10 := HB9.out.trans (t1.below (by omega) (fun x hx => (HSr.out.1.row.lt _ hx).1))
        have HN := Lib.hid (And.intro hAA (And.intro hSn hbF))
        clear o1 t1 h5 hAA hSn hbF
        go_roundg (n - (i + 1))
        case measure => omega
        case rel => exact ⟨i + 1, ss ++ ls.map (Se.sh vi), A1, c1, rfl, by omega, by go_num, by rw [hll], by rw [hll]; omega, by rw [hll]; exact HN.out.1, HN.out.2.1, HN.out.2.2⟩
      · obtain rfl : i = n := by omega
        have hF : ∃ (A : Option Addr) (c : Nat) (es' : List Se) (B : Option Addr) (d : Nat) (ss' : List Sh), Ending.returned (.tuple #[.slice EA es.length ec, .slice SA ss.length sc, .int .i64 0]) = .returned (.tuple #[.slice A es'.length c, .slice B ss'.length d, .int .i64 0]) ∧
            wr.ownsRow w.heap.size 40 3 (.slice A es'.length c) es'.length (seC es') ∧ (∀ x ∈ es', RX wr x.f x.x) ∧ es'.map Se.out = ((rc0 vs (supR vs cs)).run K).es ∧ AlIn wr w.heap.size (.slice B ss'.length d) ss' ∧ ShR (es'.map Se.out) vs ss' ∧ Below w.heap.size w wr := by
          refine ⟨EA, ec, es, SA, sc, ss, rfl, own_below HES.out.1 hb (fun g e => (HES.out.1.lt _ e).2), fun x hx => (HES.out.2.1 x hx).below hb (Nat.le_refl _), HES.out.2.2, ⟨own_low hAl.row hww, hAl.fr⟩, ?_, HBW.out.trans (hb.mono hww)⟩
          rw [List.take_of_length_le (by omega)] at hSR
          exact hSR
        have HFF := Lib.hid hF
        clear hF hAl hSR hb
        go_wp2
        go_ret3
        exact HFF.out
end Go.Proofs.YtehekjlakegkpaaGreat
end
