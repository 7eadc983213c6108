/-
  The law's 'Same': true where both ledgers say the same. The conditions stand in each theorem.
-/
import Derived.Test.YtahleoidbnlllaaLdo
import Derived.Test.YtahleoidbnlllaaLacct
import Derived.BigQuiet
namespace Go.Proofs.Ytahleoidbnlllaa
open Go.RowKit
set_option linter.unusedVariables false

variable {base : Nat} {w : World} {P R : Nat} {A : Ab}
/-- What the reference's ledger has in its cells. -/
theorem LA.rcells (h : LA TR base w R A) : ∃ (B : Option Addr) (c : Nat), A.a.length ≤ c ∧ w.cell? ⟨R, 0, none⟩ = some (.slice B A.a.length c) ∧ w.cell? ⟨R, 1, none⟩ = some (.int .u64 (A.t : Nat)) ∧ w.cell? ⟨R, 2, none⟩ = some (.int .u64 (A.p : Nat)) ∧ R < w.heap.size ∧
    ∀ (i : Nat) (x : Ac), A.a[i]? = some x → ∃ (g : Nat) (PA : Option Addr) (ca : Nat), B = some ⟨g, 0, none⟩ ∧ g < w.heap.size ∧ w.cell? ⟨g, i * 4, none⟩ = some (.int .u64 (x.f : Nat)) ∧ w.cell? ⟨g, i * 4 + 1, none⟩ = some (.int .u64 (x.b : Nat)) ∧ w.cell? ⟨g, i * 4 + 2, none⟩ = some (.int .u64 (x.d : Nat)) ∧ w.cell? ⟨g, i * 4 + 3, none⟩ = some (.slice PA x.ch.length ca) ∧ (x.ch.length ≤ 8 → Sc w PA x.ch.length ca x.ch) := by
  obtain ⟨s, rfl, rfl, hs⟩ := h
  obtain ⟨B, c, hv, hc⟩ := hs.vany
  have c0 := hs.cv
  rw [hv] at c0
  refine ⟨B, c, by rw [s.ab_len]; exact hc, by rw [s.ab_len]; exact c0, hs.ct, hs.cp, (hs.foot_lt (foot_L s)).2, fun i x hx => ?_⟩
  obtain ⟨xm, hxm, rfl⟩ : ∃ xm, s.a[i]? = some xm ∧ xm.ac = x := by
    simp only [Lm.ab, List.getElem?_map] at hx
    cases hq : s.a[i]? with
    | none => rw [hq] at hx; cases hx
    | some xm => rw [hq] at hx; cases hx; exact ⟨xm, rfl, rfl⟩
  obtain ⟨g, cap', hv', _, _, hg⟩ := hs.vform hxm
  have hB : B = some ⟨g, 0, none⟩ := by have := hv.symm.trans hv'; injection this
  obtain ⟨e0, e1, e2, e3, _⟩ := hs.acell hxm hv'
  have hch := hs.chs i xm (fun e => e) hxm
  rcases own_forms hch with ⟨he, hl, _⟩ | ⟨gg, cc, he, _⟩
  · refine ⟨g, none, 0, hB, hg, e0, e1, e2, ?_, fun h8 => ?_⟩
    · rw [e3, he]; show _ = some (Value.slice none xm.ch.length 0); rw [hl]
    · obtain ⟨A', c', h1, h2⟩ := own_sc hch (by show xm.ch.length ≤ 1000000; omega)
      rw [he] at h1
      injection h1 with q1 q2 q3
      subst q1 q3
      exact h2
  · refine ⟨g, _, cc, hB, hg, e0, e1, e2, by rw [e3, he]; rfl, fun h8 => ?_⟩
    obtain ⟨A', c', h1, h2⟩ := own_sc hch (by have : xm.ch.length ≤ 8 := h8; omega)
    rw [he] at h1
    injection h1 with q1 q2 q3
    subst q1 q3
    exact h2
theorem acct_sc (f b d : Nat) (A : Option Addr) (M c : Nat) (ch : List Ck) (w : World) (hsc : Sc w A M c ch) (h8 : M ≤ 8) :
    Calls Try.prog 45 #[.agg #[.int .u64 (f : Nat), .int .u64 (b : Nat), .int .u64 (d : Nat), .slice A M c]] w fun e w' => ∃ P q, e = .returned (.agg #[.int .u64 (f : Nat), .int .u64 (b : Nat), .int .u64 (d : Nat), .slice P M q]) ∧ Sc w' P M q ch ∧ Below w.heap.size w w' := by
  refine (acct_any f b d A M c ch w hsc h8).mono ?_
  rintro e w' ⟨v, rfl, ho, hb⟩
  have hM := hsc.1
  obtain ⟨P, q, rfl, hs⟩ := own_sc ho (by omega)
  rw [hM] at hs ⊢
  exact ⟨P, q, rfl, hs, hb⟩
set_option maxRecDepth 100000 in
set_option maxHeartbeats 6400000 in
theorem same_any (h : Bo base w P R A) :
    Calls Try.prog 12 #[.pointer (some ⟨P, 0, none⟩), .pointer (some ⟨R, 0, none⟩)] w fun e w' => e = .returned (.bool true) ∧ Below w.heap.size w w' := by
  obtain ⟨B, cR, hcR, c0, c1, c2, hRs, hacc⟩ := h.r.rcells
  have hl := h.ok.len
  have hA := accsL h.p.drew
  have hT := treL h.p.drew
  have hO := potL h.p.drew
  have hI := issL h.p.drew h.ok
  have hnone : A.ac (A.a.length : Int) = none := by rw [Ab.ac_nat]; simp
  have hneg : A.ac (-1) = none := by unfold Ab.ac; simp
  obtain ⟨N, hN⟩ : ∃ N, N = A.a.length := ⟨_, rfl⟩
  rw [← hN] at c0 hA hl hcR hnone
  have HN := Lib.hid hN
  have H := Lib.hid h
  have HAcc := Lib.hid hacc
  have HA := Lib.hid hA
  have HT := Lib.hid hT
  have HO := Lib.hid hO
  have HI := Lib.hid hI
  have HNO := Lib.hid hnone
  have HNE := Lib.hid hneg
  clear hN h hacc hA hT hO hI hnone hneg
  go_enter Try.func12, Try.ntmps12
  go_wp2_with fail
  have K0 : w.cell? ⟨R, 0, none⟩ = some (.slice B N cR) ∧ w.cell? ⟨R, 1, none⟩ = some (.int .u64 (A.t : Nat)) ∧ w.cell? ⟨R, 2, none⟩ = some (.int .u64 (A.p : Nat)) := ⟨c0, c1, c2⟩
  go_region_held3 (fun W => W.cell? ⟨R, 0, none⟩ = some (.slice B N cR) ∧ W.cell? ⟨R, 1, none⟩ = some (.int .u64 (A.t : Nat)) ∧ W.cell? ⟨R, 2, none⟩ = some (.int .u64 (A.p : Nat)))
    (first | exact K0 | exact K1 | exact K2)
    (first
      | (go_at_call 27; refine HA.out.mono ?_; rintro e w' ⟨rfl, rfl⟩)
      | (go_at_call 28; refine HT.out.mono ?_; rintro e w' ⟨rfl, rfl⟩)
      | (go_at_call 29; refine HO.out.mono ?_; rintro e w' ⟨rfl, rfl⟩)
      | (go_at_call 13; refine HI.out.mono ?_; rintro e w1 ⟨rfl, b1⟩; have K1 : w1.cell? ⟨R, 0, none⟩ = some (.slice B N cR) ∧ w1.cell? ⟨R, 1, none⟩ = some (.int .u64 (A.t : Nat)) ∧ w1.cell? ⟨R, 2, none⟩ = some (.int .u64 (A.p : Nat)) := ⟨(b1.cell (p := ⟨R, 0, none⟩) hRs).trans c0, (b1.cell (p := ⟨R, 1, none⟩) hRs).trans c1, (b1.cell (p := ⟨R, 2, none⟩) hRs).trans c2⟩; have b1w : Below w.heap.size w w1 := ⟨b1.os, b1.tape, b1.output, b1.size, b1.block⟩; have hri := rissL (H.out.r.below b1w) H.out.ok; have HRI := Lib.hid hri; have B1 := Lib.hid b1w; clear b1 b1w hri)
      | (go_at_call 43; refine HRI.out.mono ?_; rintro e w2 ⟨rfl, qq, hw2⟩; have b2 : Below w.heap.size w w2 := (by rw [hw2]; exact belowDrN B1.out qq); have K2 : w2.cell? ⟨R, 0, none⟩ = some (.slice B N cR) ∧ w2.cell? ⟨R, 1, none⟩ = some (.int .u64 (A.t : Nat)) ∧ w2.cell? ⟨R, 2, none⟩ = some (.int .u64 (A.p : Nat)) := ⟨(b2.cell (p := ⟨R, 0, none⟩) hRs).trans c0, (b2.cell (p := ⟨R, 1, none⟩) hRs).trans c1, (b2.cell (p := ⟨R, 2, none⟩) hRs).trans c2⟩; have B2 := Lib.hid b2; clear b2 hw2))
  all_goals
    obtain ⟨k0c, _, _⟩ := K2
    have H2 := Lib.hid (H.out.below B2.out)
    clear K0 K1 c0 c1 c2
    go_wp2_with fail
    go_loopg [50] N (fun gk tv wr => ∃ k : Nat, k + gk = N ∧ tv = .int .i64 (k : Int) ∧ Below w2.heap.size w2 wr)
    case atStart => exact ⟨0, by omega, rfl, Below.refl _ _⟩
    case round =>
      obtain ⟨k, hk, rfl, hb⟩ := hrel
      have hbo := H2.out.below hb
      have hwr : w.heap.size ≤ wr.heap.size := Nat.le_trans B2.out.size hb.size
      have hbw := B2.out.trans (hb.mono B2.out.size)
      obtain ⟨B', cR', hcR', c0, _, _, hRs', hacc⟩ := hbo.r.rcells
      have hBB : B' = B ∧ cR' = cR := by
        have e1 := (hb.cell (p := ⟨R, 0, none⟩) (Nat.lt_of_lt_of_le hRs B2.out.size)).trans k0c
        rw [c0] at e1
        injection e1 with e1
        injection e1 with q1 q2 q3
        exact ⟨q1, q3⟩
      obtain ⟨hB1, hB2⟩ := hBB
      subst hB1 hB2
      rw [← HN.out] at c0
      by_cases hlt : k < N
      · obtain ⟨x, hx⟩ : ∃ x, A.a[k]? = some x := ⟨_, List.getElem?_eq_getElem (by rw [← HN.out]; exact hlt)⟩
        obtain ⟨g, PA, ca, hBe, hg, r0, r1, r2, r3, hsc⟩ := hacc k x hx
        subst hBe
        have hco := hbo.ok.ch x (List.mem_of_getElem? hx)
        have h8 := hco.len
        have hscR := hsc h8
        have hac := accL_yes hbo.p hbo.ok (i := (k : Int)) (x := x) (by rw [Ab.ac_nat]; exact hx)
        have HAC := Lib.hid hac
        have HSCR := Lib.hid hscR
        have HBW := Lib.hid hbw
        have HB := Lib.hid hb
        have hlt' : (k : Int) < (N : Int) := by omega
        clear hac hscR hsc hacc hbo hco hx hbw hb
        go_wp2_with fail
        refine HAC.out.mono ?_
        rintro e w3 ⟨va, rfl, hoa, hb3⟩
        obtain ⟨PV, cv, rfl, hsv⟩ := own_sc hoa (by omega)
        have b4 : Below w3.heap.size w3 (w3.alloc (.cells #[.int .u64 (x.f : Nat), .int .u64 (x.b : Nat), .int .u64 (x.d : Nat), .slice PV x.ch.length cv] 49)) := (Below.refl _ _).alloc (Nat.le_refl _) _
        have kV := KB.new w3 49 #[.int .u64 (x.f : Nat), .int .u64 (x.b : Nat), .int .u64 (x.d : Nat), .slice PV x.ch.length cv]
        have hsv4 := hsv.below b4
        have hb34 := hb3.trans (b4.mono hb3.size)
        have HKV := Lib.hid kV
        have HSV := Lib.hid hsv4
        have HB34 := Lib.hid hb34
        have hs34 := hb3.size
        clear b4 kV hsv4 hb34 hsv hoa hb3
        obtain ⟨M, hM⟩ : ∃ M, M = x.ch.length := ⟨_, rfl⟩
        have HM := Lib.hid hM
        rw [← hM] at HKV HSV HB34 h8 r3 HSCR ⊢
        clear hM
        go_wp2_with fail
        generalize (w3.alloc (.cells #[.int .u64 (x.f : Nat), .int .u64 (x.b : Nat), .int .u64 (x.d : Nat), .slice PV M cv] 49)) = w4 at HKV HSV HB34 ⊢
        have v0 := HKV.out.cell 0
        have v1 := HKV.out.cell 1
        have v2 := HKV.out.cell 2
        have v3 := HKV.out.cell 3
        simp at v0 v1 v2 v3
        have hV4 := HKV.out.lt
        have s4 := HB34.out.size
        have z0 := (HB34.out.cell (p := ⟨R, 0, none⟩) hRs').trans c0
        have q0 := (HB34.out.cell (p := ⟨g, k * 4, none⟩) hg).trans r0
        have q1 := (HB34.out.cell (p := ⟨g, k * 4 + 1, none⟩) hg).trans r1
        have q2 := (HB34.out.cell (p := ⟨g, k * 4 + 2, none⟩) hg).trans r2
        have q3 := (HB34.out.cell (p := ⟨g, k * 4 + 3, none⟩) hg).trans r3
        have hC1 := acct_sc x.f x.b x.d PV M cv x.ch w4.drew HSV.out h8
        have HC1 := Lib.hid hC1
        have HSR4 := Lib.hid (HSCR.out.below HB34.out)
        have cells : ∀ W : World, Below w4.heap.size w4 W → (W.cell? ⟨w3.heap.size, 0, none⟩ = some (.int .u64 (x.f : Nat)) ∧ W.cell? ⟨w3.heap.size, 1, none⟩ = some (.int .u64 (x.b : Nat)) ∧ W.cell? ⟨w3.heap.size, 2, none⟩ = some (.int .u64 (x.d : Nat)) ∧ W.cell? ⟨w3.heap.size, 3, none⟩ = some (.slice PV M cv)) ∧ W.cell? ⟨R, 0, none⟩ = some (.slice (some ⟨g, 0, none⟩) N cR') ∧ W.cell? ⟨g, k * 4, none⟩ = some (.int .u64 (x.f : Nat)) ∧ W.cell? ⟨g, k * 4 + 1, none⟩ = some (.int .u64 (x.b : Nat)) ∧ W.cell? ⟨g, k * 4 + 2, none⟩ = some (.int .u64 (x.d : Nat)) ∧ W.cell? ⟨g, k * 4 + 3, none⟩ = some (.slice PA M ca) := fun W hW =>
          ⟨⟨(hW.cell (p := ⟨w3.heap.size, 0, none⟩) hV4).trans v0, (hW.cell (p := ⟨w3.heap.size, 1, none⟩) hV4).trans v1, (hW.cell (p := ⟨w3.heap.size, 2, none⟩) hV4).trans v2, (hW.cell (p := ⟨w3.heap.size, 3, none⟩) hV4).trans v3⟩, (hW.cell (p := ⟨R, 0, none⟩) (by show R < w4.heap.size; omega)).trans z0, (hW.cell (p := ⟨g, k * 4, none⟩) (by show g < w4.heap.size; omega)).trans q0, (hW.cell (p := ⟨g, k * 4 + 1, none⟩) (by show g < w4.heap.size; omega)).trans q1, (hW.cell (p := ⟨g, k * 4 + 2, none⟩) (by show g < w4.heap.size; omega)).trans q2, (hW.cell (p := ⟨g, k * 4 + 3, none⟩) (by show g < w4.heap.size; omega)).trans q3⟩
        have L0 := cells w4 (Below.refl _ _)
        have CEL := Lib.hid cells
        clear hC1 cells
        go_region_held3 (fun W => (W.cell? ⟨w3.heap.size, 0, none⟩ = some (.int .u64 (x.f : Nat)) ∧ W.cell? ⟨w3.heap.size, 1, none⟩ = some (.int .u64 (x.b : Nat)) ∧ W.cell? ⟨w3.heap.size, 2, none⟩ = some (.int .u64 (x.d : Nat)) ∧ W.cell? ⟨w3.heap.size, 3, none⟩ = some (.slice PV M cv)) ∧ W.cell? ⟨R, 0, none⟩ = some (.slice (some ⟨g, 0, none⟩) N cR') ∧ W.cell? ⟨g, k * 4, none⟩ = some (.int .u64 (x.f : Nat)) ∧ W.cell? ⟨g, k * 4 + 1, none⟩ = some (.int .u64 (x.b : Nat)) ∧ W.cell? ⟨g, k * 4 + 2, none⟩ = some (.int .u64 (x.d : Nat)) ∧ W.cell? ⟨g, k * 4 + 3, none⟩ = some (.slice PA M ca))
          (first | exact L0 | exact L1 | exact L2)
          (first
            | (go_at_call 45; refine HC1.out.mono ?_; rintro e w5 ⟨P5, c5, rfl, hs5, b5⟩; have b5w : Below w4.heap.size w4 w5 := ⟨b5.os, b5.tape, b5.output, b5.size, b5.block⟩; have L1 := CEL.out w5 b5w; have hC2 := sameacc_any x.f x.b x.d P5 PA M c5 ca x.ch w5 hs5 (HSR4.out.below b5w) h8; have HC2 := Lib.hid hC2; have B5 := Lib.hid b5w; clear hC2 hs5 b5 b5w)
            | (go_at_call 44; refine HC2.out.mono ?_; rintro e w6 ⟨rfl, b6⟩; have b6w := B5.out.trans (b6.mono B5.out.size); have L2 := CEL.out w6 b6w; have B6 := Lib.hid b6w; clear b6 b6w))
        all_goals
          go_wp2_with fail
          go_roundg (N - (k + 1))
          case measure => omega
          case rel => exact ⟨k + 1, by omega, by go_num, HB.out.trans ((HB34.out.mono HB.out.size).trans (B6.out.mono (Nat.le_trans HB.out.size s4)))⟩
      · have hlt' : ¬ (k : Int) < (N : Int) := by omega
        have hn1 := accL_no hbo.p hbo.ok (i := (N : Int)) HNO.out
        have HN1 := Lib.hid hn1
        have HBO := Lib.hid hbo
        have HBW := Lib.hid hbw
        clear hn1 hbo hbw hacc hb
        go_wp2_with fail
        refine HN1.out.mono ?_
        rintro e w3 ⟨rfl, b3⟩
        have b4 : Below w3.heap.size w3 (w3.alloc (.cells #[.int .u64 0, .int .u64 0, .int .u64 0, .slice none 0 0] 49)) := (Below.refl _ _).alloc (Nat.le_refl _) _
        have b34 := b3.trans (b4.mono b3.size)
        have hbo4 := HBO.out.below b34
        have hn2 := accL_no hbo4.p hbo4.ok (i := -1) HNE.out
        have HN2 := Lib.hid hn2
        have B34 := Lib.hid (HBW.out.trans (b34.mono HBW.out.size))
        clear b3 b4 b34 hbo4 hn2
        go_wp2_with fail
        refine HN2.out.mono ?_
        rintro e w5 ⟨rfl, b5⟩
        go_wp2
        go_ret
        exact ⟨by simp, (B34.out.trans (b5.mono B34.out.size)).alloc (Nat.le_trans B34.out.size b5.size) _⟩
end Go.Proofs.Ytahleoidbnlllaa
