/-
  Unbond of the reference's ledger. The conditions stand in each theorem.
-/
import Derived.Test.YtahleoidbnlllaaLrsla
import Derived.Test.YtahleoidbnlllaaLunb
import Derived.Deep.DeepCutAuto
import Derived.Deep.CutBlock
namespace Go.Proofs.Ytahleoidbnlllaa
open Go.RowKit
set_option linter.unusedVariables false

variable {base : Nat} {w : World} {s : Lm}
/-- So much moves from what is bonded to a chunk, in the reference's ledger. -/
theorem runb_move (h : Lg TR base w s) {k : Nat} {x : Am} (hx : s.a[k]? = some x) {g cap : Nat} (hv : s.v = .slice (some ⟨g, 0, none⟩) s.a.length cap) {gc cc : Nat} (hvc : x.v = .slice (some ⟨gc, 0, none⟩) x.ch.length cc) {k0 : Nat} {c : Ck} (hc : x.ch[k0]? = some c) {n : Nat} (hn : n ≤ x.b) (hb : x.b < 18446744073709551616) (hcn : c.1 + n < 18446744073709551616) :
    Calls Try.prog 58 #[.pointer (some ⟨g, k * 4 + 1, none⟩), .pointer (some ⟨gc, k0 * 2, none⟩), .int .u64 n] w fun e w' => e = .returned (.int .i64 0) ∧ Lg TR base w' { s with a := s.a.set k { x with b := x.b - n, ch := x.ch.set k0 (c.1 + n, c.2) } } ∧ Turns (fun b => b = g ∨ b = gc) w w' := by
  obtain ⟨e0, e1, e2, e3, ef⟩ := h.acell hx hv
  have h1 := h.set_b hx hv (x.b - n)
  have hx1 := get_same (y := { x with b := x.b - n }) hx
  obtain ⟨c0, c1, cf⟩ := h1.ccell hx1 (k := k0) (c := c) hc hvc
  have h2 := h1.set_c hx1 (k := k0) (c := c) hc hvc (c.1 + n)
  refine (rmv_yes g (k * 4 + 1) gc (k0 * 2) x.b c.1 n w e1 (ef _) c0 (cf _) hn hb hcn).mono ?_
  rintro e w' ⟨rfl, rfl⟩
  refine ⟨rfl, ?_, (Turns.setCell (F := fun b => b = g ∨ b = gc) w _ _ (.inl rfl)).trans (Turns.setCell (F := fun b => b = g ∨ b = gc) _ _ _ (.inr rfl)) (fun _ => .inl)⟩
  have h3 := h2
  simp only [List.set_set] at h3
  exact h3
theorem set_self {s : Lm} {k : Nat} {x : Am} (hx : s.a[k]? = some x) : s.a.set k x = s.a := by
  apply List.ext_getElem?
  intro j
  rw [List.getElem?_set]
  split
  · rename_i e; subst e
    have := (List.getElem?_eq_some_iff.1 hx).1
    simp [this, hx.symm]
  · rfl
/-- The account's chunks are these, in a row of whatever block, and nothing else has turned. -/
def Rw (base : Nat) (w : World) (s : Lm) (k : Nat) (x : Am) (R : List Ck) (w' : World) : Prop := ∃ v, Lg TR base w' { s with a := s.a.set k { x with v := v, ch := R } } ∧ Turns s.foot w w'
def unbR (s : Ab) (k : Int) (x : Ac) (n : Nat) (o : Option (List Ck)) : Ab × Int := match o with
  | none => (s, 7)
  | some c => (s.put k { x with b := x.b - n, ch := c }, 0)
theorem Sr.take {sz : Nat} {w : World} {A : Option Addr} {n c : Nat} {cs : List Value} (h : Sr sz w A n c cs) {m : Nat} (hm : m ≤ n) : Sr sz w A m c (cs.take (m * sz)) := by
  obtain ⟨h1, h2, h3, h4, h5⟩ := h
  refine ⟨?_, by omega, h3, fun e => ⟨by have := (h4 e).1; omega, (h4 e).2⟩, fun a e j u hu => ?_⟩
  · rw [List.length_take, h1]
    exact Nat.min_eq_left (Nat.mul_le_mul_right _ hm)
  · rw [List.getElem?_take] at hu
    split at hu
    · exact h5 a e j u hu
    · cases hu
set_option maxRecDepth 100000 in
set_option maxHeartbeats 6400000 in
theorem runb_any (h : Lg TR base w s) (hok : s.ab.ok) (i : Int) (n : Nat) (hn : n < 18446744073709551616) (era : Int) :
    Calls Try.prog 34 #[.pointer (some ⟨s.L, 0, none⟩), .int .i64 i, .int .u64 n, .int .i64 era] w fun e w' => e = .returned (.int .i64 (unbM s.ab i n era).2) ∧ LgTo TR base w w' s (unbM s.ab i n era).1 := by
  have hl := hok.len32
  unfold unbM
  rcases s.cases i with ⟨ha, hi⟩ | ⟨k, x, rfl, hx, ha⟩
  · rw [ha]
    go_enter Try.func34, Try.ntmps34
    go_wp2_with fail
    refine (thr_no h hi hl).mono ?_
    rintro e w' ⟨rfl, rfl⟩
    go_wp2
    go_ret
    exact ⟨rfl, LgTo.same h (Below.refl _ _)⟩
  · rw [ha]
    obtain ⟨g, cap, hv, hc, hg1, hg2⟩ := h.vform hx
    have hkl := (List.getElem?_eq_some_iff.1 hx).1
    have hf := thr_yes h hkl hl
    have c0 := h.cv
    rw [hv] at c0
    have hk0 : (0 : Int) ≤ (k : Int) := by omega
    have hk1 : (k : Int) < (s.a.length : Int) := by omega
    obtain ⟨e0, e1, e2, e3, ef⟩ := h.acell hx hv
    obtain ⟨hb1, hb2⟩ := hok.bounds hx
    have hco : chOk x.ch := ac_ch hok ha
    have h8 := hco.len
    have hch := h.chs k x (fun e => e) hx
    obtain ⟨A, cc, hxv, hsc⟩ := own_sc hch (by omega)
    have hcap := hsc.2.1
    rw [hxv] at e3
    have hbs := (h.foot_lt (foot_L s))
    have H := Lib.hid h
    have HXV := Lib.hid hxv
    have HCO := Lib.hid hco
    have HSC := Lib.hid hsc
    have HCH := Lib.hid hch
    have HBS := Lib.hid hbs
    clear h hxv ha hco hsc hch hbs
    obtain ⟨M, hM⟩ : ∃ M, M = x.ch.length := ⟨_, rfl⟩
    have HM := Lib.hid hM
    rw [← hM] at e3 hcap h8
    clear hM
    dsimp only
    by_cases hn0 : n = 0
    · subst hn0
      rw [ite_t rfl]
      go_enter Try.func34, Try.ntmps34
      go_wp2_with fail
      refine hf.mono ?_
      rintro e w' ⟨rfl, rfl⟩
      go_wp2
      go_ret
      exact ⟨rfl, LgTo.same H.out (Below.refl _ _)⟩
    · rw [ite_f hn0]
      by_cases hlt : x.b < n
      · rw [ite_t (show x.ac.b < n from hlt)]
        have hlt' : (x.b : Int) < (n : Int) := by omega
        go_enter Try.func34, Try.ntmps34
        go_wp2_with fail
        refine hf.mono ?_
        rintro e w' ⟨rfl, rfl⟩
        go_wp2
        go_ret
        exact ⟨rfl, LgTo.same H.out (Below.refl _ _)⟩
      · rw [ite_f (show ¬ x.ac.b < n from hlt)]
        have hlt' : ¬ (x.b : Int) < (n : Int) := by omega
        have hnb : ((n : Int) == 0) = false := by simp; omega
        have hnb2 : ¬ ((n : Int) = 0) := by omega
        suffices key : ∀ res : Ab × Int, res = unbR s.ab (k : Int) x.ac n (insC x.ac.ch era n) → Calls Try.prog 34 #[.pointer (some ⟨s.L, 0, none⟩), .int .i64 (k : Int), .int .u64 n, .int .i64 era] w fun e w' => e = .returned (.int .i64 res.2) ∧ LgTo TR base w w' s res.1 by
          have := key _ rfl
          unfold unbR at this
          exact this
        intro res hres
        have HRES := Lib.hid hres
        clear hres
        obtain ⟨k0, hk0e⟩ : ∃ k0, k0 = posC x.ch era := ⟨_, rfl⟩
        have hp0 : k0 ≤ M := by rw [hk0e, HM.out]; exact posC_le _ _
        have HK0 := Lib.hid hk0e
        clear hk0e
        go_enter Try.func34, Try.ntmps34
        go_wp2_with fail
        refine hf.mono ?_
        rintro e w' ⟨rfl, rfl⟩
        go_upto_block 0 with (fail)
        go_cut [10] (fun s10 wx => s10 = .int .i64 (k0 : Int) ∧ w = wx)
        case first =>
          go_wp2_with fail
          go_loopg [10] M (fun gk tv wr => ∃ j : Nat, j + gk = M ∧ tv = .int .i64 (j : Int) ∧ (∀ (m : Nat) (c : Ck), m < j → x.ch[m]? = some c → c.2 < era) ∧ w = wr)
          case atStart => exact ⟨0, by omega, rfl, fun m c hm => by omega, rfl⟩
          case round =>
            obtain ⟨j, hj, rfl, hlo, rfl⟩ := hrel
            have HLO := Lib.hid hlo
            clear hlo
            by_cases hjM : j < M
            · obtain ⟨_, _, _, h4⟩ := HSC.out
              obtain ⟨gc, o, hAe, hgc, hcc⟩ := h4 (by rw [← HM.out]; omega)
              subst hAe
              obtain ⟨y, hy⟩ : ∃ y, x.ch[j]? = some y := ⟨_, List.getElem?_eq_getElem (by rw [← HM.out]; exact hjM)⟩
              obtain ⟨d0, d1⟩ := hcc j y hy
              have hjM' : (j : Int) < (M : Int) := by omega
              have HY := Lib.hid hy
              clear hcc h4 hy
              by_cases hye : y.2 < era
              · go_wp2_with fail
                go_roundg (M - (j + 1))
                case measure => omega
                case rel => exact ⟨j + 1, by omega, by go_num, fun m c hm hcm => by
                              rcases Nat.lt_or_ge m j with h1 | h1
                              · exact HLO.out m c h1 hcm
                              · obtain rfl : m = j := by omega
                                rw [HY.out] at hcm
                                cases hcm
                                exact hye, by first | rfl | trivial⟩
              · have hpe : j = k0 := by
                  rw [HK0.out]
                  exact (posC_eq (by rw [← HM.out]; omega) HLO.out (fun c hc => by rw [HY.out] at hc; cases hc; omega)).symm
                have HPE := Lib.hid hpe
                clear hpe
                go_wp2_with fail
                go_meet
                exact ⟨by rw [HPE.out], rfl⟩
            · have hjM' : ¬ (j : Int) < (M : Int) := by omega
              have hpe : j = k0 := by
                rw [HK0.out]
                exact (posC_eq (by rw [← HM.out]; omega) HLO.out (fun c hc => by
                  have := (List.getElem?_eq_some_iff.1 hc).1
                  rw [← HM.out] at this; omega)).symm
              have HPE := Lib.hid hpe
              clear hpe
              go_wp2_with fail
              go_meet
              exact ⟨by rw [HPE.out], rfl⟩
        case rest =>
          obtain ⟨rfl, rfl⟩ := hcut
          have hk0M : (k0 : Int) ≤ (M : Int) := by omega
          go_upto_region 11 with (fail)
          go_cut [69] (fun s69 wx => s69 = .bool (!thereC x.ch era) ∧ w = wx)
          case first =>
            by_cases hkM : k0 < M
            · obtain ⟨_, _, _, h4⟩ := HSC.out
              obtain ⟨gc, o, hAe, hgc, hcc⟩ := h4 (by rw [← HM.out]; omega)
              subst hAe
              obtain ⟨y, hy⟩ : ∃ y, x.ch[k0]? = some y := ⟨_, List.getElem?_eq_getElem (by rw [← HM.out]; exact hkM)⟩
              obtain ⟨d0, d1⟩ := hcc k0 y hy
              have hne : ¬ ((k0 : Int) = (M : Int)) := by omega
              have hneb : ((k0 : Int) == (M : Int)) = false := by simp; omega
              have hned : decide ((k0 : Int) = (M : Int)) = false := decide_eq_false hne
              have hneN : ¬ (k0 = M) := by omega
              have hkM' : (k0 : Int) < (M : Int) := by omega
              have HY := Lib.hid hy
              clear hcc h4 hy
              by_cases hye : y.2 = era
              · have hth : thereC x.ch era = true := by unfold thereC; rw [← HK0.out, HY.out]; simp [hye]
                have HTH := Lib.hid hth
                clear hth
                go_wp2_with fail
                go_meet
                exact ⟨by rw [HTH.out]; simp, rfl⟩
              · have hth : thereC x.ch era = false := by unfold thereC; rw [← HK0.out, HY.out]; simp [hye]
                have HTH := Lib.hid hth
                clear hth
                go_wp2_with fail
                go_meet
                exact ⟨by rw [HTH.out]; simp [hye], rfl⟩
            · obtain rfl : k0 = M := by omega
              have hth : thereC x.ch era = false := by unfold thereC; rw [← HK0.out, List.getElem?_eq_none (by rw [← HM.out]; exact Nat.le_refl _)]
              have HTH := Lib.hid hth
              clear hth
              go_wp2_with fail
              go_meet
              exact ⟨by rw [HTH.out]; simp, rfl⟩
          case rest =>
            obtain ⟨rfl, rfl⟩ := hcut
            go_upto_if 69 with (fail)
            obtain ⟨R, hR⟩ : ∃ R, R = (if thereC x.ch era then x.ch else x.ch.take k0 ++ (0, era) :: x.ch.drop k0) := ⟨_, rfl⟩
            go_cut [] (fun wx => Hid (Rw base w s k x R wx ∧ (thereC x.ch era = false → ¬ 8 ≤ x.ch.length)))
            case first =>
              by_cases hth : thereC x.ch era = true
              · have hRw : Rw base w s k x R w := ⟨x.v, by
                  rw [hR, if_pos hth]
                  show Lg TR base w { s with a := s.a.set k x }
                  rw [set_self hx]
                  exact H.out, Turns.refl _ _⟩
                have HRW := Lib.hid hRw
                rw [hth]
                have HTH := Lib.hid hth
                clear hRw hth hR
                go_wp2_with fail
                go_meet
                exact ⟨HRW.out, fun e => by rw [HTH.out] at e; cases e⟩
              · have hth : thereC x.ch era = false := by simpa using hth
                rw [hth]
                have HTH := Lib.hid hth
                by_cases h8' : 8 ≤ M
                · have h8i : (8 : Int) ≤ (M : Int) := by omega
                  have hins : insC x.ac.ch era n = none := insC_full (ch := x.ch) hth (by rw [← HM.out]; exact h8')
                  have HIN := Lib.hid hins
                  clear hth hR hins
                  go_wp2
                  go_ret
                  have hre : res = (s.ab, 7) := by rw [HRES.out, HIN.out]; rfl
                  rw [hre]
                  exact ⟨rfl, LgTo.same H.out (Below.refl _ _)⟩
                · have h8i : ¬ (8 : Int) ≤ (M : Int) := by omega
                  have H8 := Lib.hid (show ¬ 8 ≤ x.ch.length by rw [← HM.out]; exact h8')
                  have finw : ∀ (q : Nat) (A3 : Option Addr) (d3 : Nat) (w3 : World), q = R.length → w3.ownsRow w.heap.size 89 2 (.slice A3 q d3) q (ccs (x.ch.take k0 ++ ([(0, era)] ++ x.ch.drop k0))) → Below w.heap.size w w3 →
                      w3.cell? ⟨g, k * 4 + 3, none⟩ = some (.slice A M cc) ∧ w3.frozen? ⟨g, k * 4 + 3, none⟩ = false ∧ Rw base w s k x R (w3.setCell ⟨g, k * 4 + 3, none⟩ (.slice A3 q d3)) ∧ True := fun q A3 d3 w3 hq o3 b3 => by
                    have hR' : R = x.ch.take k0 ++ ([(0, era)] ++ x.ch.drop k0) := by rw [hR, if_neg (by rw [hth]; simp)]; rfl
                    rw [← hR'] at o3
                    obtain ⟨q1, q2, q3, q4⟩ := H.out.newrow hx hv (fun b hb => (H.out.foot_lt hb).2) (by have := HBS.out; omega) (Turns.of_below (F := fun _ => False) b3) (fun _ e => e.elim) R (.slice A3 q d3) (by rw [← hq]; exact o3)
                    rw [HXV.out, ← HM.out] at q1
                    exact ⟨q1, q2, ⟨_, q3, (Turns.of_below (F := s.foot) b3).trans (Turns.setCell (F := s.foot) w3 _ _ (foot_g hv)) (fun _ => .inl)⟩, trivial⟩
                  have hRl : R.length = k0 + 1 + (M - k0) := by
                    rw [hR, if_neg (by rw [hth]; simp)]
                    simp [← HM.out]
                    omega
                  have FINW := Lib.hid (fun A3 d3 w3 => finw _ A3 d3 w3 hRl.symm)
                  have hsrc := own_sr HCH.out
                  obtain ⟨A', cc', hxv', hsr, hlt3⟩ := hsrc
                  have e' := HXV.out.symm.trans hxv'
                  injection e' with ee1 ee2 ee3
                  subst ee1 ee3
                  have sr1 : Sr 2 w A k0 cc (ccs (x.ch.take k0)) := by
                    have := hsr.take (m := k0) (by rw [← HM.out]; exact hp0)
                    rwa [ccs_take] at this
                  have SR1 := Lib.hid sr1
                  clear hth hR finw hRl hxv' sr1 ee2
                  rcases A with _ | ad
                  · obtain ⟨hz1, hz2⟩ := hsr.2.2.2.1 rfl
                    rw [← HM.out] at hz1
                    have hk00 : k0 = 0 := by omega
                    subst hz1 hz2 hk00
                    have sr3 : Sr 2 w none 0 0 (ccs (x.ch.drop 0)) := by
                      have hnil : x.ch = [] := List.eq_nil_of_length_eq_zero HM.out.symm
                      rw [hnil]; exact Sr.nil 2 w
                    have SR3 := Lib.hid sr3
                    have LT3 := Lib.hid (show ∀ a, (none : Option Addr) = some a → 0 < 0 * 2 → a.block < w.heap.size from fun a e => by cases e)
                    clear sr3 hsr
                    go_wp2_with (first
                      | (at_builtin; refine wpList_appS _ 2 16 _ 89 rfl _ _ 68 rfl w.heap.size Try.underlying68 rckInfo rfl (by decide) none none 0 0 0 0 [] (ccs (x.ch.take 0)) rfl rfl (World.ownsRow_nil w w.heap.size _ 2) SR1.out (ccs_one _) (by unfold maxLen; omega) (by omega) (Nat.le_refl _) ?_; intro A1 d1 w1 o1 _ b1; simp only [Nat.zero_add, List.nil_append] at o1 ⊢; have k1 := KB.new w1 89 #[.int .u64 0, .int .i64 era]; have bb1 : Below w1.heap.size w1 (w1.alloc (.cells #[.int .u64 0, .int .i64 era] 89)) := ((Below.refl _ _).alloc (Nat.le_refl _) _); have o1' := own_below o1 bb1 (fun g' e => (o1.lt g' e).2); have sr1 := sr_chunk w1 89 (0, era); have B1' := Lib.hid (b1.trans (bb1.mono b1.size)); have O1 := Lib.hid o1'; have SRC := Lib.hid sr1; have hsz1 := B1'.out.size; have y3 := (B1'.out.cell (p := ⟨g, k * 4 + 3, none⟩) hg2).trans e3; clear o1 b1 k1 bb1 o1' sr1)
                      | (at_builtin; refine wpList_appS _ 2 16 _ 89 rfl _ _ 68 rfl w.heap.size Try.underlying68 rckInfo rfl (by decide) A1 (some ⟨w1.heap.size, 0, none⟩) 0 d1 1 1 (ccs (x.ch.take 0)) (ccs [(0, era)]) rfl rfl O1.out SRC.out (ccs_one _) (by unfold maxLen; omega) (by omega) hsz1 ?_; intro A2 d2 w2 o2 _ b2; rw [← ccs_append] at o2; have B2' := Lib.hid (B1'.out.trans b2); have O2 := Lib.hid o2; have hsz2 := B2'.out.size; have y3b := (B2'.out.cell (p := ⟨g, k * 4 + 3, none⟩) hg2).trans e3; clear o2 b2)
                      | (at_builtin; refine wpList_appS _ 2 16 _ 89 rfl _ _ 68 rfl w.heap.size Try.underlying68 rckInfo rfl (by decide) A2 none (0 + 1) d2 0 0 (ccs (x.ch.take 0 ++ [(0, era)])) (ccs (x.ch.drop 0)) rfl rfl O2.out (SR3.out.below B2'.out LT3.out) (ccs_one _) (by unfold maxLen; omega) (by omega) hsz2 ?_; intro A3 d3 w3 o3 _ b3; rw [← ccs_append, List.append_assoc] at o3; obtain ⟨p1, p2, p3, p4⟩ := FINW.out A3 d3 w3 o3 (B2'.out.trans b3); have P3 := Lib.hid p3; have P4 := Lib.hid p4; clear o3 b3 p3 p4))
                    go_meet
                    exact ⟨P3.out, fun _ => H8.out⟩
                  · obtain ⟨gc, rfl⟩ : ∃ gc, ad = ⟨gc, 0, none⟩ := by
                      rcases own_forms HCH.out with ⟨e, _⟩ | ⟨gc, cap', e, _⟩
                      · rw [HXV.out] at e; cases e
                      · rw [HXV.out] at e; injection e with e1 e2 e3; injection e1 with e1; exact ⟨gc, e1⟩
                    have hgc := hlt3 ⟨gc, 0, none⟩ rfl
                    have hpart : Sr 2 w (some ⟨gc, k0 * 2, none⟩) (M - k0) (cc - k0) (ccs (x.ch.drop k0)) := by
                      have hch2 := HCH.out
                      rw [HXV.out] at hch2
                      have := own_part hch2 k0 (M - k0) (by rw [← HM.out]; omega)
                      rw [ccs_drop, List.take_of_length_le (by rw [ccs_len, List.length_drop, ← HM.out]; exact Nat.le_refl _)] at this
                      exact this
                    by_cases hcc : cc = k0
                    · have hMk : M = k0 := by omega
                      have sr3 : Sr 2 w (some ⟨gc, 0, none⟩) 0 0 (ccs (x.ch.drop k0)) := by
                        have hnil : x.ch.drop k0 = [] := List.drop_eq_nil_of_le (by rw [← HM.out]; omega)
                        rw [hnil]
                        exact ⟨by simp [ccs], Nat.le_refl _, Nat.zero_le _, (fun e => (by cases e)), (fun a _ j u hu => (by simp [ccs] at hu))⟩
                      have SR3 := Lib.hid sr3
                      have LT3 := Lib.hid (show ∀ a, (some (⟨gc, 0, none⟩ : Addr)) = some a → 0 < 0 * 2 → a.block < w.heap.size from fun a _ h0 => by omega)
                      have hcc2 := hcc.symm
                      have hMk2 := hMk.symm
                      subst hcc2
                      subst hMk2
                      clear hcc hMk
                      simp only [Nat.sub_self] at FINW
                      clear sr3 hsr hpart
                      go_wp2_with (first
                        | (at_builtin; refine wpList_appS _ 2 16 _ 89 rfl _ _ 68 rfl w.heap.size Try.underlying68 rckInfo rfl (by decide) none (some ⟨gc, 0, none⟩) 0 0 k0 k0 [] (ccs (x.ch.take k0)) rfl rfl (World.ownsRow_nil w w.heap.size _ 2) SR1.out (ccs_one _) (by unfold maxLen; omega) (by omega) (Nat.le_refl _) ?_; intro A1 d1 w1 o1 _ b1; simp only [Nat.zero_add, List.nil_append] at o1 ⊢; have k1 := KB.new w1 89 #[.int .u64 0, .int .i64 era]; have bb1 : Below w1.heap.size w1 (w1.alloc (.cells #[.int .u64 0, .int .i64 era] 89)) := ((Below.refl _ _).alloc (Nat.le_refl _) _); have o1' := own_below o1 bb1 (fun g' e => (o1.lt g' e).2); have sr1 := sr_chunk w1 89 (0, era); have B1' := Lib.hid (b1.trans (bb1.mono b1.size)); have O1 := Lib.hid o1'; have SRC := Lib.hid sr1; have hsz1 := B1'.out.size; have y3 := (B1'.out.cell (p := ⟨g, k * 4 + 3, none⟩) hg2).trans e3; clear o1 b1 k1 bb1 o1' sr1)
                        | (at_builtin; refine wpList_appS _ 2 16 _ 89 rfl _ _ 68 rfl w.heap.size Try.underlying68 rckInfo rfl (by decide) A1 (some ⟨w1.heap.size, 0, none⟩) k0 d1 1 1 (ccs (x.ch.take k0)) (ccs [(0, era)]) rfl rfl O1.out SRC.out (ccs_one _) (by unfold maxLen; omega) (by omega) hsz1 ?_; intro A2 d2 w2 o2 _ b2; rw [← ccs_append] at o2; have B2' := Lib.hid (B1'.out.trans b2); have O2 := Lib.hid o2; have hsz2 := B2'.out.size; have y3b := (B2'.out.cell (p := ⟨g, k * 4 + 3, none⟩) hg2).trans e3; clear o2 b2)
                        | (at_builtin; refine wpList_appS _ 2 16 _ 89 rfl _ _ 68 rfl w.heap.size Try.underlying68 rckInfo rfl (by decide) A2 (some ⟨gc, 0, none⟩) (k0 + 1) d2 0 0 (ccs (x.ch.take k0 ++ [(0, era)])) (ccs (x.ch.drop k0)) rfl rfl O2.out (SR3.out.below B2'.out LT3.out) (ccs_one _) (by unfold maxLen; omega) (by omega) hsz2 ?_; intro A3 d3 w3 o3 _ b3; rw [← ccs_append, List.append_assoc] at o3; obtain ⟨p1, p2, p3, p4⟩ := FINW.out A3 d3 w3 o3 (B2'.out.trans b3); have P3 := Lib.hid p3; have P4 := Lib.hid p4; clear o3 b3 p3 p4))
                      go_meet
                      exact ⟨P3.out, fun _ => H8.out⟩
                    · have SR3 := Lib.hid hpart
                      have LT3 := Lib.hid (show ∀ a, (some (⟨gc, k0 * 2, none⟩ : Addr)) = some a → 0 < (M - k0) * 2 → a.block < w.heap.size from fun a e _ => by cases e; exact hgc)
                      clear hsr hpart
                      go_wp2_with (first
                        | (at_builtin; refine wpList_appS _ 2 16 _ 89 rfl _ _ 68 rfl w.heap.size Try.underlying68 rckInfo rfl (by decide) none (some ⟨gc, 0, none⟩) 0 0 k0 cc [] (ccs (x.ch.take k0)) rfl rfl (World.ownsRow_nil w w.heap.size _ 2) SR1.out (ccs_one _) (by unfold maxLen; omega) (by omega) (Nat.le_refl _) ?_; intro A1 d1 w1 o1 _ b1; simp only [Nat.zero_add, List.nil_append] at o1 ⊢; have k1 := KB.new w1 89 #[.int .u64 0, .int .i64 era]; have bb1 : Below w1.heap.size w1 (w1.alloc (.cells #[.int .u64 0, .int .i64 era] 89)) := ((Below.refl _ _).alloc (Nat.le_refl _) _); have o1' := own_below o1 bb1 (fun g' e => (o1.lt g' e).2); have sr1 := sr_chunk w1 89 (0, era); have B1' := Lib.hid (b1.trans (bb1.mono b1.size)); have O1 := Lib.hid o1'; have SRC := Lib.hid sr1; have hsz1 := B1'.out.size; have y3 := (B1'.out.cell (p := ⟨g, k * 4 + 3, none⟩) hg2).trans e3; clear o1 b1 k1 bb1 o1' sr1)
                        | (at_builtin; refine wpList_appS _ 2 16 _ 89 rfl _ _ 68 rfl w.heap.size Try.underlying68 rckInfo rfl (by decide) A1 (some ⟨w1.heap.size, 0, none⟩) k0 d1 1 1 (ccs (x.ch.take k0)) (ccs [(0, era)]) rfl rfl O1.out SRC.out (ccs_one _) (by unfold maxLen; omega) (by omega) hsz1 ?_; intro A2 d2 w2 o2 _ b2; rw [← ccs_append] at o2; have B2' := Lib.hid (B1'.out.trans b2); have O2 := Lib.hid o2; have hsz2 := B2'.out.size; have y3b := (B2'.out.cell (p := ⟨g, k * 4 + 3, none⟩) hg2).trans e3; clear o2 b2)
                        | (at_builtin; refine wpList_appS _ 2 16 _ 89 rfl _ _ 68 rfl w.heap.size Try.underlying68 rckInfo rfl (by decide) A2 (some ⟨gc, k0 * 2, none⟩) (k0 + 1) d2 (M - k0) (cc - k0) (ccs (x.ch.take k0 ++ [(0, era)])) (ccs (x.ch.drop k0)) rfl rfl O2.out (SR3.out.below B2'.out LT3.out) (ccs_one _) (by unfold maxLen; omega) (by omega) hsz2 ?_; intro A3 d3 w3 o3 _ b3; rw [← ccs_append, List.append_assoc] at o3; obtain ⟨p1, p2, p3, p4⟩ := FINW.out A3 d3 w3 o3 (B2'.out.trans b3); have P3 := Lib.hid p3; have P4 := Lib.hid p4; clear o3 b3 p3 p4))
                      go_meet
                      exact ⟨P3.out, fun _ => H8.out⟩
            case rest =>
              obtain ⟨⟨v, hgR, htR⟩, h8n⟩ := hcut.out
              clear hcut
              obtain ⟨c1, hRk, hRe, hRl, hins⟩ : ∃ c1 : Nat, R[k0]? = some (c1, era) ∧ c1 ≤ cht x.ch ∧ R.length ≤ 8 ∧ insC x.ac.ch era n = some (R.set k0 (c1 + n, era)) := by
                cases hth : thereC x.ch era with
                | true =>
                  obtain ⟨c, hcc, hce⟩ := there_yes hth
                  rw [hth, if_pos rfl] at hR
                  rw [← HK0.out] at hcc
                  refine ⟨c.1, by rw [hR, hcc, ← hce], ?_, by rw [hR, ← HM.out]; exact h8, ?_⟩
                  · have := cht_set (ch := x.ch) (0, c.2) hcc; dsimp only at this; omega
                  · have := insC_there (ch := x.ch) (n := n) (by rw [← HK0.out]; exact hcc) hce
                    rw [← HK0.out, hce] at this
                    rw [hR]; exact this
                | false =>
                  rw [hth, if_neg (by simp)] at hR
                  have h8' := h8n hth
                  have hkl : (x.ch.take k0).length = k0 := by rw [List.length_take, ← HM.out]; omega
                  refine ⟨0, ?_, Nat.zero_le _, ?_, ?_⟩
                  · rw [hR, List.getElem?_append_right (by omega), hkl]; simp
                  · rw [hR]; simp; rw [← HM.out] at h8' ⊢; omega
                  · have := insC_new (ch := x.ch) (era := era) (n := n) hth h8'
                    rw [← HK0.out] at this
                    rw [show x.ac.ch = x.ch from rfl, this, hR, List.set_append_right _ _ (by omega), hkl]
                    simp
              have hre : res = (s.ab.put (k : Int) { x.ac with b := x.ac.b - n, ch := R.set k0 (c1 + n, era) }, 0) := by rw [HRES.out, hins]; rfl
              have HRE := Lib.hid hre
              have hxR := get_same (y := { x with v := v, ch := R }) hx
              have hvR : s.v = .slice (some ⟨g, 0, none⟩) (s.a.set k { x with v := v, ch := R }).length cap := by simpa using hv
              have hk0R := (List.getElem?_eq_some_iff.1 hRk).1
              obtain ⟨_, _, _, f3, ff⟩ := hgR.acell hxR hvR
              obtain ⟨AR, cR, hvAR, hsrR, hltR⟩ := own_sr (hgR.chs k _ (fun e => e) hxR)
              dsimp only at hvAR hsrR f3
              rw [hvAR] at f3
              obtain ⟨N, hN⟩ : ∃ N, N = R.length := ⟨_, rfl⟩
              have bE : Below wc.heap.size wc (wc.alloc (.cells #[] 89)) := (Below.refl _ _).alloc (Nat.le_refl _) _
              have kE := KB.new wc 89 #[]
              have srE : Sr 2 (wc.alloc (.cells #[] 89)) AR N cR (ccs R) := by
                rw [hN]
                exact hsrR.below bE (fun a e _ => hltR a e)
              have sE : wc.heap.size ≤ (wc.alloc (.cells #[] 89)).heap.size := by simp
              have gE := hgR.alloc (.cells #[] 89)
              have g3 := (bE.cell (p := ⟨g, k * 4 + 3, none⟩) (hgR.foot_lt (.inr (.inl (by show s.v.ownBlock = some g; rw [hv]; rfl)))).2).trans f3
              have hbw : base ≤ wc.heap.size := by have := HBS.out; have := htR.size; omega
              have hsp : ∀ (A1 : Option Addr) (d1 : Nat) (w1 : World), w1.ownsRow wc.heap.size 89 2 (.slice A1 N d1) N (ccs R) → Turns (fun b => (Value.slice (some ⟨wc.heap.size, 0, none⟩) 0 0).ownBlock = some b) (wc.alloc (.cells #[] 89)) w1 →
                  w1.cell? ⟨g, k * 4 + 3, none⟩ = some v ∧ w1.frozen? ⟨g, k * 4 + 3, none⟩ = false ∧ ∃ gn, A1 = some ⟨gn, 0, none⟩ ∧ N ≤ d1 ∧ (w1.setCell ⟨g, k * 4 + 3, none⟩ (.slice A1 N d1)).cell? ⟨g, k * 4 + 3, none⟩ = some (.slice A1 N d1) ∧
                    Calls Try.prog 58 #[.pointer (some ⟨g, k * 4 + 1, none⟩), .pointer (some ⟨gn, k0 * 2, none⟩), .int .u64 n] (w1.setCell ⟨g, k * 4 + 3, none⟩ (.slice A1 N d1)).drew fun e w' => e = .returned (.int .i64 0) ∧ LgTo TR base w w' s res.1 ∧ w'.cell? ⟨g, k * 4 + 3, none⟩ = some (.slice A1 N d1) := fun A1 d1 w1 o1 t1 => by
                obtain ⟨q1, q2, q3, q4⟩ := gE.newrow hxR hvR (B0 := wc.heap.size) (fun b hb => (hgR.foot_lt hb).2) hbw t1 (fun b e => by cases e; exact Nat.le_refl _) R (.slice A1 N d1) (by rw [← hN]; exact o1)
                simp only [List.set_set] at q3
                dsimp only at q1 q3
                obtain ⟨gn, dn, he, hd⟩ : ∃ gn dn, (Value.slice A1 N d1) = .slice (some ⟨gn, 0, none⟩) N dn ∧ N ≤ dn := by
                  rcases own_forms o1 with ⟨_, h0, _⟩ | ⟨gn, dn, e, _, hh, _⟩
                  · omega
                  · exact ⟨gn, dn, e, hh⟩
                injection he with he1 he2 he3
                subst he1 he3
                refine ⟨q1, q2, gn, rfl, hd, q4, ?_⟩
                have hx5 := get_same (y := { x with v := .slice (some ⟨gn, 0, none⟩) N d1, ch := R }) hx
                have hv5 : s.v = .slice (some ⟨g, 0, none⟩) (s.a.set k { x with v := .slice (some ⟨gn, 0, none⟩) N d1, ch := R }).length cap := by simpa using hv
                refine (runb_move q3.drew hx5 hv5 (gc := gn) (cc := d1) (by rw [hN]) (k0 := k0) (c := (c1, era)) hRk (n := n) (by dsimp only; omega) (by dsimp only; omega) (by dsimp only; omega)).mono ?_
                rintro e w' ⟨rfl, m1, m2⟩
                simp only [List.set_set] at m1
                try dsimp only at m1
                have hx6 := get_same (y := { x with b := x.b - n, v := .slice (some ⟨gn, 0, none⟩) N d1, ch := R.set k0 (c1 + n, era) }) hx
                have hv6 : s.v = .slice (some ⟨g, 0, none⟩) (s.a.set k { x with b := x.b - n, v := .slice (some ⟨gn, 0, none⟩) N d1, ch := R.set k0 (c1 + n, era) }).length cap := by simpa using hv
                refine ⟨rfl, LgTo.mk m1 rfl ?_ ?_, (m1.acell hx6 hv6).2.2.2.1⟩
                · rw [HRE.out]
                  simp [Lm.ab, Ab.put, List.map_set, Am.ac]
                · have t2 := (htR.trans (Turns.alloc s.foot wc (.cells #[] 89)) (fun _ => .inl)).trans t1 (fun b e => .inr (by cases e; exact htR.size))
                  have t3 := t2.trans (Turns.setCell (F := s.foot) w1 ⟨g, k * 4 + 3, none⟩ (.slice (some ⟨gn, 0, none⟩) N d1) (foot_g hv)) (fun _ => .inl)
                  refine t3.trans (Turns.undrew m2) ?_
                  rintro b (rfl | rfl)
                  · exact .inl (foot_g hv)
                  · exact .inr (Nat.le_trans htR.size (o1.lt _ rfl).1)
              have HSP := Lib.hid hsp
              have OE := Lib.hid (own_empty (sz := 2) (base := wc.heap.size) kE (Nat.le_refl _))
              have SRE := Lib.hid srE
              have hNk : k0 < N := by rw [hN]; exact hk0R
              have hNk' : (k0 : Int) < (N : Int) := by omega
              have hN8 : N ≤ 8 := by rw [hN]; exact hRl
              have hre2 : res.2 = 0 := by rw [hre]
              have HRE2 := Lib.hid hre2
              have HVA := Lib.hid hvAR
              rw [← hN] at f3 g3
              clear hre hre2 hins hN hgR htR h8n hxR hvR ff hsrR hltR bE kE srE gE hsp hRl hk0R hR hRe hRk hvAR
              go_wp2_with (at_builtin; refine wpList_appS _ 2 16 _ 89 rfl _ _ 68 rfl wc.heap.size Try.underlying68 rckInfo rfl (by decide) (some ⟨wc.heap.size, 0, none⟩) AR 0 0 N cR [] (ccs R) rfl rfl OE.out SRE.out (ccs_one _) (by unfold maxLen; omega) (by omega) sE ?_; intro A1 d1 w1 o1 t1 b1; simp only [Nat.zero_add, List.nil_append] at o1 ⊢; obtain ⟨p1, p2, gn, hA1, pd, p4, p5⟩ := HSP.out A1 d1 w1 o1 t1; subst hA1; have P5 := Lib.hid p5; clear o1 b1 t1 p5)
              generalize (w1.setCell ⟨g, k * 4 + 3, none⟩ (.slice (some ⟨gn, 0, none⟩) N d1)) = w2 at P5 p4 ⊢
              go_region_held3 (fun W => W.cell? ⟨g, k * 4 + 3, none⟩ = some (.slice (some ⟨gn, 0, none⟩) N d1))
                (first | exact p4 | exact K1)
                (first | (go_at_call 58; refine P5.out.mono ?_; rintro e w' ⟨rfl, m1, K1⟩; have M1 := Lib.hid m1; clear m1))
              all_goals
                go_wp2
                go_ret
                exact ⟨by rw [HRE2.out]; rfl, M1.out⟩
end Go.Proofs.Ytahleoidbnlllaa
