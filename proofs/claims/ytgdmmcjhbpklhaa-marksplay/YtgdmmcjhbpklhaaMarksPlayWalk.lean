/-
  The walk of the law MarksPlay: it returns true, whatever the size and the script, and writes nothing that was there.
-/
import Derived.Test.YtgdmmcjhbpklhaaMboth
import Derived.Deep.RegionHeld3
import Derived.Deep.LoopGhost
namespace Go.Proofs.Ytgdmmcjhbpklhaa
open Go.RowKit
set_option linter.unusedVariables false
set_option maxRecDepth 100000 in
set_option maxHeartbeats 1600000 in
theorem mplay_long (A : Option Addr) (n c : Nat) (x : Int) (w : World) (hn : 200 < n) (hm : n ≤ 9223372036854775807) :
    Calls Try.prog 3 #[.int .i64 x, .slice A n c] w fun e w' => e = .returned (.bool true) ∧ Below w.heap.size w w' := by
  have hn' : (200 : Int) < (n : Int) := by omega
  go_enter Try.func3, Try.ntmps3
  go_wp2_with fail
  refine (awakem_any _).mono ?_
  rintro e w1 ⟨rfl, hb1⟩
  go_wp2_with fail
  refine (awakem_any _).mono ?_
  rintro e w2 ⟨rfl, hb2⟩
  go_wp2
  go_ret
  exact ⟨rfl, hb1.trans (hb2.mono hb1.size)⟩

theorem Rm.atMap {w : World} {base q s m : Nat} {f : Nat → Bool} (h : Rm w base q s f) (hc : w.cell? ⟨q, 1, none⟩ = some (.map (some m))) : Mbo Try.prog 3 w m (fi f) (cnt f (8 * wid s)) := by
  obtain ⟨_, _, _, m', _, hk, hm⟩ := h
  have := hk.cell 1
  rw [hc] at this
  simp at this
  subst this
  exact hm
theorem Rm.map {w : World} {base q s : Nat} {f : Nat → Bool} (h : Rm w base q s f) : ∃ m, w.cell? ⟨q, 1, none⟩ = some (.map (some m)) := by
  obtain ⟨_, _, _, m', _, hk, hm⟩ := h
  have := hk.cell 1
  simp at this
  exact ⟨_, this⟩
theorem Rm.size {w : World} {base q s : Nat} {f : Nat → Bool} (h : Rm w base q s f) : w.cell? ⟨q, 0, none⟩ = some (.int .i64 s) := by
  obtain ⟨_, _, _, m', _, hk, hm⟩ := h
  have := hk.cell 0
  simpa using this
theorem Rm.lt {w : World} {base q s : Nat} {f : Nat → Bool} (h : Rm w base q s f) : q < w.heap.size := by
  obtain ⟨_, _, _, m', _, hk, hm⟩ := h
  exact hk.lt
theorem Rm.qcell {F : Nat → Prop} {w w' : World} {base q s : Nat} {f : Nat → Bool} (h : Rm w base q s f) (ht : Turns F w w') (hF : ∀ b, F b → (∃ cs z, w.heap[b]? = some (.cells cs 5 z)) ∨ ∃ es c, w.heap[b]? = some (.map es c)) (i : Nat) :
    w'.cell? ⟨q, i, none⟩ = w.cell? ⟨q, i, none⟩ := by
  obtain ⟨_, _, _, m', _, hk, hm⟩ := h
  refine World.cell?_of_block (ht.block q hk.lt fun hf => ?_)
  unfold KB at hk
  rcases hF q hf with ⟨cs, z, e⟩ | ⟨es, c, e⟩
  · rw [e] at hk
    injection hk with hk
    injection hk with _ hk
    exact absurd hk (by decide)
  · rw [e] at hk
    cases hk
theorem turn_old {F : Nat → Prop} {w w' : World} {B b i : Nat} (ht : Turns F w w') (hF : ∀ x, F x → B ≤ x) (hb : b < B) (hw : b < w.heap.size) : w'.cell? ⟨b, i, none⟩ = w.cell? ⟨b, i, none⟩ :=
  World.cell?_of_block (ht.block b hw fun hf => by have := hF b hf; omega)
theorem plB {w wr w4 w5 : World} {B b1 b2 : Nat} (h : Below B w wr) (ht4 : Turns (TB b1 wr.drew) wr.drew w4) (ht5 : Turns (TMp b2 w4) w4 w5) (s1 : B ≤ b1) (s2 : B ≤ b2) (hB : B ≤ w.heap.size) (q : Nat) : Below B w (w5.drewN q) := by
  have h0 : Below B w wr.drew := ⟨h.os, h.tape, h.output, h.size, h.block⟩
  have h4 := h0.trans (ht4.below (Nat.le_trans hB h0.size) fun b hb => Nat.le_trans s1 hb.1)
  exact belowDrewM (h4.trans (ht5.below (Nat.le_trans hB h4.size) fun b hb => Nat.le_trans s2 hb.1)) q
theorem plC {w w5 w6 w7 : World} {B : Nat} (h : Below B w w5) (h6 : Below w5.drew.heap.size w5.drew w6) (h7 : Below w6.heap.size w6 w7) (hB : B ≤ w.heap.size := by exact Nat.le_refl _) : Below B w w7 := by
  have h0 : Below B w w5.drew := ⟨h.os, h.tape, h.output, h.size, h.block⟩
  have s5 := Nat.le_trans hB h0.size
  exact (h0.trans (h6.mono s5)).trans (h7.mono (Nat.le_trans s5 h6.size))
/-- Between two rounds of the second loop. -/
def PlR2 (w : World) (b1 p b5 p5 s n : Nat) (f : Nat → Bool) (g : Nat) (tv : Value) (wr : World) : Prop :=
  ∃ k : Nat, k + g = n ∧ tv = .int .i64 k ∧ Mk wr b1 p s f ∧ Mk wr b5 p5 s f ∧ Below w.heap.size w wr
/-- Between two rounds of the first loop. -/
def PlR (w : World) (b1 b2 p q s n g : Nat) (tv : Value) (wr : World) : Prop :=
  ∃ (k : Nat) (f : Nat → Bool), k + g = n ∧ tv = .int .i64 k ∧ Mk wr b1 p s f ∧ Rm wr b2 q s f ∧ Below w.heap.size w wr

set_option maxRecDepth 100000 in
set_option maxHeartbeats 3200000 in
theorem mplay_short (A : Option Addr) (n c : Nat) (zs : List Int) (x : Int) (w : World) (hn : n ≤ 200) (hA : IsRowK .i64 w A n c zs) :
    Calls Try.prog 3 #[.int .i64 x, .slice A n c] w fun e w' => e = .returned (.bool true) ∧ Below w.heap.size w w' := by
  have hn' : decide ((200 : Int) < (n : Int)) = false := by simp; omega
  go_enter Try.func3, Try.ntmps3
  go_wp2_with fail
  refine (awakem_any _).mono ?_
  rintro e w1 ⟨rfl, hb1⟩
  go_wp2_with fail
  refine (mnew_any x w1).mono ?_
  rintro e w2 ⟨rfl, hM2, hb2⟩
  have h12 := hb1.trans (hb2.mono hb1.size)
  go_wp2_with fail
  refine (rnewm_any x w2).mono ?_
  rintro e w3 ⟨rfl, hR3, hb3⟩
  have h13 := h12.trans (hb3.mono h12.size)
  have hM3 := hM2.keep hb3
  have s1 := hb1.size
  have s2 := h12.size
  clear hb1 hb2 hb3 hM2 h12
  generalize w1.heap.size = b1 at hM3 s1 ⊢
  generalize w2.heap.size = b2 at hR3 s2 ⊢
  clear w1 w2
  generalize clamp x = s at hM3 hR3
  generalize b1 + 1 = p at hM3 ⊢
  generalize b2 + 1 = q at hR3 ⊢
  go_wp2_with fail
  go_loopg [25] n (fun g tv wr => PlR w b1 b2 p q s n g tv wr)
  case atStart => exact ⟨0, _, by omega, rfl, hM3, hR3, h13⟩
  case round =>
    clear hM3 hR3 h13
    obtain ⟨k, f, hkg, rfl, hM, hR, hb⟩ := hrel
    by_cases hlt : k < n
    · obtain ⟨b, o, rfl, hbb, hc⟩ := rowI hA (by omega)
      obtain ⟨hcell, hwf⟩ := hc k hlt
      have hlt' : (k : Int) < (n : Int) := by omega
      generalize zs.getD k 0 = y at hcell hwf
      have hcr : wr.cell? ⟨b, o + k, none⟩ = some (.int .i64 y) := by rw [hb.cell (p := ⟨b, o + k, none⟩) hbb]; exact hcell
      have hbr : b < wr.heap.size := Nat.lt_of_lt_of_le hbb hb.size
      have HKG := Lib.hid hkg
      obtain ⟨m, hmc⟩ := hR.map
      have H1 := Lib.hid (set_any b1 p s f y wr.drew (hM.drewN 1))
      have HR := Lib.hid (show Rm wr.drew b2 q s f from hR)
      have HB := Lib.hid hb
      clear hc hcell hkg hM hR hb
      have hee : ((stE s f y) != (stE s f y)) = false := by simp
      have hff : (fi (stF s f y) y != fi (stF s f y) y) = false := by simp
      have hbr' : b < wr.drew.heap.size := hbr
      have K0 : wr.drew.cell? ⟨b, o + k, none⟩ = some (.int .i64 y) ∧ wr.drew.cell? ⟨q, 1, none⟩ = some (.map (some m)) := ⟨hcr, hmc⟩
      clear hcr hmc
      go_wp2_with fail
      go_region_held3 (fun W => W.cell? ⟨b, o + k, none⟩ = some (.int .i64 y) ∧ W.cell? ⟨q, 1, none⟩ = some (.map (some m)))
        (first | exact K0 | exact K4 | exact K5)
        (first
          | (go_at_call 9; refine H1.out.mono ?_; rintro e w4 ⟨rfl, hM4, ht4⟩
             have K4 : w4.cell? ⟨b, o + k, none⟩ = some (.int .i64 y) ∧ w4.cell? ⟨q, 1, none⟩ = some (.map (some m)) :=
               ⟨(turn_old ht4 (B := w.heap.size) (fun z hz => Nat.le_trans s1 hz.1) hbb hbr').trans K0.1, (HR.out.qcell ht4 (fun z hz => .inl hz.2) 1).trans K0.2⟩
             have HR4 := Lib.hid (HR.out.turnB ht4)
             have hbr4 : b < w4.heap.size := Nat.lt_of_lt_of_le hbr' ht4.size)
          | (go_at_call 10; refine (rset_any b2 q s f y w4 HR4.out).mono ?_; rintro e w5 ⟨rfl, hR5, ht5⟩
             have K5 : w5.cell? ⟨b, o + k, none⟩ = some (.int .i64 y) ∧ w5.cell? ⟨q, 1, none⟩ = some (.map (some m)) :=
               ⟨(turn_old ht5 (B := w.heap.size) (fun z hz => Nat.le_trans s2 hz.1) hbb hbr4).trans K4.1, (HR4.out.qcell ht5 (fun z hz => .inr hz.2) 1).trans K4.2⟩
             have hl5 := fun n => (show Mbo Try.prog 3 (w5.drewN n) m _ _ from hR5.atMap K5.2).look (t := 31) (x := y) Try.underlying3 Try.underlying31 (Try.zeroValue4 _) hwf
             have hl50 := (hR5.atMap K5.2).look (t := 31) (x := y) Try.underlying3 Try.underlying31 (Try.zeroValue4 _) hwf
             have HM5 := Lib.hid (hM4.turnM ht5))
          | (go_at_call 11; refine (has_any b1 p s y _ w5 HM5.out).mono ?_; rintro e w6 ⟨rfl, q6, rfl⟩))
      all_goals
        go_wp2
        go_roundg (gk - 1)
        case rel => exact ⟨k + 1, stF s f y, by have := HKG.out; omega, by go_num, HM5.out.drewN q6, hR5.drewN q6, plB HB.out ht4 ht5 s1 s2 (Nat.le_refl _) q6⟩
        case measure => have := HKG.out; omega
    · have hlt' : ¬ ((k : Int) < (n : Int)) := by omega
      have hz := hM.2.1
      have hs := hM.1
      have K0 : wr.drew.cell? ⟨q, 0, none⟩ = some (.int .i64 s) := hR.size
      have H1 := Lib.hid (rbytes_any b2 q s f wr.drew (hR.drewN 1))
      have HM := Lib.hid (show Mk wr.drew b1 p s f from hM)
      have HR := Lib.hid (show Rm wr.drew b2 q s f from hR)
      have HB := Lib.hid (show Below w.heap.size w wr.drew from ⟨hb.os, hb.tape, hb.output, hb.size, hb.block⟩)
      have HFM := Lib.hid (fits_mbs hz)
      have HFB := Lib.hid (fb_mbs_eq hz)
      clear hM hR hb hkg hz
      go_wp2_with fail
      go_region_held3 (fun W => W.cell? ⟨q, 0, none⟩ = some (.int .i64 s))
        (first | exact K0 | exact K4 | exact K5)
        (first
          | (go_at_call 13; refine H1.out.mono ?_; rintro e w4 ⟨A4, n4, c4, rfl, hO4, hb4⟩; have HR4 := Lib.hid (HR.out.keep hb4); have K4 := HR4.out.size)
          | (go_at_call 12; refine (mof_yes s n4 c4 A4 _ w4 hO4.rk (mbs_bl _ _) hs HFM.out).mono ?_; rintro e w5 ⟨p5, rfl, hM5, hb5⟩; have HR5 := Lib.hid (HR4.out.keep hb5); have K5 := HR5.out.size))
      rw [HFB.out] at hM5
      have HM5 := Lib.hid ((HM.out.keep hb4).keep hb5)
      have HN5 := Lib.hid hM5
      have HB5 := Lib.hid ((HB.out.trans (hb4.mono HB.out.size)).trans (hb5.mono (Nat.le_trans HB.out.size hb4.size)))
      obtain ⟨m, hmc⟩ := HR5.out.map
      have hln := (show Mbo Try.prog 3 w5.drew m _ _ from HR5.out.atMap hmc).len (t := 31) Try.underlying31 3
      have K6 : w5.drew.cell? ⟨q, 0, none⟩ = some (.int .i64 s) ∧ w5.drew.cell? ⟨q, 1, none⟩ = some (.map (some m)) := ⟨K5, hmc⟩
      have H6 := Lib.hid (bytes_any b1 p s f w5.drew (HM5.out.drewN 1))
      have H7 := Lib.hid (msize_any b1 p s f w5.drew (HM5.out.drewN 1))
      have H8 := Lib.hid (count_any b1 p s f w5.drew (HM5.out.drewN 1))
      have hq1 : ((s : Int) != (s : Int)) = false := by simp
      have hq2 : (((cnt f (8 * wid s) : Nat) : Int) != ((cnt f (8 * wid s) : Nat) : Int)) = false := by simp
      clear hM5 hO4 hb4 hb5 hmc K0 K4 K5 HFM HFB H1 HR HM HB HR4
      go_wp2_with fail
      go_region_held (fun W => W.cell? ⟨q, 0, none⟩ = some (.int .i64 s) ∧ W.cell? ⟨q, 1, none⟩ = some (.map (some m)))
        (first | exact K6 | exact K7 | exact K8)
        (first
          | (go_at_call 14; refine H7.out.mono ?_; rintro e w' ⟨rfl, rfl⟩)
          | (go_at_call 15; refine H8.out.mono ?_; rintro e w' ⟨rfl, rfl⟩)
          | (go_at_call 16; refine H6.out.mono ?_; rintro e w6 ⟨A6, n6, c6, rfl, hO6, hb6⟩
             have hcv6 := run_str (P := Try.prog) w6 36 9 5 Try.underlying36 Try.underlying5 Try.underlying9 hO6.rk
             have K7 : w6.cell? ⟨q, 0, none⟩ = some (.int .i64 s) ∧ w6.cell? ⟨q, 1, none⟩ = some (.map (some m)) := ⟨(hb6.cell (p := ⟨q, 0, none⟩) (Rm.lt (HR5.out.drewN 1))).trans K6.1, (hb6.cell (p := ⟨q, 1, none⟩) (Rm.lt (HR5.out.drewN 1))).trans K6.2⟩
             have HR6 := Lib.hid ((HR5.out.drewN 1).keep hb6))
          | (go_at_call 13; refine (rbytes_any b2 q s f w6 HR6.out).mono ?_; rintro e w7 ⟨A7, n7, c7, rfl, hO7, hb7⟩
             have hcv7 := run_str (P := Try.prog) w7 36 9 5 Try.underlying36 Try.underlying5 Try.underlying9 hO7.rk
             have hcv67 := run_str (P := Try.prog) w7 36 9 5 Try.underlying36 Try.underlying5 Try.underlying9 (hO6.rk.below hb7)
             have K8 : w7.cell? ⟨q, 0, none⟩ = some (.int .i64 s) ∧ w7.cell? ⟨q, 1, none⟩ = some (.map (some m)) := ⟨(hb7.cell (p := ⟨q, 0, none⟩) HR6.out.lt).trans K7.1, (hb7.cell (p := ⟨q, 1, none⟩) HR6.out.lt).trans K7.2⟩))
      all_goals
        have HM7 := Lib.hid (((HM5.out.drewN 1).keep hb6).keep hb7)
        have HN7 := Lib.hid (((HN5.out.drewN 1).keep hb6).keep hb7)
        have HB7 := Lib.hid (plC HB5.out hb6 hb7)
        clear hO6 hO7 hb6 hb7 hcv6 hcv7 hcv67 hln K6 K7 K8 H6 H7 H8 HR5 HR6 hq1 hq2
        go_wp2_with fail
        go_loopg [102] n (fun g tv wr => PlR2 w b1 p w4.heap.size p5 s n f g tv wr)
        case atStart => exact ⟨0, by omega, rfl, HM7.out, HN7.out, HB7.out⟩
        case round =>
          clear HM7 HN7 HB7
          obtain ⟨k, hkg, rfl, hM, hN, hb⟩ := hrel
          by_cases hlt2 : k < n
          · obtain ⟨b, o, rfl, hbb, hc⟩ := rowI hA (by omega)
            obtain ⟨hcell, hwf⟩ := hc k hlt2
            have hlt2' : (k : Int) < (n : Int) := by omega
            generalize zs.getD k 0 = y at hcell hwf
            have hcr : wr.cell? ⟨b, o + k, none⟩ = some (.int .i64 y) := by rw [hb.cell (p := ⟨b, o + k, none⟩) hbb]; exact hcell
            have HKG := Lib.hid hkg
            have HH1 := Lib.hid (fun n => has_any b1 p s y f (wr.drewN n) (hM.drewN n))
            have HH2 := Lib.hid (fun n => has_any w4.heap.size p5 s y f (wr.drewN n) (hN.drewN n))
            have HB := Lib.hid hb
            have HM := Lib.hid hM
            have HN := Lib.hid hN
            clear hc hcell hkg hM hN hb
            have hff : (fi f y != fi f y) = false := by simp
            go_wp2_with fail
            go_quiet (first
              | (go_at_call_of 11 (Value.pointer (some ⟨p5, 0, none⟩)); exact Calls.quiet_of (HH2.out _))
              | (go_at_call 11; exact Calls.quiet_of (HH1.out _)))
            go_wp2
            go_roundg (gk - 1)
            case rel => exact ⟨k + 1, by have := HKG.out; omega, by go_num, HM.out.drewN _, HN.out.drewN _, belowDrewM HB.out _⟩
            case measure => have := HKG.out; omega
          · have hlt2' : ¬ ((k : Int) < (n : Int)) := by omega
            have H1 := Lib.hid (count_any b1 p s f wr hM)
            have H2 := Lib.hid (count_any w4.heap.size p5 s f wr hN)
            have H3 := Lib.hid (msize_any b1 p s f wr hM)
            have H4 := Lib.hid (msize_any w4.heap.size p5 s f wr hN)
            have HB := Lib.hid hb
            clear hM hN hb hkg
            go_wp2_with fail
            refine H2.out.mono ?_
            rintro e w' ⟨rfl, rfl⟩
            go_wp2_with fail
            refine H1.out.mono ?_
            rintro e w' ⟨rfl, rfl⟩
            go_wp2_with fail
            refine H4.out.mono ?_
            rintro e w' ⟨rfl, rfl⟩
            go_wp2_with fail
            refine H3.out.mono ?_
            rintro e w' ⟨rfl, rfl⟩
            go_wp2
            go_ret
            exact ⟨rfl, HB.out⟩
theorem mplay_walk (A : Option Addr) (n c : Nat) (zs : List Int) (x : Int) (w : World) (hA : IsRowK .i64 w A n c zs) :
    Calls Try.prog 3 #[.int .i64 x, .slice A n c] w fun e w' => e = .returned (.bool true) ∧ Below w.heap.size w w' := by
  rcases Nat.lt_or_ge 200 n with hn | hn
  · have := rowI_max hA
    exact mplay_long A n c x w hn (by omega)
  · exact mplay_short A n c zs x w hn hA
end Go.Proofs.Ytgdmmcjhbpklhaa
