/-
  The reference's whole and Supports: what members are given. For shares of few limbs, or any that are not well formed.
  A snapshot that is handed in reads as a list of voters, each with its picks, and a list of candidates. For every snapshot that can be read.
  A slice of 32-bit numbers that came in reads as a list of limbs. For every slice that can be read.
  Shares of the reference that are handed in read as a list, each with its weight's limbs; fractions of the reference, too. For every slice that can be read.
-/
import Derived.Test.YtehekjlakegkpaaGreatX29
import Derived.Deep.RegionHeld3
import Derived.Test.YtehekjlakegkpaaGreatX03
import Derived.Deep.Slices
import Derived.Deep.Fields
import Derived.ChangeSame
import Derived.Lib.SmallJoins
import Derived.OpenShut
import Derived.Test.YtehekjlakegkpaaGreatX06
import Derived.Test.YtehekjlakegkpaaGreatX28
section
namespace Go.Proofs.YtehekjlakegkpaaGreat
open Go.RowKit
set_option linter.unusedVariables false

set_option maxHeartbeats 800000 in
theorem whole_any (p : Nat) (w : World) (hp : p < 18446744073709551616) : Calls Tryz.prog 62 #[.int .u64 p] w (OutX w (p : Rat)) := by
  have H1 := Lib.hid (fun W => frac_any p 1 W hp (by omega) (by omega))
  have hb0 : Below w.heap.size w (w.alloc (.cells #[.slice none 0 0, .slice none 0 0] 52)) := (Below.refl _ _).alloc (Nat.le_refl _) _
  have hB0 := Bs.new w 52 (.slice none 0 0) (.slice none 0 0)
  go_enter Tryz.func62, Tryz.ntmps62
  go_wp2_with fail
  generalize w.alloc (Obj.cells #[Value.slice none 0 0, Value.slice none 0 0] 52) = W0 at *
  refine (H1.out _).mono ?_
  rintro e w1 ⟨A, n, c, B, m, d, rfl, hA, hB, hb1⟩
  have hb01 := hb0.trans (hb1.mono hb0.size)
  have hlt := hB0.lt
  have hB1 := hB0.below hb1 hB0.lt
  have hf : NX w1 W0.heap.size ⟨A, n, c, B, m, d⟩ (p : Rat) := by
    refine ⟨?_, ?_⟩
    · rw [Rat.num_natCast]; rw [Nat.gcd_one_right, Nat.div_one] at hA; exact hA
    · rw [Rat.den_natCast]; rw [Nat.gcd_one_right] at hB; exact hB
  have HF := Lib.hid (outX_end (g := w.heap.size) hf hb01 (Nat.le_refl _) hlt)
  obtain ⟨k0, k1⟩ := hB1.cells
  have f0 := hB1.frozen 0
  have f1 := hB1.frozen 1
  clear hB0 hB1 hf hA hB hb0 hb1 hb01 H1
  unfold Fp.val at HF
  dsimp only at HF
  go_wp2
  refine bodyPost_ret (v := .agg #[.slice A n c, .slice B m d]) (by simp [results, Tryz.results62, go_sem, k0, k1]) rfl ?_
  exact HF.out
/-- A box that is filled behind a call, made ahead of it or behind it. -/
theorem fill_a {T : TypeId} {w4 : World} {S lo : Nat} {A B : Option Addr} {n c m d : Nat} {g : Fp} {x : Rat} (hS : Bs w4 T S (.slice g.A g.n g.c) (.slice g.B g.m g.d)) (hf : NX w4 lo ⟨A, n, c, B, m, d⟩ x) :
    Bs (w4.alloc (.cells #[.slice A n c, .slice B m d] T)) T w4.heap.size (.slice A n c) (.slice B m d) ∧
    Bs (w4.alloc (.cells #[.slice A n c, .slice B m d] T)) T S (.slice g.A g.n g.c) (.slice g.B g.m g.d) ∧
    NX (w4.alloc (.cells #[.slice A n c, .slice B m d] T)) lo ⟨A, n, c, B, m, d⟩ x ∧
    Below w4.heap.size w4 (w4.alloc (.cells #[.slice A n c, .slice B m d] T)) := by
  have hb := (Below.refl w4.heap.size w4).alloc (Nat.le_refl _) (.cells #[.slice A n c, .slice B m d] T)
  exact ⟨Bs.new w4 T _ _, hS.below hb hS.lt, hf.below hb, hb⟩
theorem fill_b {T : TypeId} {w4 : World} {S P lo : Nat} {f g : Fp} {x : Rat} (hP : Bs w4 T P (.slice none 0 0) (.slice none 0 0)) (hS : Bs w4 T S (.slice g.A g.n g.c) (.slice g.B g.m g.d)) (hne : S ≠ P) (hf : NX w4 lo f x) (hlo : P < lo) :
    Bs (put2 w4 P (.slice f.A f.n f.c) (.slice f.B f.m f.d)) T P (.slice f.A f.n f.c) (.slice f.B f.m f.d) ∧
    Bs (put2 w4 P (.slice f.A f.n f.c) (.slice f.B f.m f.d)) T S (.slice g.A g.n g.c) (.slice g.B g.m g.d) ∧
    NX (put2 w4 P (.slice f.A f.n f.c) (.slice f.B f.m f.d)) lo f x :=
  ⟨put2_bs hP, (hS.far (p := ⟨P, 0, none⟩) hne _).far (p := ⟨P, 1, none⟩) hne _, hf.put2 hlo⟩
theorem fill_c {T : TypeId} {wr w4 : World} {S q : Nat} {A B : Option Addr} {n c m d : Nat} {g : Fp} {x : Rat} (hS : Bs wr T S (.slice g.A g.n g.c) (.slice g.B g.m g.d)) (hlt : S < wr.heap.size)
    (hb : Below ((wr.drewN q).alloc (.cells #[.slice none 0 0, .slice none 0 0] T)).heap.size ((wr.drewN q).alloc (.cells #[.slice none 0 0, .slice none 0 0] T)) w4) (hf : NX w4 ((wr.drewN q).alloc (.cells #[.slice none 0 0, .slice none 0 0] T)).heap.size ⟨A, n, c, B, m, d⟩ x) :
    Bs w4 T wr.heap.size (.slice none 0 0) (.slice none 0 0) ∧ Below wr.heap.size wr w4 ∧
    Bs ((w4.setCell ⟨wr.heap.size, 0, none⟩ (.slice A n c)).setCell ⟨wr.heap.size, 1, none⟩ (.slice B m d)) T wr.heap.size (.slice A n c) (.slice B m d) ∧
    Bs ((w4.setCell ⟨wr.heap.size, 0, none⟩ (.slice A n c)).setCell ⟨wr.heap.size, 1, none⟩ (.slice B m d)) T S (.slice g.A g.n g.c) (.slice g.B g.m g.d) ∧
    NX ((w4.setCell ⟨wr.heap.size, 0, none⟩ (.slice A n c)).setCell ⟨wr.heap.size, 1, none⟩ (.slice B m d)) wr.heap.size ⟨A, n, c, B, m, d⟩ x ∧ Below wr.heap.size wr ((w4.setCell ⟨wr.heap.size, 0, none⟩ (.slice A n c)).setCell ⟨wr.heap.size, 1, none⟩ (.slice B m d)) := by
  have hs : ((wr.drewN q).alloc (.cells #[.slice none 0 0, .slice none 0 0] T)).heap.size = wr.heap.size + 1 := by simp
  have h0 : Below wr.heap.size wr ((wr.drewN q).alloc (.cells #[.slice none 0 0, .slice none 0 0] T)) := (belN wr q).alloc (Nat.le_refl _) _
  have h4 := h0.trans (hb.mono h0.size)
  have hP : Bs w4 T wr.heap.size (.slice none 0 0) (.slice none 0 0) := Bs.below (show Bs ((wr.drewN q).alloc _) T (wr.drewN q).heap.size _ _ from Bs.new (wr.drewN q) T _ _) hb (by rw [hs]; omega)
  rw [hs] at hf
  obtain ⟨f1, f2, f3⟩ := fill_b (f := ⟨A, n, c, B, m, d⟩) (g := g) hP (hS.below h4 hlt) (by omega) hf (by omega)
  exact ⟨hP, h4, f1, f2, f3.mono (by omega), put2_below h4 (Nat.le_refl _)⟩
theorem irtInfo : (Tryz.prog.info? 52).map (fun i => (i.zero, i.size, i.bytes)) = some (some (.agg #[.slice none 0 0, .slice none 0 0]), 2, 48) := by kernel_rfl
set_option maxHeartbeats 6400000 in
theorem xsupports_any (A B : Option Addr) (n c m d a b N : Nat) (ms : List Int) (l : List Wh) (w : World) (hm : Ri w A n c ms) (hn : n ≤ 1000) (h : Hr w B m d l) (hq : (∀ s ∈ l, s.ok = true) → FewQ a b N l) :
    Calls Tryz.prog 25 #[.slice A n c, .slice B m d] w (SupTo 52 w ms l) := by
  have HIN := Lib.hid h
  have HM := Lib.hid hm
  have HQ := Lib.hid hq
  have hlen := Lib.hid h.len
  have hlenm := Lib.hid hm.len
  have hcap := h.cap
  have hmax := h.max
  have hcapm := hm.cap
  have hmaxm := hm.max
  clear h hm hq
  go_enter Tryz.func25, Tryz.ntmps25
  go_wp2_with fail
  go_loopw [15] (fun tv wr => ∃ (k : Nat), k ≤ m ∧ tv = .int .i64 (k : Int) ∧ (∀ j s, j < k → l[j]? = some s → s.ok = true) ∧ Below w.heap.size w wr) (fun tv _ => m - (intOf tv).toNat)
  case atStart => exact ⟨0, by omega, rfl, fun j s hj => by omega, Below.refl _ _⟩
  case round =>
    obtain ⟨k, hk, rfl, hno, hbw⟩ := hrel
    have HN := Lib.hid hno
    clear hno
    by_cases hlt : k < m
    · obtain ⟨b', o, ⟨sv, scd, ⟨yA, yn, yc, yB, ym, yd⟩, xs, ys⟩, rfl, hb, hs, c0, c1, c2, c3, r0, r1⟩ := HIN.out.at_ hlt
      dsimp only at c0 c1 c2 c3 r0 r1
      have d2 := (hbw.cell (p := ⟨b', o + k * 4 + 2, none⟩) hb).trans c2
      have d3 := (hbw.cell (p := ⟨b', o + k * 4 + 3, none⟩) hb).trans c3
      have hr0 := r0.below hbw
      have hr1 := r1.below hbw
      have hki : (k : Int) < (m : Int) := by omega
      have HS := Lib.hid hs
      have hFm := rfr_any yA yB yn yc ym yd xs ys wr hr0 hr1
      obtain ⟨r, hr⟩ : ∃ r, frB xs ys = r := ⟨_, rfl⟩
      rw [hr] at hFm
      have HR := Lib.hid hr
      have HB7 := Lib.hid hbw
      clear hbw c0 c1 c2 c3 r0 r1 hs hr hr0 hr1
      go_wp2_with fail
      refine hFm.mono ?_
      rintro e w8 ⟨rfl, hb8⟩
      have HB8 := Lib.hid (HB7.out.trans (hb8.mono HB7.out.size))
      clear hFm hb8 d2 d3
      cases r with
      | false =>
        go_wp2
        go_ret2
        refine ⟨fun hall => ?_, fun _ => ⟨rfl, HB8.out⟩⟩
        have := hall _ (List.mem_of_getElem? HS.out)
        rw [show Wh.ok _ = frB xs ys from rfl, HR.out] at this
        cases this
      | true =>
        go_wp2
        go_roundw
        case rel => exact ⟨k + 1, by omega, by go_num, fun j s hj hs => by
          rcases Nat.lt_or_ge j k with h1 | h1
          · exact HN.out j s h1 hs
          · obtain rfl : j = k := by omega
            rw [HS.out] at hs
            injection hs with hs
            subst hs
            exact HR.out, HB8.out⟩
        case measure => simp [intOf]; omega
    · obtain rfl : k = m := by omega
      have hall : ∀ s ∈ l, s.ok = true := fun s hs => by
        obtain ⟨j, hj, rfl⟩ := List.mem_iff_getElem.1 hs
        exact HN.out j _ (by rw [hlen.out] at hj; omega) (List.getElem?_eq_getElem hj)
      have HQQ := Lib.hid (HQ.out hall)
      have HALL := Lib.hid hall
      have HBW := Lib.hid hbw
      have hsz := hbw.size
      clear HQ hall HN hbw
      go_wp2_with fail
      go_loopg [7, 28] n (fun g9 rv tv wy => ∃ (i : Nat) (SA : Option Addr) (sc : Nat) (fs : List (Fp × Rat)), g9 = n - i ∧ i ≤ n ∧ tv = .int .i64 (i : Int) ∧ rv = .slice SA fs.length sc ∧ fs.length = i ∧ fs.map Prod.snd = (ms.take i).map (fun mm => sumR (givQ mm l)) ∧ FsIn 52 wy w.heap.size (.slice SA fs.length sc) fs ∧ Below w.heap.size w wy)
      case atStart => exact ⟨0, none, 0, [], by omega, by omega, rfl, rfl, rfl, rfl, FsIn.nil _ _ _, HBW.out⟩
      case round =>
        obtain ⟨i, SA, sc, fs, hg9, hi, rfl, rfl, hfl, hfm, hfs, hbw⟩ := hrel
        by_cases hlt2 : i < n
        · obtain ⟨b2, o2, rfl, hb2, hc2⟩ := HM.out.at_ (by omega)
          have e0 := (hbw.cell (p := ⟨b2, o2 + i, none⟩) hb2).trans (hc2 i hlt2)
          have htk : (ms.take (i + 1)).map (fun mm => sumR (givQ mm l)) = (ms.take i).map (fun mm => sumR (givQ mm l)) ++ [sumR (givQ (zl ms i) l)] := by
            have hil : i < ms.length := by rw [hlenm.out]; exact hlt2
            rw [List.take_add_one, List.getElem?_eq_getElem hil, List.map_append, zl_get ms i hil]
            rfl
          have HC2 := Lib.hid (hc2 i hlt2)
          clear hc2
          generalize zl ms i = mm at *
          have HTK := Lib.hid htk
          have HFS := Lib.hid (And.intro hfs (And.intro hfl hfm))
          have HBW2 := Lib.hid hbw
          have hii : (i : Int) < (n : Int) := by omega
          have hfn : fs.length ≤ n := by omega
          clear htk hfs hfm hbw hfl e0
          go_wp2_with fail
          refine (whole_any 0 wr (by omega)).mono ?_
          rintro e w8 ⟨⟨A8, n8, c8, B8, m8, d8⟩, rfl, hf8, hb8⟩
          unfold Fp.val
          dsimp only
          have hA9 : Below w8.heap.size w8 (w8.alloc (.cells #[.slice A8 n8 c8, .slice B8 m8 d8] 52)) := (Below.refl _ _).alloc (Nat.le_refl _) _
          have HS9 := Lib.hid (Bs.new w8 52 (.slice A8 n8 c8) (.slice B8 m8 d8))
          have HB9 := Lib.hid (hb8.trans (hA9.mono hb8.size))
          have HF9 := Lib.hid ((hf8.below hA9))
          have hsz8 := hb8.size
          have hsz9 := HBW2.out.size
          clear hA9 hb8 hf8
          go_wp2_with fail
          generalize hq9 : w8.alloc (.cells #[.slice A8 n8 c8, .slice B8 m8 d8] 52) = w9 at *
          generalize hS9 : w8.heap.size = S at *
          generalize wr = wo at *
          go_loopw [34] (fun tv wz => ∃ (j : Nat) (f : Fp), j ≤ k ∧ tv = .int .i64 (j : Int) ∧ Bs wz 52 S (.slice f.A f.n f.c) (.slice f.B f.m f.d) ∧ NX wz wo.heap.size f (sumR (givQ mm (l.take j))) ∧ Below wo.heap.size wo wz) (fun tv _ => k - (intOf tv).toNat)
          case atStart => exact ⟨0, ⟨A8, n8, c8, B8, m8, d8⟩, by omega, rfl, HS9.out, HF9.out, HB9.out⟩
          case round =>
            obtain ⟨j, ⟨fA, fn, fc, fB, fm, fd⟩, hj, rfl, hS1, hf, hbz⟩ := hrel
            dsimp only at hS1
            clear HS9 HB9 HF9
            have hbz0 := HBW2.out.trans (hbz.mono hsz9)
            by_cases hlt3 : j < k
            · obtain ⟨b', o, ⟨sv, scd, ⟨yA, yn, yc, yB, ym, yd⟩, xs, ys⟩, rfl, hb, hs, c0, c1, c2, c3, r0, r1⟩ := HIN.out.at_ hlt3
              have hsm := List.mem_of_getElem? hs
              have hqs := (HQQ.out.el _ hsm).1
              have hsb := HQQ.out.one hsm
              have hsk := HQQ.out.sb mm j
              have htk := givQ_take_succ hs mm
              dsimp only at c0 c1 c2 c3 r0 r1 htk
              have d1 := (hbz0.cell (p := ⟨b', o + j * 4 + 1, none⟩) hb).trans c1
              have e0 := (hbz0.cell (p := ⟨b2, o2 + i, none⟩) hb2).trans HC2.out
              have hki : (j : Int) < (k : Int) := by omega
              have HX := Lib.hid (And.intro hsb hsk)
              have HT := Lib.hid htk
              have HQS := Lib.hid hqs
              have HR := Lib.hid (And.intro r0 r1)
              have HKF := Lib.hid (fun W' (hb' : Below w.heap.size w W') => And.intro ((hb'.cell (p := ⟨b', o + j * 4 + 2, none⟩) hb).trans c2) ((hb'.cell (p := ⟨b', o + j * 4 + 3, none⟩) hb).trans c3))
              have HSF := Lib.hid (And.intro hS1 (And.intro hf (And.intro hbz hbz0)))
              have hSlt := hS1.lt
              clear c0 c1 c2 c3 r0 r1 hqs hsb hsk htk hs hsm hS1 hf hbz hbz0
              go_upto_region 15 with (fail)
              by_cases hm : scd = mm
              · subst hm
                rw [if_pos rfl] at HT
                go_quiet (fail)
                have hADD := fun W (g1 : RX W ⟨fA, fn, fc, fB, fm, fd⟩ _) (g2 : RX W ⟨yA, yn, yc, yB, ym, yd⟩ _) => zadd_any g1 g2 HX.out.2 HX.out.1
                have HADD := Lib.hid hADD
                clear hADD d1 e0
                unfold Fp.val at HADD
                dsimp only at HADD
                have K0 := And.intro HSF.out.1.cells.1 (And.intro HSF.out.1.cells.2 (HKF.out wr HSF.out.2.2.2))
                have hAZ : Below wr.heap.size wr (wr.alloc (.cells #[.slice none 0 0, .slice none 0 0] 52)) := (Below.refl _ _).alloc (Nat.le_refl _) _
                have HSA := Lib.hid (And.intro (HSF.out.2.1.rx.below hAZ (Nat.le_refl _)) (And.intro (Wh.rx HQS.out (HR.out.1.below (HSF.out.2.2.2.trans (hAZ.mono HSF.out.2.2.2.size))) (HR.out.2.below (HSF.out.2.2.2.trans (hAZ.mono HSF.out.2.2.2.size)))) (And.intro hAZ (Bs.new wr 52 (.slice none 0 0) (.slice none 0 0)))))
                have HKZ := Lib.hid (fun W' (hb' : Below wr.heap.size wr W') => And.intro (HSF.out.1.below hb' hSlt).cells.1 (And.intro (HSF.out.1.below hb' hSlt).cells.2 (HKF.out W' (HSF.out.2.2.2.trans (hb'.mono HSF.out.2.2.2.size)))))
                have K2 := HKZ.out _ hAZ
                clear hAZ
                go_upto_region 16 with (fail)
                go_region_held3 (fun W' => W'.cell? ⟨S, 0, none⟩ = some (.slice fA fn fc) ∧ W'.cell? ⟨S, 1, none⟩ = some (.slice fB fm fd) ∧ W'.cell? ⟨b', o + j * 4 + 2, none⟩ = some (.slice yA yn yc) ∧ W'.cell? ⟨b', o + j * 4 + 3, none⟩ = some (.slice yB ym yd))
                  (first | exact K0 | exact K1 | exact K2 | exact K3 | go_loud (exact K4))
                  (first
                    | (go_at_call 63; refine (HADD.out _ ?_ ?_).mono ?_; exact (show RX wr _ _ from HSF.out.2.1.rx); exact (Wh.rx (w := wr) HQS.out (HR.out.1.below HSF.out.2.2.2) (HR.out.2.below HSF.out.2.2.2)); rintro e w4 ⟨⟨A4, n4, c4, B4, m4, d4⟩, rfl, hf4, hb4⟩; have HB4 := Lib.hid ((belN wr _).drew.trans (hb4.mono (Nat.le_refl wr.heap.size))); have hS4 := HSF.out.1.below HB4.out hSlt; have HN := Lib.hid (fill_a (g := ⟨fA, fn, fc, fB, fm, fd⟩) hS4 hf4); have HNB := Lib.hid (HB4.out.trans (HN.out.2.2.2.mono HB4.out.size)); have K1 := HKZ.out w4 HB4.out; have K3 := HKZ.out _ (HB4.out.alloc HB4.out.size (.cells #[.slice none 0 0, .slice none 0 0] 52)); have K4 := HKZ.out _ HNB.out; clear hb4 hf4; unfold Fp.val; dsimp only)
                    | (go_at_call 63; go_loud (refine (HADD.out _ ?_ ?_).mono ?_); go_loud (exact (show RX (wr.alloc (.cells #[.slice none 0 0, .slice none 0 0] 52)) _ _ from HSA.out.1)); go_loud (exact (show RX (wr.alloc (.cells #[.slice none 0 0, .slice none 0 0] 52)) _ _ from HSA.out.2.1)); go_loud (rintro e w4 ⟨⟨A4, n4, c4, B4, m4, d4⟩, rfl, hf4, hb4⟩); go_loud (have HC := Lib.hid (fill_c (g := ⟨fA, fn, fc, fB, fm, fd⟩) HSF.out.1 hSlt hb4 hf4)); go_loud (have HN := Lib.hid HC.out.2.2); have HNB := Lib.hid HC.out.2.2.2.2.2; have x0 := HC.out.1.cells.1; have x1 := HC.out.1.cells.2; have z0 := HC.out.1.frozen 0; have z1 := HC.out.1.frozen 1; have K1 := HKZ.out w4 HC.out.2.1; have K4 := HKZ.out _ HNB.out; clear hb4 hf4; unfold Fp.val; dsimp only))
                all_goals
                  first
                    | generalize hw5 : w4.alloc (.cells #[.slice A4 n4 c4, .slice B4 m4 d4] 52) = w5 at *
                    | generalize hw5 : (w4.setCell ⟨wr.heap.size, 0, none⟩ (.slice A4 n4 c4)).setCell ⟨wr.heap.size, 1, none⟩ (.slice B4 m4 d4) = w5 at *
                  obtain ⟨y0, y1⟩ := HN.out.1.cells
                  obtain ⟨s0, s1⟩ := HN.out.2.1.cells
                  have z2 := HN.out.2.1.frozen 0
                  have z3 := HN.out.2.1.frozen 1
                  have hnx := (HN.out.2.2.1.put2 (u := .slice A4 n4 c4) (v := .slice B4 m4 d4) hSlt).mono HSF.out.2.2.1.size
                  have hbx := put2_below (u := .slice A4 n4 c4) (v := .slice B4 m4 d4) (HSF.out.2.2.1.trans (HNB.out.mono HSF.out.2.2.1.size)) hsz8
                  have HN2 := Lib.hid (And.intro (put2_bs (u := .slice A4 n4 c4) (v := .slice B4 m4 d4) HN.out.2.1) (And.intro hnx hbx))
                  clear K0 K1 K2 hnx hbx
                  go_wp2
                  go_roundw
                  case rel => exact ⟨j + 1, ⟨A4, n4, c4, B4, m4, d4⟩, by omega, by go_num, HN2.out.1, by rw [HT.out, sumR_snoc]; exact HN2.out.2.1, HN2.out.2.2⟩
                  case measure => simp [intOf]; omega
              · rw [if_neg hm, List.append_nil] at HT
                have he : (scd == mm) = false := by simp; omega
                go_quiet (fail)
                go_wp2
                go_roundw
                case rel => exact ⟨j + 1, ⟨fA, fn, fc, fB, fm, fd⟩, by omega, by go_num, HSF.out.1, by rw [HT.out]; exact HSF.out.2.1, HSF.out.2.2.1.trans ((belN wr _).mono HSF.out.2.2.1.size)⟩
                case measure => simp [intOf]; omega
            · obtain rfl : j = k := by omega
              rw [List.take_of_length_le (by rw [hlen.out]; exact Nat.le_refl _)] at hf
              obtain ⟨x0, x1⟩ := hS1.cells
              have hA10 : Below wr.heap.size wr (wr.alloc (.cells #[.slice fA fn fc, .slice fB fm fd] 52)) := (Below.refl _ _).alloc (Nat.le_refl _) _
              have HSR := Lib.hid (Sr.new (sz := 2) wr 52 #[.slice fA fn fc, .slice fB fm fd] rfl)
              have HB10 := Lib.hid (hbz.trans (hA10.mono hbz.size))
              have HF10 := Lib.hid (hf.below hA10)
              have HG10 := Lib.hid (HFS.out.1.below HB10.out)
              clear hA10 hbz hbz0 hf hS1
              go_wp2_with (at_builtin; (refine wpList_appT 2 48 _ 52 rfl (.tmp 62) (.tmp 64) 63 rfl w.heap.size Tryz.underlying63 irtInfo rfl (by decide) (.slice SA fs.length sc) ⟨wr.heap.size, 0, none⟩ fs.length 1 (fpC fs) [.slice fA fn fc, .slice fB fm fd] (by simp [Act.eval]) (by simp [Act.eval]) HG10.out.row HSR.out (by simp [Value.oneCell']) (by unfold maxLen; omega) (by omega) (Nat.le_trans hsz9 HB10.out.size) ?_); intro A1 c1 w11 o1 t1 h5)
              have hp := HFS.out.1.pr_lo (lo := wo.heap.size) (f := ⟨fA, fn, fc, fB, fm, fd⟩) HF10.out.lo (Nat.le_refl _)
              have hPu := HG10.out.push ⟨fA, fn, fc, fB, fm, fd⟩ _ HF10.out.rx hp.1 hp.2 o1 t1 h5
              have hbF : Below w.heap.size w w11 := (HBW2.out.trans (HB10.out.mono hsz9)).trans (t1.below (Nat.le_trans hsz9 HB10.out.size) (fun x hx => (HG10.out.row.lt _ hx).1))
              have HNN := Lib.hid (And.intro hPu hbF)
              clear o1 t1 h5 hp hPu hbF x0 x1
              go_roundg (n - (i + 1))
              case measure => omega
              case rel => exact ⟨i + 1, A1, c1, fs ++ [(⟨fA, fn, fc, fB, fm, fd⟩, _)], rfl, by omega, by go_num, by rw [List.length_append]; rfl, by rw [List.length_append, HFS.out.2.1]; rfl, by rw [List.map_append, HFS.out.2.2, HTK.out]; rfl, by rw [List.length_append]; exact HNN.out.1, HNN.out.2⟩
        · obtain rfl : i = n := by omega
          rw [List.take_of_length_le (by rw [hlenm.out]; exact Nat.le_refl _)] at hfm
          have HF : SupTo 52 w ms l (.returned (.tuple #[.slice SA fs.length sc, .int .i64 0])) wr := by
            refine ⟨fun _ => ⟨SA, sc, fs, rfl, hfm, hfs, hbw⟩, fun ⟨s, hs, e⟩ => ?_⟩
            rw [HALL.out s hs] at e
            cases e
          have HFF := Lib.hid HF
          clear HF hfm hfs hbw
          go_wp2
          go_ret2
          exact HFF.out
end Go.Proofs.YtehekjlakegkpaaGreat
end
section
namespace Go.Proofs.YtehekjlakegkpaaGreat
open Go.ChangeShapes Go.WideShapes Go.Deep Go.RowKit
set_option linter.unusedVariables false

theorem qcell_lt {w : World} {x : Addr} {v : Value} (h : w.cell? x = some v) : x.block < w.heap.size := by
  rcases Nat.lt_or_ge x.block w.heap.size with h1 | h1
  · exact h1
  · unfold World.cell? at h
    rw [Array.getElem?_eq_none h1] at h
    cases h
theorem qadd_blk (x : Addr) (n : Nat) : (x.add n).block = x.block := by unfold Addr.add; split <;> rfl
theorem qadd_two (x : Addr) (i j : Nat) : (x.add i).add j = x.add (i + j) := by
  unfold Addr.add
  by_cases hi : i = 0 <;> by_cases hj : j = 0 <;> simp [hi, hj, Nat.add_assoc]
theorem qaddr_add (g o j : Nat) : (⟨g, o, none⟩ : Addr).add j = ⟨g, o + j, none⟩ := by unfold Addr.add; split <;> simp [*]
theorem qlist_of {α : Type} {n : Nat} {p : Nat → α → Prop} (h : ∀ i, i < n → ∃ o, p i o) : ∃ os : List α, os.length = n ∧ ∀ i o, os[i]? = some o → p i o := by
  induction n with
  | zero => exact ⟨[], rfl, by simp⟩
  | succ n ih =>
    obtain ⟨os, hl, hp⟩ := ih (fun i hi => h i (by omega))
    obtain ⟨o, ho⟩ := h n (by omega)
    refine ⟨os ++ [o], by simp [hl], fun i q hq => ?_⟩
    rcases Nat.lt_or_ge i n with h1 | h1
    · rw [List.getElem?_append_left (by omega)] at hq
      exact hp i q hq
    · rw [List.getElem?_append_right (by omega)] at hq
      have : i = n := by
        rcases Nat.lt_or_ge n i with h2 | h2
        · rw [List.getElem?_eq_none (by simp; omega)] at hq; cases hq
        · omega
      subst this
      simp [hl] at hq
      subst hq
      exact ho
section
variable {H : Type} {enc : TypeId × Value → H} {w : World} {base : Nat} {spare : Nat → Bool} {held : Bool} {fuel : Nat} {v : Value} {x : DataW H × List MemPlace}
theorem open_ri (h : DataW.trod enc Tryz.prog w base spare held fuel 23 [v] = some x) : ∃ a n c zs, v = .slice a n c ∧ Ri w a n c zs := by
  rcases open_ints Tryz.underlying23 Tryz.underlying3 (by kernel_rfl) h with ⟨hcs, _⟩ | ⟨a, l, c, zs, hcs, _, hl, hm, hz, _, hcell, hwz⟩
  · simp at hcs
    exact ⟨_, _, _, [], hcs, Ri.nil w⟩
  · simp at hcs
    have hlz : l ≤ zs.length := by rw [hz]; split <;> omega
    refine ⟨_, _, _, zs.take l, hcs, by rw [List.length_take]; omega, hl, by unfold maxLen at hm; exact hm, fun z hzm => bounds_i64 (hwz z (List.mem_of_mem_take hzm)), fun h0 => ?_⟩
    obtain ⟨b, o, sp⟩ := a
    have c0 := hcell 0 (by omega)
    have hsp : sp = none := by simpa [Addr.add] using World.cell?_spot c0
    subst hsp
    refine ⟨b, o, rfl, ?_, fun j hj => ?_⟩
    · have := qcell_lt c0; rwa [qadd_blk] at this
    · have := hcell j (by omega)
      rw [qaddr_add] at this
      rw [this]
      congr 2
      unfold zl
      rw [List.getD_eq_getElem?_getD, List.getD_eq_getElem?_getD, List.getElem?_take_of_lt hj]

set_option maxRecDepth 100000 in
theorem open_rv (h : DataW.trod enc Tryz.prog w base spare held fuel 22 [v] = some x) : ∃ a n c vs, v = .slice a n c ∧ Rv w a n c vs := by
  have hC : Tryz.prog.cellsOf 43 = 3 := by kernel_rfl
  rcases open_slice Tryz.underlying22 h with ⟨hcs, _⟩ | ⟨a, len, cap, m, f, D, Pl, hcs, hb, hl, hm, hmm, hx, hi⟩
  · simp at hcs
    exact ⟨_, _, _, [], hcs, Rv.nil w⟩
  · simp at hcs
    have hnm : len ≤ m := by rw [hmm]; split <;> omega
    have key : ∀ i, i < len → ∃ r : Vr, (r.ok ∧ Ri w r.a r.n r.c r.ps) ∧ w.cell? (a.add (i * 3)) = some (.int .i64 r.id) ∧ w.cell? (a.add (i * 3 + 1)) = some (.int .u64 (r.st : Int)) ∧ w.cell? (a.add (i * 3 + 2)) = some (.slice r.a r.n r.c) := by
      intro i hin
      obtain ⟨cs', hc', ht'⟩ := hi i (by omega)
      rw [hC] at hc'
      obtain ⟨ys, n', hn', hy, hlen, hyl, hf⟩ := DataW.trod_struct Tryz.underlying43 ht'
      obtain ⟨_, hcl, hat⟩ := World.cells?_some hc'
      have one : ∀ j (hj : j < 3), (cs'.drop j).take 1 = [cs'[j]'(by omega)] := fun j hj => by
        rw [List.drop_eq_getElem_cons (by omega)]; rfl
      have cell : ∀ j (hj : j < 3), w.cell? (a.add (i * 3 + j)) = some (cs'[j]'(by omega)) := fun j hj => by
        have hcell := hat j (by omega)
        rw [qadd_two] at hcell
        rw [hcell]
        exact List.getElem?_eq_getElem (by omega)
      have h0 : ∃ y, DataW.trod enc Tryz.prog w base spare held n' 3 [cs'[0]'(by omega)] = some y := by
        rw [← one 0 (by omega)]
        exact ⟨_, (hf 0 _ rfl).trans (List.getElem?_eq_getElem (by rw [hyl]; decide))⟩
      have h1 : ∃ y, DataW.trod enc Tryz.prog w base spare held n' 41 [cs'[1]'(by omega)] = some y := by
        rw [← one 1 (by omega)]
        exact ⟨_, (hf 1 _ rfl).trans (List.getElem?_eq_getElem (by rw [hyl]; decide))⟩
      have h2 : ∃ y, DataW.trod enc Tryz.prog w base spare held n' 23 [cs'[2]'(by omega)] = some y := by
        rw [← one 2 (by omega)]
        exact ⟨_, (hf 2 _ rfl).trans (List.getElem?_eq_getElem (by rw [hyl]; decide))⟩
      obtain ⟨y0, e0⟩ := h0
      obtain ⟨y1, e1⟩ := h1
      obtain ⟨y2, e2⟩ := h2
      obtain ⟨z0, hz0, _, w0⟩ := DataW.trod_int Tryz.underlying3 e0
      obtain ⟨z1, hz1, _, w1⟩ := DataW.trod_int Tryz.underlying41 e1
      obtain ⟨pa, pn, pc, ps, hp, hri⟩ := open_ri e2
      simp at hz0 hz1
      have b1 := bounds_u64 w1
      obtain ⟨N, rfl⟩ := Int.eq_ofNat_of_zero_le b1.1
      refine ⟨⟨z0, N, pa, pn, pc, ps⟩, ⟨⟨by dsimp only; omega, bounds_i64 w0⟩, hri⟩, ?_, ?_, ?_⟩
      · have := cell 0 (by omega); rw [hz0] at this; exact this
      · have := cell 1 (by omega); rw [hz1] at this; exact this
      · have := cell 2 (by omega); rw [hp] at this; exact this
    obtain ⟨vs, hl', hp⟩ := qlist_of key
    refine ⟨_, _, _, vs, hcs, hl', hl, by unfold maxLen at hm; exact hm, fun u hu => ?_, fun h0 => ?_⟩
    · obtain ⟨i, hi, rfl⟩ := List.mem_iff_getElem.1 hu
      exact (hp i _ (List.getElem?_eq_getElem hi)).1
    · obtain ⟨b, o, sp⟩ := a
      obtain ⟨r0, _, c0, _⟩ := key 0 h0
      have hsp : sp = none := by simpa [Addr.add] using World.cell?_spot c0
      subst hsp
      refine ⟨b, o, rfl, by have := qcell_lt c0; rwa [qadd_blk] at this, fun j u hu => ?_⟩
      obtain ⟨_, d0, d1, d2⟩ := hp j u hu
      rw [qaddr_add] at d0 d1 d2
      exact ⟨d0, by rw [Nat.add_assoc]; exact d1, by rw [Nat.add_assoc]; exact d2⟩
end
end Go.Proofs.YtehekjlakegkpaaGreat
end
section
namespace Go.Proofs.YtehekjlakegkpaaGreat
open Go.RowKit

/-- A slice of integers that came in reads as limbs. -/
theorem rd_of_row {w : World} {a : Option Addr} {len cap : Nat} {zs : List Int} (h : (a = none ∧ len = 0 ∧ cap = 0 ∧ zs = []) ∨
    ∃ x, a = some x ∧ len ≤ cap ∧ cap ≤ maxLen ∧ zs.length = cap ∧ (∀ i, i < zs.length → w.cell? (x.add i) = some (.int .u32 (zs.getD i 0))) ∧ ∀ n ∈ zs, (Lit.int .u32 n).wf = true) : ∃ xs, Rd w a len cap xs := by
  rcases h with ⟨rfl, rfl, rfl, rfl⟩ | ⟨x, rfl, hl, hm, hz, hc, hw⟩
  · exact ⟨[], Rd.nil w⟩
  · have hb : ∀ n ∈ zs, 0 ≤ n ∧ n < 4294967296 := fun n hn => by
      have := bounds_u32 (hw n hn)
      omega
    refine ⟨(zs.take len).map Int.toNat, ?_, hl, by unfold maxLen at hm; exact hm, ?_, fun hn => ?_⟩
    · rw [List.length_map, List.length_take, hz]; omega
    · intro y hy
      rw [List.mem_map] at hy
      obtain ⟨z, hz1, rfl⟩ := hy
      have := hb z (List.mem_of_mem_take hz1)
      omega
    · obtain ⟨b, o, sp⟩ := x
      have h0 := hc 0 (by omega)
      have hsp : sp = none := by simpa [Addr.add] using World.cell?_spot h0
      subst hsp
      refine ⟨b, o, rfl, ?_, fun j hj => ?_⟩
      · rcases Nat.lt_or_ge b w.heap.size with hlt | hge
        · exact hlt
        · exfalso
          simp [Addr.add, World.cell?, Array.getElem?_eq_none hge] at h0
      · have h1 := hc j (by omega)
        have e1 : (Addr.add ⟨b, o, none⟩ j) = ⟨b, o + j, none⟩ := by
          unfold Addr.add
          by_cases h0 : j = 0
          · subst h0; simp
          · simp [h0]
        rw [e1] at h1
        rw [h1]
        have hjz : j < zs.length := by omega
        have e2 : el ((zs.take len).map Int.toNat) j = (zs[j]).toNat := by
          rw [el_get _ _ (by rw [List.length_map, List.length_take]; omega)]
          simp
        rw [e2, List.getD_eq_getElem?_getD, List.getElem?_eq_getElem hjz]
        have := hb zs[j] (List.getElem_mem hjz)
        simp only [Option.getD_some]
        congr 2
        omega

end Go.Proofs.YtehekjlakegkpaaGreat
end
section
namespace Go.Proofs.YtehekjlakegkpaaGreat
open Go.ChangeShapes Go.WideShapes Go.Deep Go.RowKit
set_option linter.unusedVariables false

/-- Fractions in a slice, whatever they are. -/
structure Wf where
  f : Fp
  xs : List Nat
  ys : List Nat
/-- A slice reads as these fractions. -/
structure Gr (w : World) (A : Option Addr) (n c : Nat) (l : List Wf) : Prop where
  len : l.length = n
  cap : n ≤ c
  max : c ≤ 9223372036854775807
  at0 : 0 < n → ∃ b o, A = some ⟨b, o, none⟩ ∧ b < w.heap.size ∧ ∀ j s, l[j]? = some s → w.cell? ⟨b, o + j * 2, none⟩ = some (.slice s.f.A s.f.n s.f.c) ∧ w.cell? ⟨b, o + j * 2 + 1, none⟩ = some (.slice s.f.B s.f.m s.f.d)
  rd : ∀ s ∈ l, Rd w s.f.A s.f.n s.f.c s.xs ∧ Rd w s.f.B s.f.m s.f.d s.ys
theorem Gr.nil (w : World) : Gr w none 0 0 [] := ⟨rfl, Nat.le_refl _, by omega, fun h => by omega, fun s h => by cases h⟩
section
variable {w w' : World} {A : Option Addr} {n c : Nat} {l : List Wf}
theorem Gr.at_ (h : Gr w A n c l) {k : Nat} (hk : k < n) : ∃ b o s, A = some ⟨b, o, none⟩ ∧ b < w.heap.size ∧ l[k]? = some s ∧ w.cell? ⟨b, o + k * 2, none⟩ = some (.slice s.f.A s.f.n s.f.c) ∧ w.cell? ⟨b, o + k * 2 + 1, none⟩ = some (.slice s.f.B s.f.m s.f.d) ∧ Rd w s.f.A s.f.n s.f.c s.xs ∧ Rd w s.f.B s.f.m s.f.d s.ys := by
  obtain ⟨b, o, e, hb, hc⟩ := h.at0 (by omega)
  have hl : l[k]? = some (l[k]'(by rw [h.len]; exact hk)) := List.getElem?_eq_getElem _
  obtain ⟨c0, c1⟩ := hc k _ hl
  obtain ⟨r0, r1⟩ := h.rd _ (List.mem_of_getElem? hl)
  exact ⟨b, o, _, e, hb, hl, c0, c1, r0, r1⟩
theorem Gr.below {B : Nat} (h : Gr w A n c l) (hb : Below B w w') (hB : w.heap.size ≤ B) : Gr w' A n c l := by
  have hb' := hb.mono hB
  refine ⟨h.len, h.cap, h.max, fun h0 => ?_, fun s hs => ⟨(h.rd s hs).1.below hb', (h.rd s hs).2.below hb'⟩⟩
  obtain ⟨b, o, e, hbl, hc⟩ := h.at0 h0
  refine ⟨b, o, e, Nat.lt_of_lt_of_le hbl hb'.size, fun j s hj => ?_⟩
  obtain ⟨c0, c1⟩ := hc j s hj
  exact ⟨(hb'.cell (p := ⟨b, o + j * 2, none⟩) hbl).trans c0, (hb'.cell (p := ⟨b, o + j * 2 + 1, none⟩) hbl).trans c1⟩
theorem Gr.drew (h : Gr w A n c l) : Gr w.drew A n c l := ⟨h.len, h.cap, h.max, h.at0, h.rd⟩
end
section
variable {H : Type} {enc : TypeId × Value → H} {w : World} {base : Nat} {spare : Nat → Bool} {held : Bool} {fuel : Nat} {v : Value} {x : DataW H × List MemPlace}
set_option maxRecDepth 100000 in
theorem open_rd (h : DataW.trod enc Tryz.prog w base spare held fuel 50 [v] = some x) : ∃ a n c xs, v = .slice a n c ∧ Rd w a n c xs := by
  rcases open_ints Tryz.underlying50 Tryz.underlying69 (by kernel_rfl) h with ⟨hcs, _⟩ | ⟨x, l, c, zs, hcs, _, hl, hm, hz, _, hcell, hwz⟩
  · simp at hcs
    exact ⟨_, _, _, [], hcs, Rd.nil w⟩
  · simp at hcs
    have hlz : l ≤ zs.length := by rw [hz]; split <;> omega
    have hb : ∀ n ∈ zs, 0 ≤ n ∧ n < 4294967296 := fun n hn => by
      have := bounds_u32 (hwz n hn)
      omega
    refine ⟨_, _, _, (zs.take l).map Int.toNat, hcs, by rw [List.length_map, List.length_take]; omega, hl, by unfold maxLen at hm; exact hm, ?_, fun h0 => ?_⟩
    · intro y hy
      rw [List.mem_map] at hy
      obtain ⟨z, hz1, rfl⟩ := hy
      have := hb z (List.mem_of_mem_take hz1)
      omega
    · obtain ⟨b, o, sp⟩ := x
      have c0 := hcell 0 (by omega)
      have hsp : sp = none := by simpa [Addr.add] using World.cell?_spot c0
      subst hsp
      refine ⟨b, o, rfl, ?_, fun j hj => ?_⟩
      · have := qcell_lt c0; rwa [qadd_blk] at this
      · have := hcell j (by omega)
        rw [qaddr_add] at this
        rw [this]
        have hjz : j < zs.length := by omega
        unfold el
        rw [List.getD_eq_getElem?_getD, List.getD_eq_getElem?_getD, List.getElem?_map, List.getElem?_take_of_lt hj, List.getElem?_eq_getElem hjz]
        have := hb _ (List.getElem_mem hjz)
        show some (Value.int .u32 zs[j]) = some (Value.int .u32 ((zs[j].toNat : Nat) : Int))
        congr 2
        omega
theorem one_at {cs : List Value} {j n : Nat} (hn : cs.length = n) (hj : j < n) : (cs.drop j).take 1 = [cs[j]'(by omega)] := by
  rw [List.drop_eq_getElem_cons (by omega)]; rfl
theorem two_at {cs : List Value} {j n : Nat} (hn : cs.length = n) (hj : j + 1 < n) : (cs.drop j).take 2 = [cs[j]'(by omega), cs[j + 1]'(by omega)] := by
  rw [List.drop_eq_getElem_cons (by omega), List.drop_eq_getElem_cons (by omega)]; rfl
set_option maxRecDepth 100000 in
/-- A fraction's two cells. -/
theorem open_rr {y0 y1 : Value} (h : DataW.trod enc Tryz.prog w base spare held fuel 52 [y0, y1] = some x) : ∃ (f : Fp) (xs ys : List Nat), y0 = .slice f.A f.n f.c ∧ y1 = .slice f.B f.m f.d ∧ Rd w f.A f.n f.c xs ∧ Rd w f.B f.m f.d ys := by
  obtain ⟨ys, n', hn', hy, hlen, hyl, hf⟩ := DataW.trod_struct Tryz.underlying52 h
  have h0 : ∃ y, DataW.trod enc Tryz.prog w base spare held n' 50 [y0] = some y :=
    ⟨_, (hf 0 _ rfl).trans (List.getElem?_eq_getElem (by rw [hyl]; decide))⟩
  have h1 : ∃ y, DataW.trod enc Tryz.prog w base spare held n' 50 [y1] = some y :=
    ⟨_, (hf 1 _ rfl).trans (List.getElem?_eq_getElem (by rw [hyl]; decide))⟩
  obtain ⟨z0, e0⟩ := h0
  obtain ⟨z1, e1⟩ := h1
  obtain ⟨a, n, c, xs, rfl, hx⟩ := open_rd e0
  obtain ⟨b, m, d, us, rfl, hu⟩ := open_rd e1
  exact ⟨⟨a, n, c, b, m, d⟩, xs, us, rfl, rfl, hx, hu⟩
set_option maxRecDepth 100000 in
theorem open_gr (h : DataW.trod enc Tryz.prog w base spare held fuel 63 [v] = some x) : ∃ a n c l, v = .slice a n c ∧ Gr w a n c l := by
  have hC : Tryz.prog.cellsOf 52 = 2 := by kernel_rfl
  rcases open_slice Tryz.underlying63 h with ⟨hcs, _⟩ | ⟨a, len, cap, m, f, D, Pl, hcs, hb, hl, hm, hmm, hx, hi⟩
  · simp at hcs
    exact ⟨_, _, _, [], hcs, Gr.nil w⟩
  · simp at hcs
    have hnm : len ≤ m := by rw [hmm]; split <;> omega
    have key : ∀ i, i < len → ∃ r : Wf, (Rd w r.f.A r.f.n r.f.c r.xs ∧ Rd w r.f.B r.f.m r.f.d r.ys) ∧ w.cell? (a.add (i * 2)) = some (.slice r.f.A r.f.n r.f.c) ∧ w.cell? (a.add (i * 2 + 1)) = some (.slice r.f.B r.f.m r.f.d) := by
      intro i hin
      obtain ⟨cs', hc', ht'⟩ := hi i (by omega)
      rw [hC] at hc'
      obtain ⟨_, hcl, hat⟩ := World.cells?_some hc'
      have cell : ∀ j (hj : j < 2), w.cell? (a.add (i * 2 + j)) = some (cs'[j]'(by omega)) := fun j hj => by
        have hcell := hat j (by omega)
        rw [qadd_two] at hcell
        rw [hcell]
        exact List.getElem?_eq_getElem (by omega)
      have e : cs' = [cs'[0]'(by omega), cs'[1]'(by omega)] := by
        have := two_at (j := 0) hcl (by omega)
        rw [List.drop_zero, List.take_of_length_le (by omega)] at this
        exact this
      have c0 := cell 0 (by omega)
      have c1 := cell 1 (by omega)
      rw [e] at ht'
      obtain ⟨f, xs, ys, e0, e1, hx, hy⟩ := open_rr ht'
      exact ⟨⟨f, xs, ys⟩, ⟨hx, hy⟩, by rw [← e0]; exact c0, by rw [← e1]; exact c1⟩
    obtain ⟨l, hl', hp⟩ := qlist_of key
    refine ⟨_, _, _, l, hcs, hl', hl, by unfold maxLen at hm; exact hm, fun h0 => ?_, fun u hu => ?_⟩
    · obtain ⟨b, o, sp⟩ := a
      obtain ⟨r0, _, c0, _⟩ := key 0 h0
      have hsp : sp = none := by simpa [Addr.add] using World.cell?_spot c0
      subst hsp
      refine ⟨b, o, rfl, by have := qcell_lt c0; rwa [qadd_blk] at this, fun j u hu => ?_⟩
      obtain ⟨_, d0, d1⟩ := hp j u hu
      rw [qaddr_add] at d0 d1
      exact ⟨d0, by rw [Nat.add_assoc]; exact d1⟩
    · obtain ⟨i, hi, rfl⟩ := List.mem_iff_getElem.1 hu
      exact (hp i _ (List.getElem?_eq_getElem hi)).1
set_option maxRecDepth 100000 in
theorem open_hr (h : DataW.trod enc Tryz.prog w base spare held fuel 57 [v] = some x) : ∃ a n c l, v = .slice a n c ∧ Hr w a n c l := by
  have hC : Tryz.prog.cellsOf 87 = 4 := by kernel_rfl
  rcases open_slice Tryz.underlying57 h with ⟨hcs, _⟩ | ⟨a, len, cap, m, f, D, Pl, hcs, hb, hl, hm, hmm, hx, hi⟩
  · simp at hcs
    exact ⟨_, _, _, [], hcs, Hr.nil w⟩
  · simp at hcs
    have hnm : len ≤ m := by rw [hmm]; split <;> omega
    have key : ∀ i, i < len → ∃ r : Wh, (Rd w r.f.A r.f.n r.f.c r.xs ∧ Rd w r.f.B r.f.m r.f.d r.ys) ∧ w.cell? (a.add (i * 4)) = some (.int .i64 r.v) ∧ w.cell? (a.add (i * 4 + 1)) = some (.int .i64 r.c) ∧ w.cell? (a.add (i * 4 + 2)) = some (.slice r.f.A r.f.n r.f.c) ∧ w.cell? (a.add (i * 4 + 3)) = some (.slice r.f.B r.f.m r.f.d) := by
      intro i hin
      obtain ⟨cs', hc', ht'⟩ := hi i (by omega)
      rw [hC] at hc'
      obtain ⟨_, hcl, hat⟩ := World.cells?_some hc'
      have cell : ∀ j (hj : j < 4), w.cell? (a.add (i * 4 + j)) = some (cs'[j]'(by omega)) := fun j hj => by
        have hcell := hat j (by omega)
        rw [qadd_two] at hcell
        rw [hcell]
        exact List.getElem?_eq_getElem (by omega)
      obtain ⟨ys, n', hn', hy, hlen, hyl, hf⟩ := DataW.trod_struct Tryz.underlying87 ht'
      have h0 : ∃ y, DataW.trod enc Tryz.prog w base spare held n' 3 [cs'[0]'(by omega)] = some y := by
        rw [← one_at hcl (by omega)]
        exact ⟨_, (hf 0 _ rfl).trans (List.getElem?_eq_getElem (by rw [hyl]; decide))⟩
      have h1 : ∃ y, DataW.trod enc Tryz.prog w base spare held n' 3 [cs'[1]'(by omega)] = some y := by
        rw [← one_at hcl (by omega)]
        exact ⟨_, (hf 1 _ rfl).trans (List.getElem?_eq_getElem (by rw [hyl]; decide))⟩
      have h2 : ∃ y, DataW.trod enc Tryz.prog w base spare held n' 52 [cs'[2]'(by omega), cs'[3]'(by omega)] = some y := by
        rw [← two_at hcl (by omega)]
        exact ⟨_, (hf 2 _ rfl).trans (List.getElem?_eq_getElem (by rw [hyl]; decide))⟩
      obtain ⟨y0, e0⟩ := h0
      obtain ⟨y1, e1⟩ := h1
      obtain ⟨y2, e2⟩ := h2
      obtain ⟨z0, hz0, _, w0⟩ := DataW.trod_int Tryz.underlying3 e0
      obtain ⟨z1, hz1, _, w1⟩ := DataW.trod_int Tryz.underlying3 e1
      obtain ⟨f, xs, us, g0, g1, hx, hu⟩ := open_rr e2
      simp at hz0 hz1
      refine ⟨⟨z0, z1, f, xs, us⟩, ⟨hx, hu⟩, ?_, ?_, ?_, ?_⟩
      · have := cell 0 (by omega); rw [hz0] at this; exact this
      · have := cell 1 (by omega); rw [hz1] at this; exact this
      · have := cell 2 (by omega); rw [g0] at this; exact this
      · have := cell 3 (by omega); rw [g1] at this; exact this
    obtain ⟨l, hl', hp⟩ := qlist_of key
    refine ⟨_, _, _, l, hcs, hl', hl, by unfold maxLen at hm; exact hm, fun h0 => ?_, fun u hu => ?_⟩
    · obtain ⟨b, o, sp⟩ := a
      obtain ⟨r0, _, c0, _⟩ := key 0 h0
      have hsp : sp = none := by simpa [Addr.add] using World.cell?_spot c0
      subst hsp
      refine ⟨b, o, rfl, by have := qcell_lt c0; rwa [qadd_blk] at this, fun j u hu => ?_⟩
      obtain ⟨_, d0, d1, d2, d3⟩ := hp j u hu
      rw [qaddr_add] at d0 d1 d2 d3
      exact ⟨d0, by rw [Nat.add_assoc]; exact d1, by rw [Nat.add_assoc]; exact d2, by rw [Nat.add_assoc]; exact d3⟩
    · obtain ⟨i, hi, rfl⟩ := List.mem_iff_getElem.1 hu
      exact (hp i _ (List.getElem?_eq_getElem hi)).1
end
end Go.Proofs.YtehekjlakegkpaaGreat
end
