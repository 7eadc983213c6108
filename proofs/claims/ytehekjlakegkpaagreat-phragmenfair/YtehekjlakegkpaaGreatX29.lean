/-
  psephoslaw11's Few and Theirs: whether shares are of a size that is looked at, and the shares as the package has them. For all shares that can be read.
  phragmen.support and Supports: what members are given. For shares of few limbs, or any that are not well formed.
  The reference's rising and Formed answer whether a snapshot is well formed. For every snapshot that can be read.
-/
import Derived.Test.YtehekjlakegkpaaGreatX28
import Derived.Test.YtehekjlakegkpaaGreatX18
import Derived.Test.YtehekjlakegkpaaGreatX19
import Derived.Deep.RegionHeld3
section
namespace Go.Proofs.YtehekjlakegkpaaGreat
open Go.RowKit
set_option linter.unusedVariables false

/-- Shares are answered, that read as these, in a row of the call's own. -/
def OutHr (T : TypeId) (w : World) (l : List Wh) : Ending → World → Prop := fun e w' => ∃ (A : Option Addr) (c : Nat), e = .returned (.slice A l.length c) ∧ Hr w' A l.length c l ∧ w'.ownsRow w.heap.size T 4 (.slice A l.length c) l.length (whC l) ∧ Below w.heap.size w w'
theorem ishInfo : (Tryz.prog.info? 87).map (fun i => (i.zero, i.size, i.bytes)) = some (some (.agg #[.int .i64 0, .int .i64 0, .slice none 0 0, .slice none 0 0]), 4, 64) := by kernel_rfl
/-- A bool is answered, true only if so, and nothing is done. -/
def OutFw (w : World) (P : Prop) : Ending → World → Prop := fun e w' => (∃ r, e = .returned (.bool r) ∧ (r = true → P)) ∧ w = w'
set_option maxHeartbeats 1600000 in
theorem few11_any (A : Option Addr) (n c most : Nat) (l : List Wh) (w : World) (h : Hr w A n c l) :
    Calls Tryz.prog 22 #[.slice A n c, .int .i64 (most : Int)] w (OutFw w (n ≤ most ∧ ∀ s ∈ l, s.f.n ≤ 4 ∧ s.f.m ≤ 2)) := by
  have HIN := Lib.hid h
  have hlen := Lib.hid h.len
  have hcap := h.cap
  have hmax := h.max
  clear h
  go_enter Tryz.func22, Tryz.ntmps22
  go_wp2_with fail
  go_loopw [8] (fun tv wr => ∃ k : Nat, k ≤ n ∧ tv = .int .i64 (k : Int) ∧ wr = w ∧ k ≤ most ∧ ∀ j s, j < k → l[j]? = some s → s.f.n ≤ 4 ∧ s.f.m ≤ 2) (fun tv _ => n - (intOf tv).toNat)
  case atStart => exact ⟨0, by omega, rfl, rfl, by omega, fun j s hj => by omega⟩
  case round =>
    obtain ⟨k, hk, rfl, rfl, hkm, hno⟩ := hrel
    have HN := Lib.hid hno
    clear hno
    by_cases hlt : k < n
    · obtain ⟨b, o, s, rfl, hb, hs, c0, c1, c2, c3, r0, r1⟩ := HIN.out.at_ hlt
      have hc1 := r0.cap
      have hm1 := r0.max
      have hc2 := r1.cap
      have hm2 := r1.max
      have HS := Lib.hid hs
      clear c0 c1 r0 r1 hs
      by_cases h1 : (most : Int) ≤ (k : Int)
      · go_wp2
        go_ret
        exact ⟨⟨_, rfl, fun e => by cases e⟩, rfl⟩
      · by_cases h2 : (4 : Int) < (s.f.n : Int)
        · go_wp2
          go_ret
          exact ⟨⟨_, rfl, fun e => by cases e⟩, rfl⟩
        · by_cases h3 : (2 : Int) < (s.f.m : Int)
          · go_wp2
            go_ret
            exact ⟨⟨_, rfl, fun e => by cases e⟩, rfl⟩
          · go_wp2
            go_roundw
            case rel => exact ⟨k + 1, by omega, by go_num, trivial, by omega, fun j t hj ht => by
              rcases Nat.lt_or_ge j k with h4 | h4
              · exact HN.out j t h4 ht
              · obtain rfl : j = k := by omega
                rw [HS.out] at ht
                injection ht with ht
                subst ht
                omega⟩
            case measure => simp [intOf]; omega
    · go_wp2
      go_ret
      exact ⟨⟨_, rfl, fun _ => ⟨by omega, fun s hs => by
        obtain ⟨j, hj, rfl⟩ := List.mem_iff_getElem.1 hs
        exact HN.out j _ (by rw [hlen.out] at hj; omega) (List.getElem?_eq_getElem hj)⟩⟩, rfl⟩
set_option maxHeartbeats 3200000 in
set_option maxRecDepth 100000 in
theorem theirs11_any (A : Option Addr) (n c : Nat) (l : List Wh) (w : World) (h : Hr w A n c l) (hn : n ≤ 1000) :
    Calls Tryz.prog 24 #[.slice A n c] w (OutHr 47 w l) := by
  have HIN := Lib.hid h
  have hlen := Lib.hid h.len
  have hcap := h.cap
  have hmax := h.max
  clear h
  go_enter Tryz.func24, Tryz.ntmps24
  go_wp2_with fail
  go_loopg [3, 7] n (fun g9 rv tv wr => ∃ (k : Nat) (SA : Option Addr) (sc : Nat), g9 = n - k ∧ k ≤ n ∧ tv = .int .i64 (k : Int) ∧ rv = .slice SA k sc ∧ wr.ownsRow w.heap.size 47 4 (.slice SA k sc) k (whC (l.take k)) ∧ Below w.heap.size w wr)
  case atStart => exact ⟨0, none, 0, by omega, by omega, rfl, rfl, World.ownsRow_nil _ _ _ _, Below.refl _ _⟩
  case round =>
    obtain ⟨k, SA, sc, hg9, hk, rfl, rfl, hown, hbw⟩ := hrel
    have HO := Lib.hid hown
    have HB := Lib.hid hbw
    have hsz := hbw.size
    by_cases hlt : k < n
    · obtain ⟨b, o, ⟨sv, scd, ⟨fA, fn, fc, fB, fm, fd⟩, xs, ys⟩, rfl, hb, hs, c0, c1, c2, c3, r0, r1⟩ := HIN.out.at_ hlt
      dsimp only at c0 c1 c2 c3
      have HKF := Lib.hid (fun W' (hb' : Below w.heap.size w W') => (⟨(hb'.cell (p := ⟨b, o + k * 4, none⟩) hb).trans c0, (hb'.cell (p := ⟨b, o + k * 4 + 1, none⟩) hb).trans c1, (hb'.cell (p := ⟨b, o + k * 4 + 2, none⟩) hb).trans c2, (hb'.cell (p := ⟨b, o + k * 4 + 3, none⟩) hb).trans c3⟩ : _ ∧ _ ∧ _ ∧ _))
      have K0 := HKF.out wr hbw
      have hki : (k : Int) < (n : Int) := by omega
      have HTK := Lib.hid (show whC (l.take (k + 1)) = whC (l.take k) ++ [.int .i64 sv, .int .i64 scd, .slice fA fn fc, .slice fB fm fd] by rw [List.take_add_one, hs]; rw [whC_append]; rfl)
      clear c0 c1 c2 c3 r0 r1 hown hbw hs
      go_upto_region 5 with (fail)
      go_region_held3 (fun W' => W'.cell? ⟨b, o + k * 4, none⟩ = some (.int .i64 sv) ∧ W'.cell? ⟨b, o + k * 4 + 1, none⟩ = some (.int .i64 scd) ∧ W'.cell? ⟨b, o + k * 4 + 2, none⟩ = some (.slice fA fn fc) ∧ W'.cell? ⟨b, o + k * 4 + 3, none⟩ = some (.slice fB fm fd))
        (first | exact K0 | exact K1 | exact K2 | exact K3)
        (first
          | (go_at_call 60; go_loud (refine (theirs_any _ _ _ _ _ _ _).mono ?_); go_loud (rintro e w1 ⟨rfl, hb1⟩); go_loud (have HB1 := Lib.hid ((Below.refl wr.heap.size wr).drew.trans (hb1.mono (Nat.le_refl wr.heap.size)))); have HBW1 := Lib.hid (HB.out.trans (HB1.out.mono HB.out.size)); have K1 := HKF.out w1 HBW1.out; go_loud (have hal := (Below.refl w1.heap.size w1).alloc (Nat.le_refl _) (.cells #[.int .i64 sv, .int .i64 scd, .slice fA fn fc, .slice fB fm fd] 47)); have HBA := Lib.hid (HBW1.out.trans (hal.mono HBW1.out.size)); have K2 := HKF.out _ HBA.out; have HOA := Lib.hid (own_below (own_below HO.out HB1.out (fun g e => (HO.out.lt _ e).2)) (hal.mono HB1.out.size) (fun g e => (HO.out.lt _ e).2)); go_loud (have HSR := Lib.hid (Sr.new (sz := 4) w1 47 #[.int .i64 sv, .int .i64 scd, .slice fA fn fc, .slice fB fm fd] rfl)); clear hb1 hal)
          | (refine step_appT 4 64 _ 47 rfl (.tmp 10) (.tmp 28) 29 rfl w.heap.size Tryz.underlying29 shInfo rfl (by decide) (.slice SA k sc) ⟨w1.heap.size, 0, none⟩ k 1 (whC (l.take k)) [.int .i64 sv, .int .i64 scd, .slice fA fn fc, .slice fB fm fd] (by simp [Act.eval]) (by simp [Act.eval]) HOA.out HSR.out (by simp [Value.oneCell']) (by unfold maxLen; omega) (by omega) HBA.out.size ?_; intro A1 c1 w10 o1 t1 h5; have HBF := Lib.hid (HBA.out.trans (t1.below HBA.out.size (fun x hx => (HOA.out.lt _ hx).1))); have K3 := HKF.out _ HBF.out; have HOF := Lib.hid o1; clear o1 t1 h5))
      all_goals
        go_wp2
        go_roundg (n - (k + 1))
        case measure => omega
        case rel => exact ⟨k + 1, _, _, rfl, by omega, by go_num, rfl, by rw [HTK.out]; exact HOF.out, HBF.out⟩
    · obtain rfl : k = n := by omega
      have htk : l.take k = l := List.take_of_length_le (by rw [hlen.out]; exact Nat.le_refl _)
      have HF : ∃ (A' : Option Addr) (c' : Nat), Ending.returned (.slice SA k sc) = .returned (.slice A' l.length c') ∧ Hr wr A' l.length c' l ∧ wr.ownsRow w.heap.size 47 4 (.slice A' l.length c') l.length (whC l) ∧ Below w.heap.size w wr := by
        rw [htk] at hown
        have hl := hlen.out
        subst hl
        exact ⟨SA, sc, rfl, hr_of_own hown rfl (fun s hs => by
          obtain ⟨r0, r1⟩ := HIN.out.rd s hs
          exact ⟨r0.below hbw, r1.below hbw⟩), hown, hbw⟩
      have HFF := Lib.hid HF
      clear HF hown hbw
      go_wp2
      go_ret
      exact HFF.out
end Go.Proofs.YtehekjlakegkpaaGreat
end
section
namespace Go.Proofs.YtehekjlakegkpaaGreat
open Go.RowKit
set_option linter.unusedVariables false

theorem NX.put2 {w : World} {lo g : Nat} {f : Fp} {x : Rat} {u v : Value} (h : NX w lo f x) (hg : g < lo) : NX (put2 w g u v) lo f x := ⟨h.1.put2 hg, h.2.put2 hg⟩
theorem sb_zero : Sb (0 : Rat) := (Sm.nat (n := 0) (pw_pos 32)).sb
theorem outX2_end {w w3 : World} {g : Nat} {f : Fp} {x : Rat} (hf : NX w3 (g + 1) f x) (hb : Below w.heap.size w w3) (hg : w.heap.size ≤ g) :
    OutX2 w x (.returned (.tuple #[f.val, .int .i64 0])) (put2 w3 g (.slice f.A f.n f.c) (.slice f.B f.m f.d)) :=
  ⟨f, rfl, ⟨(hf.1.put2 (by omega)).mono (by omega), (hf.2.put2 (by omega)).mono (by omega)⟩, put2_below hb hg⟩
set_option maxHeartbeats 3200000 in
theorem support_any (m : Int) (A : Option Addr) (n c a b N : Nat) (l : List Wh) (w : World) (h : Hr w A n c l) (hq : FewQ a b N l) :
    Calls Tryz.prog 59 #[.int .i64 m, .slice A n c] w (OutX2 w (sumR (givQ m l))) := by
  have HIN := Lib.hid h
  have HQ := Lib.hid hq
  have hlen := Lib.hid h.len
  have hcap := h.cap
  have hmax := h.max
  have hb0 : Below w.heap.size w (w.alloc (.cells #[.slice none 0 0, .slice none 0 0] 38)) := (Below.refl _ _).alloc (Nat.le_refl _) _
  have hB0 := Bs.new w 38 (.slice none 0 0) (.slice none 0 0)
  clear h hq
  go_enter Tryz.func59, Tryz.ntmps59
  go_wp2_with fail
  generalize w.alloc (Obj.cells #[Value.slice none 0 0, Value.slice none 0 0] 38) = W0 at *
  refine (number_any 0 _ (by omega)).mono ?_
  rintro e w1 ⟨⟨A0, n0, c0, B0, m0, d0⟩, rfl, hf0, hb1⟩
  have hb01 := hb0.trans (hb1.mono hb0.size)
  have hlt0 := hB0.lt
  have HB1 := Lib.hid ((hB0.below hb1 hB0.lt).alloc (.cells #[.slice A0 n0 c0, .slice B0 m0 d0] 38))
  have HK1 := Lib.hid (Bs.new w1 38 (.slice A0 n0 c0) (.slice B0 m0 d0))
  have HF1 := Lib.hid ((hf0.mono hlt0).below ((Below.refl _ w1).alloc (Nat.le_refl _) (.cells #[.slice A0 n0 c0, .slice B0 m0 d0] 38)))
  have hS : w.heap.size < w1.heap.size := Nat.lt_of_lt_of_le hlt0 hb1.size
  have HBA := Lib.hid (hb01.alloc (by omega) (.cells #[.slice A0 n0 c0, .slice B0 m0 d0] 38))
  unfold Fp.val
  dsimp only
  clear hb0 hB0 hf0 hb1 hb01
  go_wp2_with fail
  generalize w1.alloc (Obj.cells #[Value.slice A0 n0 c0, Value.slice B0 m0 d0] 38) = W1 at *
  generalize w1.heap.size = S at *
  go_loopw [13] (fun tv wr => ∃ (k : Nat) (f : Fp), k ≤ n ∧ tv = .int .i64 (k : Int) ∧ Bs wr 38 S (.slice f.A f.n f.c) (.slice f.B f.m f.d) ∧ NX wr (w.heap.size + 1) f (sumR (givQ m (l.take k))) ∧ Bs wr 38 w.heap.size (.slice none 0 0) (.slice none 0 0) ∧ Below w.heap.size w wr) (fun tv _ => n - (intOf tv).toNat)
  case atStart => exact ⟨0, ⟨A0, n0, c0, B0, m0, d0⟩, by omega, rfl, HK1.out, HF1.out, HB1.out, HBA.out⟩
  case round =>
    obtain ⟨k, ⟨fA, fn, fc, fB, fm, fd⟩, hk, rfl, hS1, hf, hg, hbw⟩ := hrel
    dsimp only at hS1
    clear HB1 HK1 HF1 HBA
    by_cases hlt : k < n
    · obtain ⟨b', o, ⟨sv, scd, ⟨yA, yn, yc, yB, ym, yd⟩, xs, ys⟩, rfl, hb, hs, c0, c1, c2, c3, r0, r1⟩ := HIN.out.at_ hlt
      have hsm := List.mem_of_getElem? hs
      have hqs := (HQ.out.el _ hsm).1
      have hsb := HQ.out.one hsm
      have hsk := HQ.out.sb m k
      have htk := givQ_take_succ hs m
      dsimp only at c0 c1 c2 c3 r0 r1 htk
      have d0 := (hbw.cell (p := ⟨b', o + k * 4, none⟩) hb).trans c0
      have d1 := (hbw.cell (p := ⟨b', o + k * 4 + 1, none⟩) hb).trans c1
      have d2 := (hbw.cell (p := ⟨b', o + k * 4 + 2, none⟩) hb).trans c2
      have d3 := (hbw.cell (p := ⟨b', o + k * 4 + 3, none⟩) hb).trans c3
      have hA7 : Below wr.heap.size wr (wr.alloc (.cells #[.int .i64 sv, .int .i64 scd, .slice yA yn yc, .slice yB ym yd] 47)) := (Below.refl _ _).alloc (Nat.le_refl _) _
      have hK7 := KB.new wr 47 #[.int .i64 sv, .int .i64 scd, .slice yA yn yc, .slice yB ym yd]
      have hb7 := hbw.trans (hA7.mono hbw.size)
      have hy7 := Wh.rx hqs (r0.below hb7) (r1.below hb7)
      dsimp only at hy7
      have hS7 := hS1.below hA7 hS1.lt
      have hf7 := hf.below hA7
      have hg7 := hg.below hA7 hg.lt
      have hki : (k : Int) < (n : Int) := by omega
      have HX := Lib.hid (And.intro hsb hsk)
      have HT := Lib.hid htk
      clear hA7 hbw c0 c1 c2 c3 r0 r1 hS1 hf hg hqs hsb hsk htk hs hsm
      go_upto_region 5 with (fail)
      generalize hq7 : wr.alloc (.cells #[.int .i64 sv, .int .i64 scd, .slice yA yn yc, .slice yB ym yd] 47) = w7 at *
      generalize wr.heap.size = Q at *
      have v1 := hK7.cell 1
      have v2 := hK7.cell 2
      have v3 := hK7.cell 3
      simp at v1 v2 v3
      obtain ⟨x0, x1⟩ := hS7.cells
      by_cases hm : scd = m
      · subst hm
        rw [if_pos rfl] at HT
        go_wp2_with fail
        refine (badd_any (f := ⟨fA, fn, fc, fB, fm, fd⟩) (g := ⟨yA, yn, yc, yB, ym, yd⟩) hf7.rx hy7 HX.out.2 HX.out.1).mono ?_
        rintro e w8 ⟨⟨A8, n8, c8, B8, m8, d8⟩, rfl, hf8, hb8⟩
        have hlt7 := hS7.lt
        have hS8 := hS7.below hb8 hS7.lt
        have hg8 := hg7.below hb8 hg7.lt
        have hb78 := hb7.trans (hb8.mono hb7.size)
        have z0 := hS8.frozen 0
        have z1 := hS8.frozen 1
        have hw7 := hb7.size
        have HN := Lib.hid (And.intro (put2_bs (u := .slice A8 n8 c8) (v := .slice B8 m8 d8) hS8) (And.intro ((hf8.put2 (u := .slice A8 n8 c8) (v := .slice B8 m8 d8) hlt7).mono (show w.heap.size + 1 ≤ w7.heap.size by have := hg7.lt; omega)) (And.intro ((hg8.far (p := ⟨S, 0, none⟩) (by show w.heap.size ≠ S; omega) (.slice A8 n8 c8)).far (p := ⟨S, 1, none⟩) (by show w.heap.size ≠ S; omega) (.slice B8 m8 d8)) (put2_below (u := .slice A8 n8 c8) (v := .slice B8 m8 d8) hb78 (show w.heap.size ≤ S by omega)))))
        clear x0 x1
        obtain ⟨x0, x1⟩ := hS8.cells
        clear hS8 hg8 hb78 hf8 hb8 hS7 hf7 hg7 hb7 hy7 hK7 v1 v2 v3
        unfold Fp.val
        dsimp only
        go_wp2
        go_roundw
        case rel => exact ⟨k + 1, ⟨A8, n8, c8, B8, m8, d8⟩, by omega, by go_num, HN.out.1, by rw [HT.out, sumR_snoc]; exact HN.out.2.1, HN.out.2.2.1, HN.out.2.2.2⟩
        case measure => simp [intOf]; omega
      · rw [if_neg hm, List.append_nil] at HT
        have he : (scd == m) = false := by simp; omega
        have HN := Lib.hid (And.intro hS7 (And.intro hf7 (And.intro hg7 hb7)))
        clear hS7 hf7 hg7 hb7 hy7 hK7
        go_wp2
        go_roundw
        case rel => exact ⟨k + 1, ⟨fA, fn, fc, fB, fm, fd⟩, by omega, by go_num, HN.out.1, by rw [HT.out]; exact HN.out.2.1, HN.out.2.2.1, HN.out.2.2.2⟩
        case measure => simp [intOf]; omega
    · obtain rfl : k = n := by omega
      rw [List.take_of_length_le (by rw [hlen.out]; exact Nat.le_refl _)] at hf
      obtain ⟨x0, x1⟩ := hS1.cells
      obtain ⟨k0, k1⟩ := hg.cells
      have f0 := hg.frozen 0
      have f1 := hg.frozen 1
      have HF := Lib.hid (outX2_end hf hbw (Nat.le_refl _))
      unfold Fp.val at HF
      dsimp only at HF
      clear hf hbw hg hS1
      go_wp2
      refine bodyPost_ret (v := .tuple #[.agg #[.slice fA fn fc, .slice fB fm fd], .int .i64 0]) (by simp [results, Tryz.results59, go_sem, k0, k1]) rfl ?_
      exact HF.out
/-- What Supports answers. -/
def SupTo (T : TypeId) (w : World) (ms : List Int) (l : List Wh) : Ending → World → Prop := fun e w' =>
  ((∀ s ∈ l, s.ok = true) → OutFs2 T w (ms.map fun m => sumR (givQ m l)) e w') ∧ ((∃ s ∈ l, s.ok = false) → e = .returned (.tuple #[.slice none 0 0, .int .i64 1]) ∧ Below w.heap.size w w')
theorem rtInfo : (Tryz.prog.info? 38).map (fun i => (i.zero, i.size, i.bytes)) = some (some (.agg #[.slice none 0 0, .slice none 0 0]), 2, 48) := by kernel_rfl
set_option maxHeartbeats 3200000 in
theorem supports_any (A B : Option Addr) (n c m d a b N : Nat) (ms : List Int) (l : List Wh) (w : World) (hm : Ri w A n c ms) (hn : n ≤ 1000) (h : Hr w B m d l) (hq : (∀ s ∈ l, s.ok = true) → FewQ a b N l) :
    Calls Tryz.prog 23 #[.slice A n c, .slice B m d] w (SupTo 38 w ms l) := by
  have HIN := Lib.hid h
  have HM := Lib.hid hm
  have HQ := Lib.hid hq
  have hlen := Lib.hid h.len
  have hlenm := Lib.hid hm.len
  have hcap := h.cap
  have hmax := h.max
  have hcapm := hm.cap
  have hmaxm := hm.max
  clear h hm hq
  go_enter Tryz.func23, Tryz.ntmps23
  go_wp2_with fail
  go_loopw [15] (fun tv wr => ∃ (k : Nat), k ≤ m ∧ tv = .int .i64 (k : Int) ∧ (∀ j s, j < k → l[j]? = some s → s.ok = true) ∧ Below w.heap.size w wr) (fun tv _ => m - (intOf tv).toNat)
  case atStart => exact ⟨0, by omega, rfl, fun j s hj => by omega, Below.refl _ _⟩
  case round =>
    obtain ⟨k, hk, rfl, hno, hbw⟩ := hrel
    have HN := Lib.hid hno
    clear hno
    by_cases hlt : k < m
    · obtain ⟨b', o, ⟨sv, scd, ⟨yA, yn, yc, yB, ym, yd⟩, xs, ys⟩, rfl, hb, hs, c0, c1, c2, c3, r0, r1⟩ := HIN.out.at_ hlt
      dsimp only at c0 c1 c2 c3 r0 r1
      have d0 := (hbw.cell (p := ⟨b', o + k * 4, none⟩) hb).trans c0
      have d1 := (hbw.cell (p := ⟨b', o + k * 4 + 1, none⟩) hb).trans c1
      have d2 := (hbw.cell (p := ⟨b', o + k * 4 + 2, none⟩) hb).trans c2
      have d3 := (hbw.cell (p := ⟨b', o + k * 4 + 3, none⟩) hb).trans c3
      have hA7 : Below wr.heap.size wr (wr.alloc (.cells #[.int .i64 sv, .int .i64 scd, .slice yA yn yc, .slice yB ym yd] 47)) := (Below.refl _ _).alloc (Nat.le_refl _) _
      have hK7 := KB.new wr 47 #[.int .i64 sv, .int .i64 scd, .slice yA yn yc, .slice yB ym yd]
      have hb7 := hbw.trans (hA7.mono hbw.size)
      have hr0 := r0.below hb7
      have hr1 := r1.below hb7
      have hki : (k : Int) < (m : Int) := by omega
      have HS := Lib.hid hs
      clear hA7 hbw c0 c1 c2 c3 r0 r1 hs
      go_upto_region 4 with (fail)
      generalize hq7 : wr.alloc (.cells #[.int .i64 sv, .int .i64 scd, .slice yA yn yc, .slice yB ym yd] 47) = w7 at *
      generalize wr.heap.size = Q at *
      have v2 := hK7.cell 2
      have v3 := hK7.cell 3
      simp at v2 v3
      have hFm := frmd_any yA yB yn yc ym yd xs ys w7 hr0 hr1
      obtain ⟨r, hr⟩ : ∃ r, frB xs ys = r := ⟨_, rfl⟩
      rw [hr] at hFm
      have HR := Lib.hid hr
      have HB7 := Lib.hid hb7
      clear hr hr0 hr1 hK7 hb7
      go_wp2_with fail
      refine hFm.mono ?_
      rintro e w8 ⟨rfl, hb8⟩
      have HB8 := Lib.hid (HB7.out.trans (hb8.mono HB7.out.size))
      clear hFm hb8 v2 v3
      cases r with
      | false =>
        go_wp2
        go_ret2
        refine ⟨fun hall => ?_, fun _ => ⟨rfl, HB8.out⟩⟩
        have := hall _ (List.mem_of_getElem? HS.out)
        rw [show Wh.ok _ = frB xs ys from rfl, HR.out] at this
        cases this
      | true =>
        go_wp2
        go_roundw
        case rel => exact ⟨k + 1, by omega, by go_num, fun j s hj hs => by
          rcases Nat.lt_or_ge j k with h1 | h1
          · exact HN.out j s h1 hs
          · obtain rfl : j = k := by omega
            rw [HS.out] at hs
            injection hs with hs
            subst hs
            exact HR.out, HB8.out⟩
        case measure => simp [intOf]; omega
    · obtain rfl : k = m := by omega
      have hall : ∀ s ∈ l, s.ok = true := fun s hs => by
        obtain ⟨j, hj, rfl⟩ := List.mem_iff_getElem.1 hs
        exact HN.out j _ (by rw [hlen.out] at hj; omega) (List.getElem?_eq_getElem hj)
      have hQ := HQ.out hall
      have hSUP := fun mm W (g : Hr W B k d l) => support_any mm B k d a b N l W g hQ
      have HSUP := Lib.hid hSUP
      have HALL := Lib.hid hall
      have HBW := Lib.hid hbw
      have hsz := hbw.size
      clear HQ hQ hSUP hall HN hbw
      go_wp2_with fail
      go_loopg [8, 26] n (fun g9 rv tv wy => ∃ (i : Nat) (SA : Option Addr) (sc : Nat) (fs : List (Fp × Rat)), g9 = n - i ∧ i ≤ n ∧ tv = .int .i64 (i : Int) ∧ rv = .slice SA fs.length sc ∧ fs.length = i ∧ fs.map Prod.snd = (ms.take i).map (fun mm => sumR (givQ mm l)) ∧ FsIn 38 wy w.heap.size (.slice SA fs.length sc) fs ∧ Below w.heap.size w wy)
      case atStart => exact ⟨0, none, 0, [], by omega, by omega, rfl, rfl, rfl, rfl, FsIn.nil _ _ _, HBW.out⟩
      case round =>
        obtain ⟨i, SA, sc, fs, hg9, hi, rfl, rfl, hfl, hfm, hfs, hbw⟩ := hrel
        by_cases hlt2 : i < n
        · obtain ⟨b2, o2, rfl, hb2, hc2⟩ := HM.out.at_ (by omega)
          have e0 := (hbw.cell (p := ⟨b2, o2 + i, none⟩) hb2).trans (hc2 i hlt2)
          have htk : (ms.take (i + 1)).map (fun mm => sumR (givQ mm l)) = (ms.take i).map (fun mm => sumR (givQ mm l)) ++ [sumR (givQ (zl ms i) l)] := by
            have hil : i < ms.length := by rw [hlenm.out]; exact hlt2
            rw [List.take_add_one, List.getElem?_eq_getElem hil, List.map_append, zl_get ms i hil]
            rfl
          generalize zl ms i = mm at *
          have HTK := Lib.hid htk
          have hS := HSUP.out mm wr (HIN.out.below hbw (Nat.le_refl _))
          have HFS := Lib.hid (And.intro hfs (And.intro hfl hfm))
          have HBW2 := Lib.hid hbw
          have hii : (i : Int) < (n : Int) := by omega
          have hfn : fs.length ≤ n := by omega
          clear hc2 htk hfs hfm hbw hfl
          go_wp2_with fail
          refine hS.mono ?_
          rintro e w8 ⟨⟨A8, n8, c8, B8, m8, d8⟩, rfl, hf8, hb8⟩
          unfold Fp.val
          dsimp only
          have hA9 : Below w8.heap.size w8 (w8.alloc (.cells #[.slice A8 n8 c8, .slice B8 m8 d8] 38)) := (Below.refl _ _).alloc (Nat.le_refl _) _
          have hK9 := KB.new w8 38 #[.slice A8 n8 c8, .slice B8 m8 d8]
          have HB9 := Lib.hid (hb8.trans (hA9.mono hb8.size))
          have HF9 := Lib.hid (hf8.below hA9)
          clear hA9 hb8 hf8
          go_upto_region 14 with (fail)
          generalize hq9 : w8.alloc (.cells #[.slice A8 n8 c8, .slice B8 m8 d8] 38) = w9 at *
          generalize w8.heap.size = Q at *
          have v0 := hK9.cell 0
          have v1 := hK9.cell 1
          simp at v0 v1
          have hA10 : Below w9.heap.size w9 (w9.alloc (.cells #[.slice A8 n8 c8, .slice B8 m8 d8] 38)) := (Below.refl _ _).alloc (Nat.le_refl _) _
          have HSR := Lib.hid (Sr.new (sz := 2) w9 38 #[.slice A8 n8 c8, .slice B8 m8 d8] rfl)
          have HB10 := Lib.hid (HB9.out.trans (hA10.mono HB9.out.size))
          have HF10 := Lib.hid (HF9.out.below hA10)
          have HG10 := Lib.hid (HFS.out.1.below HB10.out)
          have hww := HBW2.out.size
          clear hA10 hK9
          go_wp2_with (at_builtin; (refine wpList_appT 2 48 _ 38 rfl (.tmp 39) (.tmp 41) 59 rfl w.heap.size Tryz.underlying59 rtInfo rfl (by decide) (.slice SA fs.length sc) ⟨w9.heap.size, 0, none⟩ fs.length 1 (fpC fs) [.slice A8 n8 c8, .slice B8 m8 d8] (by simp [Act.eval]) (by simp [Act.eval]) HG10.out.row HSR.out (by simp [Value.oneCell']) (by unfold maxLen; omega) (by omega) (Nat.le_trans hww HB10.out.size) ?_); intro A1 c1 w11 o1 t1 h5)
          have hp := HFS.out.1.pr_lo (lo := wr.heap.size) (f := ⟨A8, n8, c8, B8, m8, d8⟩) HF10.out.lo (Nat.le_refl _)
          have hPu := HG10.out.push ⟨A8, n8, c8, B8, m8, d8⟩ _ HF10.out.rx hp.1 hp.2 o1 t1 h5
          have hbF : Below w.heap.size w w11 := (HBW2.out.trans (HB10.out.mono hww)).trans (t1.below (Nat.le_trans hww HB10.out.size) (fun x hx => (HG10.out.row.lt _ hx).1))
          have HN := Lib.hid (And.intro hPu hbF)
          clear o1 t1 h5 hp hPu hbF v0 v1
          go_roundg (n - (i + 1))
          case measure => omega
          case rel => exact ⟨i + 1, A1, c1, fs ++ [(⟨A8, n8, c8, B8, m8, d8⟩, _)], rfl, by omega, by go_num, by rw [List.length_append]; rfl, by rw [List.length_append, HFS.out.2.1]; rfl, by rw [List.map_append, HFS.out.2.2, HTK.out]; rfl, by rw [List.length_append]; exact HN.out.1, HN.out.2⟩
        · obtain rfl : i = n := by omega
          rw [List.take_of_length_le (by rw [hlenm.out]; exact Nat.le_refl _)] at hfm
          have HF : SupTo 38 w ms l (.returned (.tuple #[.slice SA fs.length sc, .int .i64 0])) wr := by
            refine ⟨fun _ => ⟨SA, sc, fs, rfl, hfm, hfs, hbw⟩, fun ⟨s, hs, e⟩ => ?_⟩
            rw [HALL.out s hs] at e
            cases e
          have HFF := Lib.hid HF
          clear HF hfm hfs hbw
          go_wp2
          go_ret2
          exact HFF.out
end Go.Proofs.YtehekjlakegkpaaGreat
end
section
namespace Go.Proofs.YtehekjlakegkpaaGreat
open Go.RowKit
set_option linter.unusedVariables false

/-- Each number is greater than the one before, from 0 to 2^31 - 1. -/
def RisI (zs : List Int) : Prop := ∀ j, j < zs.length → prv zs j < zl zs j ∧ zl zs j ≤ 2147483647
instance (zs : List Int) : Decidable (RisI zs) := by unfold RisI; infer_instance
theorem asc_iff (most : Int) (zs : List Int) : Asc most zs ↔ (zs.length : Int) ≤ most ∧ RisI zs := Iff.rfl
theorem RisI.ge {zs : List Int} (h : RisI zs) {j : Nat} (hj : j < zs.length) : 0 ≤ zl zs j :=
  Asc.ge (most := (zs.length : Int)) ⟨Int.le_refl _, h⟩ j hj
theorem belN (w : World) (k : Nat) : Below w.heap.size w (w.drewN k) := by
  induction k with
  | zero => exact Below.refl _ _
  | succ k ih => exact ih.drew
theorem belNN (w : World) (q k : Nat) : Below w.heap.size w ((w.drewN q).drewN k) := by
  rw [World.drewN_drewN]; exact belN w _
set_option maxHeartbeats 1600000 in
theorem risI_any (A : Option Addr) (n c : Nat) (zs : List Int) (w : World) (h : Ri w A n c zs) :
    Calls Tryz.prog 37 #[.slice A n c] w (OutF w (decide (RisI zs))) := by
  have HL := Lib.hid h.len
  have hcap := h.cap
  have hmax := h.max
  obtain ⟨r, hr⟩ : ∃ r, decide (RisI zs) = r := ⟨_, rfl⟩
  rw [hr]
  have HR := Lib.hid hr
  clear hr
  go_enter Tryz.func37, Tryz.ntmps37
  go_wp2_with fail
  go_loopw [6] (fun tv wr => ∃ k q : Nat, k ≤ n ∧ tv = .int .i64 (k : Int) ∧ wr = w.drewN q ∧ ∀ j, j < k → prv zs j < zl zs j ∧ zl zs j ≤ 2147483647) (fun tv _ => n - (intOf tv).toNat)
  case atStart => exact ⟨0, 0, by omega, rfl, rfl, fun j hj => by omega⟩
  case round =>
    obtain ⟨k, q, hk, rfl, rfl, hup⟩ := hrel
    have HU := Lib.hid hup
    clear hup
    by_cases hlt : k < n
    · obtain ⟨b, o, rfl, hb, hc⟩ := h.at_ (by omega)
      have HRI := Lib.hid (fun (hf : ¬ (prv zs k < zl zs k ∧ zl zs k ≤ 2147483647)) (hris : RisI zs) => hf (hris k (by rw [HL.out]; exact hlt)))
      have HGE := Lib.hid (fun (hris : RisI zs) => hris.ge (j := k) (by rw [HL.out]; exact hlt))
      rcases Nat.eq_zero_or_pos k with h0 | h0
      · subst h0
        have hc2 := hc 0 hlt
        simp only [Nat.add_zero] at hc2
        clear hc
        obtain ⟨y, hy⟩ : ∃ y, zl zs 0 = y := ⟨_, rfl⟩
        rw [hy] at hc2
        have HY := Lib.hid hy
        clear hy
        by_cases hn : y < 0
        · have e1 : decide (y < 0) = true := by simp; omega
          go_wp2_with fail
          go_quiet (fail)
          go_wp2
          go_ret
          refine ⟨?_, by first | exact belN w _ | exact belNN w _ _⟩
          rw [← HR.out, decide_eq_false (fun hris => by have := HGE.out hris; rw [HY.out] at this; omega)]
          rfl
        · have e1 : decide (y < 0) = false := by simp; omega
          by_cases hg : 2147483647 < y
          · have e2 : decide (2147483647 < y) = true := by simp; omega
            go_wp2_with fail
            go_quiet (fail)
            go_wp2
            go_ret
            refine ⟨?_, by first | exact belN w _ | exact belNN w _ _⟩
            rw [← HR.out, decide_eq_false (HRI.out (fun h1 => by have := h1.2; rw [HY.out] at this; omega))]
            rfl
          · have e2 : decide (2147483647 < y) = false := by simp; omega
            go_wp2_with fail
            go_quiet (fail)
            go_wp2
            go_roundw
            case rel => exact ⟨1, _, by omega, by go_num, rfl, fun j hj => by
              obtain rfl : j = 0 := by omega
              rw [HY.out]
              exact ⟨by show -1 < y; omega, by omega⟩⟩
            case measure => simp [intOf]; omega
      · obtain ⟨m, rfl⟩ : ∃ m, k = m + 1 := ⟨k - 1, by omega⟩
        have hc1 := hc m (by omega)
        have hc2 := hc (m + 1) hlt
        have hm0 : decide (0 < (m : Int) + 1) = true := by simp <;> omega
        have hpm : 0 ≤ zl zs m := by
          have : RisI (zs.take (m + 1)) := fun j hj => by
            rw [List.length_take] at hj
            have h1 : zl (zs.take (m + 1)) j = zl zs j := by unfold zl; rw [List.getD_eq_getElem?_getD, List.getD_eq_getElem?_getD, List.getElem?_take_of_lt (by omega)]
            have h2 : prv (zs.take (m + 1)) j = prv zs j := by
              unfold prv
              by_cases e : j = 0
              · rw [if_pos e, if_pos e]
              · rw [if_neg e, if_neg e]; unfold zl; rw [List.getD_eq_getElem?_getD, List.getD_eq_getElem?_getD, List.getElem?_take_of_lt (by omega)]
            rw [h1, h2]
            exact HU.out j (by omega)
          have h3 := this.ge (j := m) (by rw [List.length_take, HL.out]; omega)
          have h1 : zl (zs.take (m + 1)) m = zl zs m := by unfold zl; rw [List.getD_eq_getElem?_getD, List.getD_eq_getElem?_getD, List.getElem?_take_of_lt (by omega)]
          omega
        clear hc
        rw [prv_succ] at HRI
        obtain ⟨x, hx⟩ : ∃ x, zl zs m = x := ⟨_, rfl⟩
        obtain ⟨y, hy⟩ : ∃ y, zl zs (m + 1) = y := ⟨_, rfl⟩
        rw [hx] at hc1 hpm HRI
        rw [hy] at hc2 HRI
        have HX := Lib.hid hx
        have HY := Lib.hid hy
        clear hx hy
        by_cases hn : y < 0
        · have e1 : decide (y < 0) = true := by simp; omega
          go_wp2_with fail
          go_quiet (fail)
          go_wp2
          go_ret
          refine ⟨?_, by first | exact belN w _ | exact belNN w _ _⟩
          rw [← HR.out, decide_eq_false (HRI.out (fun h1 => by omega))]
          rfl
        · have e1 : decide (y < 0) = false := by simp; omega
          by_cases hg : 2147483647 < y
          · have e2 : decide (2147483647 < y) = true := by simp; omega
            go_wp2_with fail
            go_quiet (fail)
            go_wp2
            go_ret
            refine ⟨?_, by first | exact belN w _ | exact belNN w _ _⟩
            rw [← HR.out, decide_eq_false (HRI.out (fun h1 => by omega))]
            rfl
          · have e2 : decide (2147483647 < y) = false := by simp; omega
            by_cases hxy : y ≤ x
            · have e3 : decide (y ≤ x) = true := by simp; omega
              go_wp2_with fail
              go_quiet (fail)
              go_wp2
              go_ret
              refine ⟨?_, by first | exact belN w _ | exact belNN w _ _⟩
              rw [← HR.out, decide_eq_false (HRI.out (fun h1 => by omega))]
              rfl
            · have e3 : decide (y ≤ x) = false := by simp; omega
              go_wp2_with fail
              go_quiet (fail)
              go_wp2
              go_roundw
              case rel => exact ⟨m + 2, _, by omega, by go_num, rfl, fun j hj => by
                rcases Nat.lt_or_ge j (m + 1) with h1 | h1
                · exact HU.out j h1
                · obtain rfl : j = m + 1 := by omega
                  rw [prv_succ, HX.out, HY.out]; omega⟩
              case measure => simp [intOf]; omega
    · go_wp2
      go_ret
      refine ⟨?_, by first | exact belN w _ | exact belNN w _ _⟩
      rw [← HR.out, decide_eq_true (show RisI zs from fun j hj => HU.out j (by rw [HL.out] at hj; omega))]
      rfl

set_option maxHeartbeats 3200000 in
theorem rsnap_any (s : Sn) (w : World) (h : s.In w) : Calls Tryz.prog 12 #[s.val] w (OutF w (decide (Fd s.vs s.cs))) := by
  obtain ⟨A, n, c, B, m, d, vs, cs⟩ := s
  obtain ⟨r, hr⟩ : ∃ r, decide (Fd vs cs) = r := ⟨_, rfl⟩
  unfold Sn.val
  dsimp only
  rw [hr]
  have HRR := Lib.hid hr
  obtain ⟨hv, hc⟩ := h
  dsimp only at hv hc
  have HL := Lib.hid hv.len
  have HLC := Lib.hid hc.len
  have HV := Lib.hid hv
  have HC := Lib.hid hc
  have hcap := hv.cap
  have hmax := hv.max
  have hcap2 := hc.cap
  have hmax2 := hc.max
  have hb1 : Below w.heap.size w (w.alloc (.cells #[.slice A n c, .slice B m d] 25)) := (Below.refl _ _).alloc (Nat.le_refl _) _
  have hk1 := KB.new w 25 #[.slice A n c, .slice B m d]
  have HB1 := Lib.hid hb1
  have HK1 := Lib.hid hk1
  have hri1 := risI_any B m d cs _ (hc.below hb1 (Nat.le_refl _))
  have HRI1 := Lib.hid hri1
  have hNo := fun (hF : ¬ Fd vs cs) => (show (.returned (.bool false) : Ending) = .returned (.bool r) by rw [← hr, decide_eq_false hF])
  have HNO := Lib.hid hNo
  clear hv hc hr hb1 hk1 hri1 hNo
  go_enter Tryz.func12, Tryz.ntmps12
  go_upto_region 1 with (fail)
  generalize (w.alloc (.cells #[.slice A n c, .slice B m d] 25)) = w1 at *
  have x0 := HK1.out.cell 0
  have x1 := HK1.out.cell 1
  simp at x0 x1
  by_cases h32 : (32 : Int) < (n : Int)
  · go_wp2
    go_ret
    exact ⟨HNO.out (fun hf => by have := hf.1; have := HL.out; omega), HB1.out⟩
  by_cases hm32 : (32 : Int) < (m : Int)
  · go_wp2
    go_ret
    exact ⟨HNO.out (fun hf => by have := hf.2.1.1; have := HLC.out; omega), HB1.out⟩
  go_wp2_with fail
  refine HRI1.out.mono ?_
  rintro e w2 ⟨rfl, hb2⟩
  have hb02 := HB1.out.trans (hb2.mono HB1.out.size)
  have hk2 := HK1.out.below hb2 HK1.out.lt
  have HB2 := Lib.hid hb02
  have HK2 := Lib.hid hk2
  clear x0 x1 HRI1 hb2 hb02 hk2
  have x0 := HK2.out.cell 0
  have x1 := HK2.out.cell 1
  simp at x0 x1
  by_cases hca : RisI cs
  case neg =>
    rw [decide_eq_false hca]
    go_wp2
    go_ret
    exact ⟨HNO.out (fun hf => hca hf.2.1.2), HB2.out⟩
  rw [decide_eq_true hca]
  have hgl := HK2.out.lt
  go_wp2_with fail
  go_loopg [3, 28] n (fun g9 rv tv wr => ∃ (k : Nat) (A' : Option Addr) (c' : Nat), g9 = n - k ∧ k ≤ n ∧ tv = .int .i64 (k : Int) ∧ rv = .slice A' k c' ∧ KB wr w.heap.size 25 #[.slice A n c, .slice B m d] ∧ (∀ v ∈ vs.take k, (0 ≤ v.id ∧ v.id ≤ 2147483647) ∧ Asc 8 v.ps) ∧ (idl (vs.take k)).Nodup ∧ Owk .u64 41 wr (w.heap.size + 1) A' k c' (stk (vs.take k)) ∧ Below w.heap.size w wr)
  case atStart => exact ⟨0, none, 0, by omega, by omega, rfl, rfl, HK2.out, fun v hv => by simp at hv, by simp [idl], World.ownsRow_nil _ _ _ _, HB2.out⟩
  case round =>
    obtain ⟨k, A', c', hg9, hk, rfl, rfl, hkb, hall, hnd, hO, hb⟩ := hrel
    have HA := Lib.hid (And.intro hall hnd)
    have HO := Lib.hid hO
    have HKB := Lib.hid hkb
    have HB := Lib.hid hb
    have hsz := hkb.lt
    have x0 := hkb.cell 0
    have x1 := hkb.cell 1
    simp at x0 x1
    clear hall hnd hO
    by_cases hlt : k < n
    · obtain ⟨b, o, v, rfl, hbb, hve, ok, ri, c0, c1, c2⟩ := HV.out.at_ hlt
      have d0 := (hb.cell (p := ⟨b, o + k * 3, none⟩) hbb).trans c0
      have d1 := (hb.cell (p := ⟨b, o + k * 3 + 1, none⟩) hbb).trans c1
      have d2 := (hb.cell (p := ⟨b, o + k * 3 + 2, none⟩) hbb).trans c2
      have hst := ok.1
      have hcp := ri.cap
      have hmp := ri.max
      have hA7 : Below wr.heap.size wr (wr.alloc (.cells #[.int .i64 v.id, .int .u64 (v.st : Int), .slice v.a v.n v.c] 43)) := (Below.refl _ _).alloc (Nat.le_refl _) _
      have hb7 := hb.trans (hA7.mono hb.size)
      have HRI := Lib.hid (risI_any v.a v.n v.c v.ps _ (ri.below hb7 (Nat.le_refl _)))
      have HB7 := Lib.hid hb7
      have HK7 := Lib.hid (hkb.below hA7 hsz)
      have HO7 := Lib.hid (own_below HO.out hA7 (fun g e => (HO.out.lt _ e).2))
      have HY7 := Lib.hid (KB.new wr 43 #[.int .i64 v.id, .int .u64 (v.st : Int), .slice v.a v.n v.c])
      have HS := Lib.hid (And.intro hve ri.len)
      have hki : (k : Int) < (n : Int) := by omega
      clear c0 c1 c2 ok ri hve hb hkb hA7 hb7 HB HKB HO
      obtain ⟨vi, vst, va, vn, vc, vp⟩ := v
      dsimp only at *
      have hvF : ∀ (P : Vr → Prop), ¬ P ⟨vi, vst, va, vn, vc, vp⟩ → (Fd vs cs → ∀ v ∈ vs, P v) → ¬ Fd vs cs := fun P hp hq hf => hp (hq hf _ (List.mem_of_getElem? HS.out.1))
      have HVF := Lib.hid hvF
      clear hvF
      go_upto_region 8 with (fail)
      generalize (wr.alloc (.cells #[.int .i64 vi, .int .u64 (vst : Int), .slice va vn vc] 43)) = w7 at *
      generalize hQ : wr.heap.size = Q at *
      have y0 := HY7.out.cell 0
      have y1 := HY7.out.cell 1
      have y2 := HY7.out.cell 2
      simp at y0 y1 y2
      clear x0 x1 d0 d1 d2
      by_cases h1 : vi < 0
      · go_wp2
        go_ret
        exact ⟨HNO.out (HVF.out (fun v => 0 ≤ v.id) (by dsimp only; omega) (fun hf v hv => (hf.2.2.2.2.1 v hv).1)), HB7.out⟩
      by_cases h2 : 2147483647 < vi
      · go_wp2
        go_ret
        exact ⟨HNO.out (HVF.out (fun v => v.id ≤ 2147483647) (by dsimp only; omega) (fun hf v hv => (hf.2.2.2.2.1 v hv).2)), HB7.out⟩
      by_cases h3 : (8 : Int) < (vn : Int)
      · go_wp2
        go_ret
        exact ⟨HNO.out (HVF.out (fun v => (v.ps.length : Int) ≤ 8) (by dsimp only; rw [HS.out.2]; omega) (fun hf v hv => (hf.2.2.1 v hv).1)), HB7.out⟩
      go_wp2_with fail
      refine HRI.out.mono ?_
      rintro e w8 ⟨rfl, hb8⟩
      have HB8 := Lib.hid (HB7.out.trans (hb8.mono HB7.out.size))
      have HK8 := Lib.hid (HK7.out.below hb8 HK7.out.lt)
      have HY8 := Lib.hid (HY7.out.below hb8 HY7.out.lt)
      have HO8 := Lib.hid (own_below HO7.out hb8 (fun g e => (HO7.out.lt _ e).2))
      clear hb8 HRI HB7 HK7 HY7 HO7 y0 y1 y2
      by_cases h4 : RisI vp
      case neg =>
        rw [decide_eq_false h4]
        go_wp2
        go_ret
        exact ⟨HNO.out (HVF.out (fun v => RisI v.ps) h4 (fun hf v hv => (hf.2.2.1 v hv).2)), HB8.out⟩
      rw [decide_eq_true h4]
      go_wp2_with fail
      go_loopw [57] (fun tw wz => ∃ (j q : Nat), j ≤ k ∧ tw = .int .i64 (j : Int) ∧ wz = w8.drewN q ∧ ∀ i u, i < j → vs[i]? = some u → u.id ≠ vi) (fun tw _ => k - (intOf tw).toNat)
      case atStart => exact ⟨0, 0, by omega, rfl, rfl, fun i u hi => by omega⟩
      case round =>
        obtain ⟨j, q, hj, rfl, rfl, hno⟩ := hrel
        have HN := Lib.hid hno
        clear hno
        have x0 := HK8.out.cell 0
        have y0 := HY8.out.cell 0
        have y1 := HY8.out.cell 1
        simp at x0 y0 y1
        by_cases hlt3 : j < k
        · obtain ⟨b', o', u, eA, hbb', hve', _, _, c0, _, _⟩ := HV.out.at_ (show j < n by omega)
          injection eA with eA
          injection eA with eA1 eA2
          subst eA1 eA2
          have d0 := (HB8.out.cell (p := ⟨b, o + j * 3, none⟩) hbb').trans c0
          have HS' := Lib.hid hve'
          clear c0 hve'
          by_cases he : u.id = vi
          · have e1 : decide (u.id = vi) = true := by simp; omega
            have hF : ¬ Fd vs cs := fun hf => by
              have hnd := hf.2.2.2.2.2
              have hp := List.pairwise_iff_getElem.1 hnd
              have hi1 := (List.getElem?_eq_some_iff.1 HS'.out).1
              have hi2 := (List.getElem?_eq_some_iff.1 HS.out.1).1
              have := hp j k (by rw [idl_len]; exact hi1) (by rw [idl_len]; exact hi2) hlt3
              unfold idl at this
              rw [List.getElem_map, List.getElem_map] at this
              have g1 := (List.getElem?_eq_some_iff.1 HS'.out).2
              have g2 := (List.getElem?_eq_some_iff.1 HS.out.1).2
              rw [g1, g2] at this
              exact this he
            go_wp2_with fail
            go_quiet (fail)
            go_wp2
            go_ret
            exact ⟨HNO.out hF, by first | exact HB8.out.trans ((belNN w8 _ _).mono HB8.out.size) | exact HB8.out.trans ((belN w8 _).mono HB8.out.size)⟩
          · have e1 : decide (u.id = vi) = false := by simp; omega
            have e2 : (u.id == vi) = false := by simp; omega
            go_wp2_with fail
            go_quiet (fail)
            go_wp2
            go_roundw
            case rel => exact ⟨j + 1, _, by omega, by go_num, by first | rfl | exact World.drewN_drewN .., fun i t hi ht => by
              rcases Nat.lt_or_ge i j with h5 | h5
              · exact HN.out i t h5 ht
              · obtain rfl : i = j := by omega
                rw [HS'.out] at ht
                injection ht with ht
                subst ht
                exact he⟩
            case measure => simp [intOf]; omega
        · obtain rfl : j = k := by omega
          have hb9 : Below w8.heap.size w8 (w8.drewN q) := belN w8 q
          have hO9 : Owk .u64 41 (w8.drewN q) (w.heap.size + 1) A' j c' (stk (vs.take j)) := own_below HO8.out hb9 (fun g e => (HO8.out.lt _ e).2)
          have hK9 := HK8.out.below hb9 HK8.out.lt
          have HB9 := Lib.hid (HB8.out.trans (hb9.mono HB8.out.size))
          have y1' : (w8.drewN q).cell? ⟨Q, 1, none⟩ = some (.int .u64 (vst : Int)) := y1
          generalize (w8.drewN q) = w9 at *
          have htk : vs.take (j + 1) = vs.take j ++ [⟨vi, vst, va, vn, vc, vp⟩] := by rw [List.take_add_one, HS.out.1]; rfl
          have HAA := Lib.hid (show (∀ v ∈ vs.take (j + 1), (0 ≤ v.id ∧ v.id ≤ 2147483647) ∧ Asc 8 v.ps) ∧ (idl (vs.take (j + 1))).Nodup from by
            rw [htk]
            refine ⟨fun v hv => ?_, ?_⟩
            · rcases List.mem_append.1 hv with hv | hv
              · exact HA.out.1 v hv
              · obtain rfl := List.mem_singleton.1 hv
                exact ⟨⟨by dsimp only; omega, by dsimp only; omega⟩, ⟨by dsimp only; rw [HS.out.2]; omega, h4⟩⟩
            · unfold idl
              rw [List.map_append, List.nodup_append]
              refine ⟨HA.out.2, by simp, fun x hx y hy => ?_⟩
              obtain rfl : y = vi := by simpa using hy
              obtain ⟨u, hu, rfl⟩ := List.mem_map.1 hx
              obtain ⟨i, hi, hiu⟩ := List.mem_iff_getElem.1 hu
              rw [List.length_take] at hi
              rw [List.getElem_take] at hiu
              exact HN.out i u (by omega) (by rw [List.getElem?_eq_getElem (by omega), hiu]))
          have HST := Lib.hid (show stk (vs.take (j + 1)) = stk (vs.take j) ++ [vst] by rw [htk]; simp [stk])
          have hww := HB9.out.size
          clear x0 y0 y1 HN HA htk
          have hK9l := hK9.lt
          go_wp2_with (at_builtin; refine wpList_appk _ .u64 41 8 rfl (.tmp 70) (.tmp 73) 90 rfl (w.heap.size + 1) Tryz.underlying90 infoQ' _ _ _ _ 1 1 (stk (vs.take j)) [vst] rfl rfl (hO9.alloc _) (rk_one _ _ _ _ _ (by omega)) (by unfold maxLen; omega) (by omega) (by simp; omega) ?_; intro A1 c1 w10 hO1 hb10)
          have HKF := Lib.hid ((hK9.alloc _).below hb10 (by show w.heap.size < w.heap.size + 1; omega))
          have HBF := Lib.hid ((HB9.out.alloc HB9.out.size _).trans (hb10.mono (by omega)))
          go_roundg (n - (j + 1))
          case measure => omega
          case rel => exact ⟨j + 1, A1, c1, rfl, by omega, by go_num, rfl, HKF.out, HAA.out.1, HAA.out.2, by rw [HST.out]; exact hO1, HBF.out⟩
    · obtain rfl : k = n := by omega
      have htk : vs.take k = vs := List.take_of_length_le (by rw [HL.out]; exact Nat.le_refl _)
      rw [htk] at HA HO
      have hsum := xsum_any A' k c' (stk vs) wr HO.out.rk (stk_bl HV.out)
      by_cases ht : tot (stk vs) < 18446744073709551616
      · rw [show sumM (stk vs) = (tot (stk vs), 0) from if_pos ht] at hsum
        have hfd : Fd vs cs := ⟨by have := HL.out; omega, ⟨by have := HLC.out; omega, hca⟩, fun v hv => (HA.out.1 v hv).2, ht, fun v hv => (HA.out.1 v hv).1, HA.out.2⟩
        have HRT := Lib.hid (show r = true by rw [← HRR.out, decide_eq_true hfd])
        generalize tot (stk vs) = T at hsum
        clear hb hkb x0 x1
        go_wp2_with fail
        refine hsum.mono ?_
        rintro e w3 ⟨rfl, rfl⟩
        go_wp2
        go_ret
        exact ⟨by rw [HRT.out]; rfl, HB.out⟩
      · rw [show sumM (stk vs) = (0, 3) from if_neg ht] at hsum
        have HRT := Lib.hid (show r = false by rw [← HRR.out, decide_eq_false (fun hf => ht hf.2.2.2.1)])
        clear hb hkb x0 x1
        go_wp2_with fail
        refine hsum.mono ?_
        rintro e w3 ⟨rfl, rfl⟩
        go_wp2
        go_ret
        exact ⟨by rw [HRT.out]; rfl, HB.out⟩
end Go.Proofs.YtehekjlakegkpaaGreat
end
