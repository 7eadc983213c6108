/-
  The reference's picks, Approvers, Supported, Seats, Total and Approves. For every snapshot that can be read.
  The reference's Supported, Seats, Total and Approves. For every snapshot that can be read.
-/
import Derived.Test.YtehekjlakegkpaaGreatX29
import Derived.Test.YtehekjlakegkpaaGreatX26
section
namespace Go.Proofs.YtehekjlakegkpaaGreat
open Go.RowKit
set_option linter.unusedVariables false

/-- A voter approves a candidate, as the reference reckons it. -/
def pkB (cs : List Int) (v : Vr) (x : Int) : Bool := decide (0 < v.st ∧ x ∈ cs ∧ x ∈ v.ps)
theorem pkB_apv {cs : List Int} {v : Vr} {x : Int} (hx : x ∈ cs) : pkB cs v x = apv v x := by
  unfold pkB apv
  simp [hx]
  try rfl
set_option maxHeartbeats 1600000 in
theorem picks_any (s : Sn) (v : Vr) (x : Int) (w : World) (h : s.In w) (hv : Ri w v.a v.n v.c v.ps) :
    Calls Tryz.prog 54 #[s.val, v.val, .int .i64 x] w (OutF w (pkB s.cs v x)) := by
  obtain ⟨A, n, c, B, m, d, vs, cs⟩ := s
  obtain ⟨vi, vst, va, vn, vc, vp⟩ := v
  obtain ⟨r, hr⟩ : ∃ r, pkB cs ⟨vi, vst, va, vn, vc, vp⟩ x = r := ⟨_, rfl⟩
  unfold Sn.val Vr.val
  dsimp only at hv ⊢
  rw [hr]
  have HRR := Lib.hid hr
  have hc := h.2
  dsimp only at hc
  obtain ⟨hk1, hk2, hb0, hs0⟩ := boxK2 w 25 43 #[.slice A n c, .slice B m d] #[.int .i64 vi, .int .u64 (vst : Int), .slice va vn vc]
  have hH1 := rhas_any B m d cs x _ (hc.below hb0 (Nat.le_refl _))
  have hH2 := rhas_any va vn vc vp x _ (hv.below hb0 (Nat.le_refl _))
  have HB := Lib.hid hb0
  clear hr h hc hv hb0 hs0
  go_enter Tryz.func54, Tryz.ntmps54
  go_upto_region 1 with (fail)
  generalize ((w.alloc (.cells #[.slice A n c, .slice B m d] 25)).alloc (.cells #[.int .i64 vi, .int .u64 (vst : Int), .slice va vn vc] 43)) = W0 at *
  have x0 := hk1.cell 0
  have x1 := hk1.cell 1
  have y1 := hk2.cell 1
  have y2 := hk2.cell 2
  simp at x0 x1 y1 y2
  by_cases h0 : 0 < vst
  · have h0' : (0 : Int) < (vst : Int) := by omega
    by_cases h1 : x ∈ cs
    · rw [decide_eq_true h1] at hH1
      obtain ⟨q, hq⟩ : ∃ q, decide (x ∈ vp) = q := ⟨_, rfl⟩
      rw [hq] at hH2
      have HQ := Lib.hid (show q = r by rw [← hq, ← HRR.out]; unfold pkB; simp [h0, h1])
      clear hq
      go_wp2_with fail
      refine hH1.mono ?_
      rintro e w1 ⟨rfl, rfl⟩
      go_wp2_with fail
      refine hH2.mono ?_
      rintro e w1 ⟨rfl, rfl⟩
      go_wp2
      go_ret
      exact ⟨by rw [← HQ.out]; rfl, HB.out⟩
    · rw [decide_eq_false h1] at hH1
      have HQ := Lib.hid (show r = false by rw [← HRR.out]; unfold pkB; simp [h1])
      go_wp2_with fail
      refine hH1.mono ?_
      rintro e w1 ⟨rfl, rfl⟩
      go_wp2
      go_ret
      exact ⟨by rw [HQ.out]; rfl, HB.out⟩
  · have h0' : ¬ (0 : Int) < (vst : Int) := by omega
    have HQ := Lib.hid (show r = false by rw [← HRR.out]; unfold pkB; simp [h0])
    go_wp2
    go_ret
    exact ⟨by rw [HQ.out]; rfl, HB.out⟩
/-- A slice of this length is answered, and what was there is as it was. -/
def OutLn (w : World) (N : Nat) : Ending → World → Prop := fun e w' => ∃ (A : Option Addr) (c : Nat), e = .returned (.slice A N c) ∧ N ≤ c ∧ c ≤ 9223372036854775807 ∧ Below w.heap.size w w'
def apF (cs : List Int) (vs : List Vr) (x : Int) : List Vr := vs.filter fun v => pkB cs v x
theorem apF_take {cs : List Int} {vs : List Vr} {k : Nat} {v : Vr} (h : vs[k]? = some v) (x : Int) : (apF cs (vs.take (k + 1)) x).length = (apF cs (vs.take k) x).length + if pkB cs v x = true then 1 else 0 := by
  unfold apF
  rw [List.take_add_one, h, List.filter_append, List.length_append]
  congr 1
  show ([v].filter _).length = _
  by_cases e : pkB cs v x = true <;> simp [e]
theorem own_caps {w : World} {base sz n c : Nat} {T : TypeId} {A : Option Addr} {cs : List Value} (h : w.ownsRow base T sz (.slice A n c) n cs) : n ≤ c ∧ c ≤ 9223372036854775807 := by
  rcases own_forms h with ⟨e, hl, _⟩ | ⟨g, cap, e, _, hnc, hcm, _⟩
  · injection e with e1 e2 e3; subst e3; omega
  · injection e with e1 e2 e3; subst e3; unfold maxLen at hcm; exact ⟨hnc, hcm⟩
theorem infoI1 : (Tryz.prog.info? 3).map (fun i => (i.zero, i.size, i.bytes)) = some (some (.int .i64 0), 1, 8) := by kernel_rfl
set_option maxRecDepth 100000 in
set_option maxHeartbeats 3200000 in
theorem approvers10_any (s : Sn) (x : Int) (w : World) (h : s.In w) :
    Calls Tryz.prog 96 #[s.val, .int .i64 x] w (OutLn w (if Fd s.vs s.cs then (apF s.cs s.vs x).length else 0)) := by
  obtain ⟨A, n, c, B, m, d, vs, cs⟩ := s
  have HP := Lib.hid (fun v W g1 g2 => picks_any ⟨A, n, c, B, m, d, vs, cs⟩ v x W g1 g2)
  have HIN := Lib.hid h
  have HV := Lib.hid h.1
  have hb1 : Below w.heap.size w (w.alloc (.cells #[.slice A n c, .slice B m d] 25)) := (Below.refl _ _).alloc (Nat.le_refl _) _
  have hk1 := KB.new w 25 #[.slice A n c, .slice B m d]
  have hF := rsnap_any ⟨A, n, c, B, m, d, vs, cs⟩ _ (h.below hb1 (Nat.le_refl _))
  have HB1 := Lib.hid hb1
  have HK1 := Lib.hid hk1
  unfold Sn.val at HP hF ⊢
  dsimp only at HP HV hF ⊢
  have HL := Lib.hid HV.out.len
  have hcap := HV.out.cap
  have hmax := HV.out.max
  clear h hb1 hk1
  go_enter Tryz.func96, Tryz.ntmps96
  by_cases hfd : Fd vs cs
  case neg =>
    rw [decide_eq_false hfd] at hF
    rw [if_neg hfd]
    go_wp2_with fail
    refine hF.mono ?_
    rintro e w2 ⟨rfl, hb2⟩
    go_wp2
    go_ret
    exact ⟨none, 0, rfl, by omega, by omega, HB1.out.trans (hb2.mono HB1.out.size)⟩
  rw [decide_eq_true hfd] at hF
  rw [if_pos hfd]
  have hn32 : n ≤ 32 := by have := hfd.1; have := HL.out; omega
  go_wp2_with fail
  refine hF.mono ?_
  rintro e w2 ⟨rfl, hb2⟩
  have HB2 := Lib.hid (HB1.out.trans (hb2.mono HB1.out.size))
  have HK2 := Lib.hid (HK1.out.below hb2 HK1.out.lt)
  have x0 := HK2.out.cell 0
  have x1 := HK2.out.cell 1
  simp at x0 x1
  clear hb2 HB1 HK1 hF
  go_wp2_with fail
  clear x0 x1
  go_loopg [5, 13] n (fun g9 rv tv wr => ∃ (k : Nat) (SA : Option Addr) (sc : Nat) (xs : List Value), g9 = n - k ∧ k ≤ n ∧ tv = .int .i64 (k : Int) ∧ rv = .slice SA xs.length sc ∧ xs.length = (apF cs (vs.take k) x).length ∧ xs.length ≤ k ∧ wr.ownsRow (w.heap.size + 1) 3 1 (.slice SA xs.length sc) xs.length xs ∧ KB wr w.heap.size 25 #[.slice A n c, .slice B m d] ∧ Below w.heap.size w wr)
  case atStart => exact ⟨0, none, 0, [], by omega, by omega, rfl, rfl, rfl, by simp, World.ownsRow_nil _ _ _ _, HK2.out, HB2.out⟩
  case round =>
    obtain ⟨k, SA, sc, xs, hg9, hk, rfl, rfl, hxl, hxk, hown, hkb, hbw⟩ := hrel
    have HO := Lib.hid hown
    have HKB := Lib.hid hkb
    have HBW := Lib.hid hbw
    have HXL := Lib.hid hxl
    have hgl := hkb.lt
    have x0 := hkb.cell 0
    have x1 := hkb.cell 1
    simp at x0 x1
    clear hown hxl
    by_cases hlt : k < n
    · obtain ⟨b, o, v, rfl, hbb, hve, ok, ri, c0, c1, c2⟩ := HV.out.at_ hlt
      have HS := Lib.hid (apF_take (cs := cs) hve x)
      have hKF := fun W' (hb' : Below wr.heap.size wr W') => (⟨(hb'.cell (p := ⟨w.heap.size, 0, none⟩) hgl).trans x0, (hb'.cell (p := ⟨w.heap.size, 1, none⟩) hgl).trans x1, ((hbw.trans (hb'.mono hbw.size)).cell (p := ⟨b, o + k * 3, none⟩) hbb).trans c0, ((hbw.trans (hb'.mono hbw.size)).cell (p := ⟨b, o + k * 3 + 1, none⟩) hbb).trans c1, ((hbw.trans (hb'.mono hbw.size)).cell (p := ⟨b, o + k * 3 + 2, none⟩) hbb).trans c2⟩ : _ ∧ _ ∧ _ ∧ _ ∧ _)
      have HKF := Lib.hid hKF
      have hPk := fun W' (hb' : Below wr.heap.size wr W') => HP.out v W' (HIN.out.below (hbw.trans (hb'.mono hbw.size)) (Nat.le_refl _)) (ri.below (hbw.trans (hb'.mono hbw.size)) (Nat.le_refl _))
      obtain ⟨r, hr⟩ : ∃ r, pkB cs v x = r := ⟨_, rfl⟩
      rw [hr] at hPk HS
      have HPK := Lib.hid hPk
      obtain ⟨vi, vst, va, vn, vc, vp⟩ := v
      dsimp only at HKF HPK
      unfold Vr.val at HPK
      dsimp only at HPK
      have K0 := HKF.out wr (Below.refl _ _)
      have hki : (k : Int) < (n : Int) := by omega
      clear c0 c1 c2 hve ok ri hKF hPk hr hbw hkb
      go_upto_region 7 with (fail)
      go_region_held3 (fun W' => W'.cell? ⟨w.heap.size, 0, none⟩ = some (.slice (some ⟨b, o, none⟩) n c) ∧ W'.cell? ⟨w.heap.size, 1, none⟩ = some (.slice B m d) ∧ W'.cell? ⟨b, o + k * 3, none⟩ = some (.int .i64 vi) ∧ W'.cell? ⟨b, o + k * 3 + 1, none⟩ = some (.int .u64 (vst : Int)) ∧ W'.cell? ⟨b, o + k * 3 + 2, none⟩ = some (.slice va vn vc))
        (first | exact K0 | exact K1)
        (first | (go_at_call 54; go_loud (refine (HPK.out _ (Below.refl wr.heap.size wr).drew).mono ?_); go_loud (rintro e w4 ⟨rfl, hb4⟩); have HB4 := Lib.hid ((Below.refl wr.heap.size wr).drew.trans (hb4.mono (Nat.le_refl wr.heap.size))); have K1 := HKF.out w4 HB4.out; clear hb4))
      all_goals
        have hB4 := HBW.out.trans (HB4.out.mono HBW.out.size)
        have hO4 := own_below HO.out HB4.out (fun g e => (HO.out.lt _ e).2)
        have hK4 := HKB.out.below HB4.out hgl
        have HX4 := Lib.hid (And.intro hB4 (And.intro hO4 hK4))
        obtain ⟨x0', x1', d0, d1, d2⟩ := K1
        clear K0 x0 x1 hB4 hO4 hK4 HO HKB HBW
        cases r with
        | false =>
          go_wp2
          go_roundg (n - (k + 1))
          case measure => omega
          case rel => exact ⟨k + 1, SA, sc, xs, rfl, by omega, by go_num, rfl, by rw [HS.out, HXL.out]; rfl, by omega, HX4.out.2.1, HX4.out.2.2, HX4.out.1⟩
        | true =>
          have hA5 : Below w4.heap.size w4 (w4.alloc (.cells #[.int .i64 vi] 3)) := (Below.refl _ _).alloc (Nat.le_refl _) _
          have HSR := Lib.hid (Sr.new (sz := 1) w4 3 #[.int .i64 vi] rfl)
          have HO5 := Lib.hid (own_below HX4.out.2.1 hA5 (fun g e => (HX4.out.2.1.lt _ e).2))
          have HB5 := Lib.hid (HX4.out.1.trans (hA5.mono HX4.out.1.size))
          have HK5 := Lib.hid (HX4.out.2.2.below hA5 HX4.out.2.2.lt)
          have hs5 := HK5.out.lt
          clear hA5
          go_wp2_with (at_builtin; (refine wpList_appT 1 8 _ 3 rfl (.tmp 24) (.tmp 31) 23 rfl (w.heap.size + 1) Tryz.underlying23 infoI1 rfl (by decide) (.slice SA xs.length sc) ⟨w4.heap.size, 0, none⟩ xs.length 1 xs [.int .i64 vi] (by simp [Act.eval]) (by simp [Act.eval]) HO5.out HSR.out (by simp [Value.oneCell']) (by unfold maxLen; omega) (by omega) hs5 ?_); intro A1 c1 w11 o1 t1 h5)
          have hbF : Below w.heap.size w w11 := HB5.out.trans (t1.below HB5.out.size (fun y hy => by have := (HO5.out.lt _ hy).1; omega))
          have hkF := HK5.out.turns t1 (fun e => by have := (HO5.out.lt _ e).1; omega)
          have HN := Lib.hid (And.intro o1 (And.intro hkF hbF))
          clear o1 t1 h5 hbF hkF
          go_roundg (n - (k + 1))
          case measure => omega
          case rel => exact ⟨k + 1, A1, c1, xs ++ [.int .i64 vi], rfl, by omega, by go_num, by rw [List.length_append]; rfl, by rw [List.length_append, HS.out, HXL.out]; rfl, by rw [List.length_append]; simp; omega, by rw [List.length_append]; exact HN.out.1, HN.out.2.1, HN.out.2.2⟩
    · obtain rfl : k = n := by omega
      have htk : vs.take k = vs := List.take_of_length_le (by rw [HL.out]; exact Nat.le_refl _)
      rw [htk] at HXL
      have hcc := own_caps HO.out
      have HF : OutLn w (apF cs vs x).length (.returned (.slice SA xs.length sc)) wr := ⟨SA, sc, by rw [HXL.out], by rw [← HXL.out]; exact hcc.1, hcc.2, HBW.out⟩
      have HFF := Lib.hid HF
      clear HF hcc hbw hkb
      go_wp2
      go_ret
      exact HFF.out
end Go.Proofs.YtehekjlakegkpaaGreat
end
section
namespace Go.Proofs.YtehekjlakegkpaaGreat
open Go.RowKit
set_option linter.unusedVariables false

def spF (cs : List Int) (vs : List Vr) (xs : List Int) : List Int := xs.filter fun x => decide (0 < (apF cs vs x).length)
theorem spF_take {cs : List Int} {vs : List Vr} {xs : List Int} {k : Nat} (h : k < xs.length) : (spF cs vs (xs.take (k + 1))).length = (spF cs vs (xs.take k)).length + if 0 < (apF cs vs (zl xs k)).length then 1 else 0 := by
  unfold spF
  rw [List.take_add_one, List.getElem?_eq_getElem h, List.filter_append, List.length_append, zl_get xs k h]
  congr 1
  show ([xs[k]].filter _).length = _
  by_cases e : 0 < (apF cs vs xs[k]).length <;> simp [e]
theorem spF_len {vs : List Vr} {cs : List Int} (h : Fd vs cs) : (spF cs vs cs).length = (supR vs cs).length := by
  rw [supR_eq h]
  unfold spF
  congr 1
  refine List.filter_congr fun x hx => ?_
  unfold apF
  rw [Bool.eq_iff_iff, decide_eq_true_iff, List.any_eq_true, List.length_pos_iff_exists_mem]
  constructor
  · rintro ⟨v, hv⟩
    obtain ⟨h1, h2⟩ := List.mem_filter.1 hv
    exact ⟨v, h1, by rw [← pkB_apv hx]; exact h2⟩
  · rintro ⟨v, hv, ha⟩
    exact ⟨v, List.mem_filter.2 ⟨hv, by rw [pkB_apv hx]; exact ha⟩⟩
set_option maxRecDepth 100000 in
set_option maxHeartbeats 3200000 in
theorem supported10_any (s : Sn) (w : World) (h : s.In w) :
    Calls Tryz.prog 43 #[s.val] w (OutLn w (if Fd s.vs s.cs then (spF s.cs s.vs s.cs).length else 0)) := by
  obtain ⟨A, n, c, B, m, d, vs, cs⟩ := s
  have HP := Lib.hid (fun x W g1 => approvers10_any ⟨A, n, c, B, m, d, vs, cs⟩ x W g1)
  have HIN := Lib.hid h
  have HC := Lib.hid h.2
  have hb1 : Below w.heap.size w (w.alloc (.cells #[.slice A n c, .slice B m d] 25)) := (Below.refl _ _).alloc (Nat.le_refl _) _
  have hk1 := KB.new w 25 #[.slice A n c, .slice B m d]
  have hF := rsnap_any ⟨A, n, c, B, m, d, vs, cs⟩ _ (h.below hb1 (Nat.le_refl _))
  have HB1 := Lib.hid hb1
  have HK1 := Lib.hid hk1
  unfold Sn.val at HP hF ⊢
  dsimp only at HP HC hF ⊢
  have HL := Lib.hid HC.out.len
  have hcap := HC.out.cap
  have hmax := HC.out.max
  clear h hb1 hk1
  go_enter Tryz.func43, Tryz.ntmps43
  by_cases hfd : Fd vs cs
  case neg =>
    rw [decide_eq_false hfd] at hF
    rw [if_neg hfd]
    go_wp2_with fail
    refine hF.mono ?_
    rintro e w2 ⟨rfl, hb2⟩
    go_wp2
    go_ret
    exact ⟨none, 0, rfl, by omega, by omega, HB1.out.trans (hb2.mono HB1.out.size)⟩
  rw [decide_eq_true hfd] at hF
  simp only [if_pos hfd] at HP
  rw [if_pos hfd]
  have hn32 : m ≤ 32 := by have := hfd.2.1.1; have := HL.out; omega
  go_wp2_with fail
  refine hF.mono ?_
  rintro e w2 ⟨rfl, hb2⟩
  have HB2 := Lib.hid (HB1.out.trans (hb2.mono HB1.out.size))
  have HK2 := Lib.hid (HK1.out.below hb2 HK1.out.lt)
  have x0 := HK2.out.cell 0
  have x1 := HK2.out.cell 1
  simp at x0 x1
  clear hb2 HB1 HK1 hF
  go_wp2_with fail
  clear x0 x1
  go_loopg [3, 11] m (fun g9 rv tv wr => ∃ (k : Nat) (SA : Option Addr) (sc : Nat) (xs : List Value), g9 = m - k ∧ k ≤ m ∧ tv = .int .i64 (k : Int) ∧ rv = .slice SA xs.length sc ∧ xs.length = (spF cs vs (cs.take k)).length ∧ xs.length ≤ k ∧ wr.ownsRow (w.heap.size + 1) 3 1 (.slice SA xs.length sc) xs.length xs ∧ KB wr w.heap.size 25 #[.slice A n c, .slice B m d] ∧ Below w.heap.size w wr)
  case atStart => exact ⟨0, none, 0, [], by omega, by omega, rfl, rfl, rfl, by simp, World.ownsRow_nil _ _ _ _, HK2.out, HB2.out⟩
  case round =>
    obtain ⟨k, SA, sc, xs, hg9, hk, rfl, rfl, hxl, hxk, hown, hkb, hbw⟩ := hrel
    have HO := Lib.hid hown
    have HKB := Lib.hid hkb
    have HBW := Lib.hid hbw
    have HXL := Lib.hid hxl
    have hgl := hkb.lt
    have x0 := hkb.cell 0
    have x1 := hkb.cell 1
    simp at x0 x1
    clear hown hxl
    by_cases hlt : k < m
    · obtain ⟨b, o, rfl, hbb, hcc⟩ := HC.out.at_ (by omega)
      have c0 := hcc k hlt
      have HS := Lib.hid (spF_take (cs := cs) (vs := vs) (xs := cs) (k := k) (by rw [HL.out]; exact hlt))
      generalize zl cs k = x at *
      have hKF := fun W' (hb' : Below wr.heap.size wr W') => (⟨(hb'.cell (p := ⟨w.heap.size, 0, none⟩) hgl).trans x0, (hb'.cell (p := ⟨w.heap.size, 1, none⟩) hgl).trans x1, ((hbw.trans (hb'.mono hbw.size)).cell (p := ⟨b, o + k, none⟩) hbb).trans c0⟩ : _ ∧ _ ∧ _)
      have HKF := Lib.hid hKF
      have hPk := fun W' (hb' : Below wr.heap.size wr W') => HP.out x W' (HIN.out.below (hbw.trans (hb'.mono hbw.size)) (Nat.le_refl _))
      generalize (apF cs vs x).length = N at *
      have HPK := Lib.hid hPk
      have K0 := HKF.out wr (Below.refl _ _)
      have hki : (k : Int) < (m : Int) := by omega
      clear c0 hcc hKF hPk hbw hkb
      by_cases hN : 0 < N
      · rw [if_pos hN] at HS
        have hNi : (0 : Int) < (N : Int) := by omega
        have hNd : decide ((0 : Int) < (N : Int)) = true := by simp <;> omega
        have hNd2 : decide (0 < N) = true := by simp <;> omega
        go_upto_region 7 with (fail)
        go_region_held3 (fun W' => W'.cell? ⟨w.heap.size, 0, none⟩ = some (.slice A n c) ∧ W'.cell? ⟨w.heap.size, 1, none⟩ = some (.slice (some ⟨b, o, none⟩) m d) ∧ W'.cell? ⟨b, o + k, none⟩ = some (.int .i64 x))
          (first | exact K0 | exact K1)
          (first | (go_at_call 96; go_loud (refine (HPK.out _ (Below.refl wr.heap.size wr).drew).mono ?_); go_loud (rintro e w4 ⟨AA, ac, rfl, hac1, hac2, hb4⟩); have HB4 := Lib.hid ((Below.refl wr.heap.size wr).drew.trans (hb4.mono (Nat.le_refl wr.heap.size))); have K1 := HKF.out w4 HB4.out; clear hb4))
        all_goals
          have hB4 := HBW.out.trans (HB4.out.mono HBW.out.size)
          have hO4 := own_below HO.out HB4.out (fun g e => (HO.out.lt _ e).2)
          have hK4 := HKB.out.below HB4.out hgl
          have HX4 := Lib.hid (And.intro hB4 (And.intro hO4 hK4))
          obtain ⟨x0', x1', d0⟩ := K1
          clear K0 x0 x1 hB4 hO4 hK4 HO HKB HBW
          have hA5 : Below w4.heap.size w4 (w4.alloc (.cells #[.int .i64 x] 3)) := (Below.refl _ _).alloc (Nat.le_refl _) _
          have HSR := Lib.hid (Sr.new (sz := 1) w4 3 #[.int .i64 x] rfl)
          have HO5 := Lib.hid (own_below HX4.out.2.1 hA5 (fun g e => (HX4.out.2.1.lt _ e).2))
          have HB5 := Lib.hid (HX4.out.1.trans (hA5.mono HX4.out.1.size))
          have HK5 := Lib.hid (HX4.out.2.2.below hA5 HX4.out.2.2.lt)
          have hs5 := HK5.out.lt
          clear hA5
          go_wp2_with (at_builtin; (refine wpList_appT 1 8 _ 3 rfl (.tmp 23) (.tmp 29) 23 rfl (w.heap.size + 1) Tryz.underlying23 infoI1 rfl (by decide) (.slice SA xs.length sc) ⟨w4.heap.size, 0, none⟩ xs.length 1 xs [.int .i64 x] (by simp [Act.eval]) (by simp [Act.eval]) HO5.out HSR.out (by simp [Value.oneCell']) (by unfold maxLen; omega) (by omega) hs5 ?_); intro A1 c1 w11 o1 t1 h5)
          have hbF : Below w.heap.size w w11 := HB5.out.trans (t1.below HB5.out.size (fun y hy => by have := (HO5.out.lt _ hy).1; omega))
          have hkF := HK5.out.turns t1 (fun e => by have := (HO5.out.lt _ e).1; omega)
          have HN := Lib.hid (And.intro o1 (And.intro hkF hbF))
          clear o1 t1 h5 hbF hkF
          go_roundg (m - (k + 1))
          case measure => omega
          case rel => exact ⟨k + 1, A1, c1, xs ++ [.int .i64 x], rfl, by omega, by go_num, by rw [List.length_append]; rfl, by rw [List.length_append, HS.out, HXL.out]; rfl, by rw [List.length_append]; simp; omega, by rw [List.length_append]; exact HN.out.1, HN.out.2.1, HN.out.2.2⟩
      · rw [if_neg hN] at HS
        obtain rfl : N = 0 := by omega
        go_upto_region 7 with (fail)
        go_region_held3 (fun W' => W'.cell? ⟨w.heap.size, 0, none⟩ = some (.slice A n c) ∧ W'.cell? ⟨w.heap.size, 1, none⟩ = some (.slice (some ⟨b, o, none⟩) m d) ∧ W'.cell? ⟨b, o + k, none⟩ = some (.int .i64 x))
          (first | exact K0 | exact K1)
          (first | (go_at_call 96; go_loud (refine (HPK.out _ (Below.refl wr.heap.size wr).drew).mono ?_); go_loud (rintro e w4 ⟨AA, ac, rfl, hac1, hac2, hb4⟩); have HB4 := Lib.hid ((Below.refl wr.heap.size wr).drew.trans (hb4.mono (Nat.le_refl wr.heap.size))); have K1 := HKF.out w4 HB4.out; clear hb4))
        all_goals
          have hB4 := HBW.out.trans (HB4.out.mono HBW.out.size)
          have hO4 := own_below HO.out HB4.out (fun g e => (HO.out.lt _ e).2)
          have hK4 := HKB.out.below HB4.out hgl
          have HX4 := Lib.hid (And.intro hB4 (And.intro hO4 hK4))
          clear K0 K1 x0 x1 hB4 hO4 hK4 HO HKB HBW
          go_wp2
          go_roundg (m - (k + 1))
          case measure => omega
          case rel => exact ⟨k + 1, SA, sc, xs, rfl, by omega, by go_num, rfl, by rw [HS.out, HXL.out]; rfl, by omega, HX4.out.2.1, HX4.out.2.2, HX4.out.1⟩
    · obtain rfl : k = m := by omega
      have htk : cs.take k = cs := List.take_of_length_le (by rw [HL.out]; exact Nat.le_refl _)
      rw [htk] at HXL
      have hcc := own_caps HO.out
      have HF : OutLn w (spF cs vs cs).length (.returned (.slice SA xs.length sc)) wr := ⟨SA, sc, by rw [HXL.out], by rw [← HXL.out]; exact hcc.1, hcc.2, HBW.out⟩
      have HFF := Lib.hid HF
      clear HF hcc hbw hkb
      go_wp2
      go_ret
      exact HFF.out
set_option maxHeartbeats 1600000 in
theorem seats10_any (s : Sn) (k : Nat) (w : World) (h : s.In w) (hfd : Fd s.vs s.cs) :
    Calls Tryz.prog 14 #[s.val, .int .i64 (k : Int)] w fun e w' => e = .returned (.int .i64 ((min k (supR s.vs s.cs).length : Nat) : Int)) ∧ Below w.heap.size w w' := by
  obtain ⟨A, n, c, B, m, d, vs, cs⟩ := s
  have hb1 : Below w.heap.size w (w.alloc (.cells #[.slice A n c, .slice B m d] 25)) := (Below.refl _ _).alloc (Nat.le_refl _) _
  have hk1 := KB.new w 25 #[.slice A n c, .slice B m d]
  have hS := supported10_any ⟨A, n, c, B, m, d, vs, cs⟩ _ (h.below hb1 (Nat.le_refl _))
  dsimp only at hfd
  unfold Sn.val at hS ⊢
  dsimp only at hS ⊢
  rw [if_pos hfd, spF_len hfd] at hS
  have hmx : max (k : Int) 0 = (k : Int) := by omega
  obtain ⟨L, hL⟩ : ∃ L, (supR vs cs).length = L := ⟨_, rfl⟩
  rw [hL] at hS ⊢
  have hmn : min (k : Int) (L : Int) = ((min k L : Nat) : Int) := by omega
  have HB1 := Lib.hid hb1
  generalize hM : min k L = M at *
  clear h hfd hb1 hL
  go_enter Tryz.func14, Tryz.ntmps14
  go_upto_region 1 with (fail)
  generalize (w.alloc (.cells #[.slice A n c, .slice B m d] 25)) = w1 at *
  have x0 := hk1.cell 0
  have x1 := hk1.cell 1
  simp at x0 x1
  go_wp2_with fail
  refine hS.mono ?_
  rintro e w2 ⟨A2, c2, rfl, h1, h2, hb2⟩
  have HB2 := Lib.hid (HB1.out.trans (hb2.mono HB1.out.size))
  clear hb2 HB1
  go_wp2_with fail
  all_goals first | (go_ret; exact ⟨by first | rfl | (rw [hmn]; rfl) | (simp [hmx, hmn]), HB2.out⟩) | exact test
set_option maxHeartbeats 1600000 in
theorem total10_any (s : Sn) (w : World) (h : s.In w) (hfd : Fd s.vs s.cs) :
    Calls Tryz.prog 55 #[s.val] w fun e w' => e = .returned (.int .u64 (tot (stk s.vs) : Nat)) ∧ Below w.heap.size w w' := by
  obtain ⟨A, n, c, B, m, d, vs, cs⟩ := s
  have HV := Lib.hid h.1
  have hb1 : Below w.heap.size w (w.alloc (.cells #[.slice A n c, .slice B m d] 25)) := (Below.refl _ _).alloc (Nat.le_refl _) _
  have hk1 := KB.new w 25 #[.slice A n c, .slice B m d]
  have hF := rsnap_any ⟨A, n, c, B, m, d, vs, cs⟩ _ (h.below hb1 (Nat.le_refl _))
  have HB1 := Lib.hid hb1
  have HK1 := Lib.hid hk1
  unfold Sn.val at hF ⊢
  dsimp only at HV hF hfd ⊢
  have HL := Lib.hid HV.out.len
  have hcap := HV.out.cap
  have hmax := HV.out.max
  rw [decide_eq_true hfd] at hF
  have hT := hfd.2.2.2.1
  have hle : ∀ k, tot (stk (vs.take k)) ≤ tot (stk vs) := fun k => by
    conv => rhs; rw [← List.take_append_drop k vs]
    rw [stk, stk, List.map_append, tot_append]; omega
  have HLE := Lib.hid hle
  generalize hTT : tot (stk vs) = T at *
  have HTT := Lib.hid hTT
  clear h hfd hb1 hk1 hle hTT
  go_enter Tryz.func55, Tryz.ntmps55
  go_wp2_with fail
  refine hF.mono ?_
  rintro e w2 ⟨rfl, hb2⟩
  have HB2 := Lib.hid (HB1.out.trans (hb2.mono HB1.out.size))
  have HK2 := Lib.hid (HK1.out.below hb2 HK1.out.lt)
  have x0 := HK2.out.cell 0
  have x1 := HK2.out.cell 1
  simp at x0 x1
  clear hb2 HB1 HK1 hF
  go_wp2_with fail
  go_loopg [3, 11] n (fun g9 rv tv wr => ∃ (k N : Nat), g9 = n - k ∧ k ≤ n ∧ tv = .int .i64 (k : Int) ∧ rv = .int .u64 (N : Int) ∧ N = tot (stk (vs.take k)) ∧ wr = w2)
  case atStart => exact ⟨0, 0, by omega, by omega, rfl, rfl, rfl, rfl⟩
  case round =>
    obtain ⟨k, N, hg9, hk, rfl, rfl, hN, rfl⟩ := hrel
    have HN := Lib.hid hN
    clear hN
    by_cases hlt : k < n
    · obtain ⟨b, o, v, rfl, hbb, hve, ok, ri, c0, c1, c2⟩ := HV.out.at_ hlt
      have d1 := (HB2.out.cell (p := ⟨b, o + k * 3 + 1, none⟩) hbb).trans c1
      have hst : tot (stk (vs.take (k + 1))) = N + v.st := by
        rw [List.take_add_one, hve, HN.out, stk, List.map_append, tot_append]
        simp [stk, tot]
      have hlt2 := HLE.out (k + 1)
      rw [hst] at hlt2
      have HST := Lib.hid hst
      generalize v.st = q at *
      have hw : IntKind.u64.wrap ((N : Int) + (q : Int)) = (N : Int) + (q : Int) := by rw [wrap_u]; omega
      clear c0 c1 c2 hve ok ri hst
      go_wp2
      go_roundg (n - (k + 1))
      case measure => omega
      case rel => exact ⟨k + 1, N + q, rfl, by omega, by go_num, by go_num, by rw [HST.out], rfl⟩
    · obtain rfl : k = n := by omega
      have HNT := Lib.hid (show N = T by rw [HN.out, ← HTT.out, List.take_of_length_le (by rw [HL.out]; exact Nat.le_refl _)])
      go_wp2
      go_ret
      exact ⟨by rw [← HNT.out]; rfl, HB2.out⟩
theorem fd_one {vs : List Vr} {cs : List Int} (h : Fd vs cs) {u v : Vr} (hu : u ∈ vs) (hv : v ∈ vs) (e : u.id = v.id) : u = v := by
  have hnd := h.2.2.2.2.2
  unfold idl at hnd
  obtain ⟨i, hi, rfl⟩ := List.mem_iff_getElem.1 hu
  obtain ⟨j, hj, rfl⟩ := List.mem_iff_getElem.1 hv
  have hp := List.pairwise_iff_getElem.1 hnd
  rcases Nat.lt_trichotomy i j with h1 | h1 | h1
  · exact absurd (by rw [List.getElem_map, List.getElem_map]; exact e) (hp i j (by rw [List.length_map]; exact hi) (by rw [List.length_map]; exact hj) h1)
  · subst h1; rfl
  · exact absurd (by rw [List.getElem_map, List.getElem_map]; exact e.symm) (hp j i (by rw [List.length_map]; exact hj) (by rw [List.length_map]; exact hi) h1)
set_option maxRecDepth 100000 in
set_option maxHeartbeats 3200000 in
theorem approves10_any (s : Sn) (v : Vr) (x : Int) (w : World) (h : s.In w) (hfd : Fd s.vs s.cs) (hv : v ∈ s.vs) (hx : x ∈ s.cs) :
    Calls Tryz.prog 20 #[s.val, .int .i64 v.id, .int .i64 x] w (OutF w (apv v x)) := by
  obtain ⟨A, n, c, B, m, d, vs, cs⟩ := s
  have HIN := Lib.hid h
  have HP := Lib.hid (fun v W g1 g2 => picks_any ⟨A, n, c, B, m, d, vs, cs⟩ v x W g1 g2)
  have HV := Lib.hid h.1
  have hb1 : Below w.heap.size w (w.alloc (.cells #[.slice A n c, .slice B m d] 25)) := (Below.refl _ _).alloc (Nat.le_refl _) _
  have hk1 := KB.new w 25 #[.slice A n c, .slice B m d]
  have hF := rsnap_any ⟨A, n, c, B, m, d, vs, cs⟩ _ (h.below hb1 (Nat.le_refl _))
  have HB1 := Lib.hid hb1
  have HK1 := Lib.hid hk1
  unfold Sn.val at HP hF ⊢
  dsimp only at HP HV hF hfd hv hx ⊢
  have HL := Lib.hid HV.out.len
  have hcap := HV.out.cap
  have hmax := HV.out.max
  rw [decide_eq_true hfd] at hF
  obtain ⟨r, hr⟩ : ∃ r, apv v x = r := ⟨_, rfl⟩
  rw [hr]
  have HONE := Lib.hid (fun u (hu : u ∈ vs) (e : u.id = v.id) => show pkB cs u x = r by rw [fd_one hfd hu hv e, pkB_apv hx, hr])
  have HVI := Lib.hid (List.mem_iff_getElem.1 hv)
  generalize hvid : v.id = vid at *
  clear h hfd hb1 hk1 hr hv
  go_enter Tryz.func20, Tryz.ntmps20
  go_wp2_with fail
  refine hF.mono ?_
  rintro e w2 ⟨rfl, hb2⟩
  have HB2 := Lib.hid (HB1.out.trans (hb2.mono HB1.out.size))
  have HK2 := Lib.hid (HK1.out.below hb2 HK1.out.lt)
  have x0 := HK2.out.cell 0
  have x1 := HK2.out.cell 1
  simp at x0 x1
  clear hb2 HB1 HK1 hF
  go_wp2_with fail
  clear x0 x1
  go_loopw [14] (fun tv wr => ∃ (k : Nat), k ≤ n ∧ tv = .int .i64 (k : Int) ∧ KB wr w.heap.size 25 #[.slice A n c, .slice B m d] ∧ (∀ j u, j < k → vs[j]? = some u → u.id = vid → r = false) ∧ Below w.heap.size w wr) (fun tv _ => n - (intOf tv).toNat)
  case atStart => exact ⟨0, by omega, rfl, HK2.out, fun j u hj => by omega, HB2.out⟩
  case round =>
    obtain ⟨k, hk, rfl, hkb, hno, hbw⟩ := hrel
    have HNO := Lib.hid hno
    have HKB := Lib.hid hkb
    have HBW := Lib.hid hbw
    have hgl := hkb.lt
    have x0 := hkb.cell 0
    have x1 := hkb.cell 1
    simp at x0 x1
    clear hno
    by_cases hlt : k < n
    · obtain ⟨b, o, u, rfl, hbb, hve, ok, ri, c0, c1, c2⟩ := HV.out.at_ hlt
      have HS := Lib.hid hve
      have hum := List.mem_of_getElem? hve
      have hki : (k : Int) < (n : Int) := by omega
      by_cases he : u.id = vid
      · have hpk : pkB cs u x = r := HONE.out u hum he
        have hKF := fun W' (hb' : Below wr.heap.size wr W') => (⟨(hb'.cell (p := ⟨w.heap.size, 0, none⟩) hgl).trans x0, (hb'.cell (p := ⟨w.heap.size, 1, none⟩) hgl).trans x1, ((hbw.trans (hb'.mono hbw.size)).cell (p := ⟨b, o + k * 3, none⟩) hbb).trans c0, ((hbw.trans (hb'.mono hbw.size)).cell (p := ⟨b, o + k * 3 + 1, none⟩) hbb).trans c1, ((hbw.trans (hb'.mono hbw.size)).cell (p := ⟨b, o + k * 3 + 2, none⟩) hbb).trans c2⟩ : _ ∧ _ ∧ _ ∧ _ ∧ _)
        have HKF := Lib.hid hKF
        have hPk := fun W' (hb' : Below wr.heap.size wr W') => HP.out u W' (HIN.out.below (hbw.trans (hb'.mono hbw.size)) (Nat.le_refl _)) (ri.below (hbw.trans (hb'.mono hbw.size)) (Nat.le_refl _))
        rw [hpk] at hPk
        have HPK := Lib.hid hPk
        obtain ⟨ui, ust, ua, un, uc, up⟩ := u
        dsimp only at he
        subst he
        unfold Vr.val at HPK
        dsimp only at HKF HPK
        have K0 := HKF.out wr (Below.refl _ _)
        have hee : (ui == ui) = true := by simp
        clear c0 c1 c2 hve ok ri hKF hPk hbw hkb hum hpk
        go_upto_region 6 with (fail)
        go_region_held3 (fun W' => W'.cell? ⟨w.heap.size, 0, none⟩ = some (.slice (some ⟨b, o, none⟩) n c) ∧ W'.cell? ⟨w.heap.size, 1, none⟩ = some (.slice B m d) ∧ W'.cell? ⟨b, o + k * 3, none⟩ = some (.int .i64 ui) ∧ W'.cell? ⟨b, o + k * 3 + 1, none⟩ = some (.int .u64 (ust : Int)) ∧ W'.cell? ⟨b, o + k * 3 + 2, none⟩ = some (.slice ua un uc))
          (first | exact K0 | exact K1)
          (first | (go_at_call 54; go_loud (refine (HPK.out _ (Below.refl wr.heap.size wr).drew).mono ?_); go_loud (rintro e w4 ⟨rfl, hb4⟩); have HB4 := Lib.hid ((Below.refl wr.heap.size wr).drew.trans (hb4.mono (Nat.le_refl wr.heap.size))); have K1 := HKF.out w4 HB4.out; clear hb4))
        all_goals
          have HX4 := Lib.hid (And.intro (HBW.out.trans (HB4.out.mono HBW.out.size)) (HKB.out.below HB4.out hgl))
          clear K0 K1 x0 x1 HKB HBW
          cases r with
          | true =>
            go_wp2
            go_ret
            exact ⟨rfl, HX4.out.1⟩
          | false =>
            go_wp2
            go_roundw
            case rel => exact ⟨k + 1, by omega, by go_num, HX4.out.2, by simp, HX4.out.1⟩
            case measure => simp [intOf]; omega
      · have e1 : (u.id == vid) = false := by simp; omega
        have e2 : decide (u.id = vid) = false := by simp; omega
        have d0 := (hbw.cell (p := ⟨b, o + k * 3, none⟩) hbb).trans c0
        clear c0 c1 c2 hve ok ri hbw hkb hum
        go_upto_region 6 with (fail)
        go_quiet (fail)
        go_wp2
        go_roundw
        case rel => exact ⟨k + 1, by omega, by go_num, HKB.out, fun j t hj ht e => by
          rcases Nat.lt_or_ge j k with h5 | h5
          · exact HNO.out j t h5 ht e
          · obtain rfl : j = k := by omega
            rw [HS.out] at ht
            injection ht with ht
            subst ht
            exact absurd e he, HBW.out.trans ((belN wr _).mono HBW.out.size)⟩
        case measure => simp [intOf]; omega
    · obtain rfl : k = n := by omega
      have HRF := Lib.hid (show r = false by
        obtain ⟨j, hj, e⟩ := HVI.out
        exact HNO.out j v (by rw [HL.out] at hj; exact hj) (by rw [List.getElem?_eq_getElem hj, e]) hvid)
      clear hbw hkb x0 x1
      go_wp2
      go_ret
      exact ⟨by rw [HRF.out]; rfl, HBW.out⟩
end Go.Proofs.YtehekjlakegkpaaGreat
end
