/-
  Slash of the reference's ledger. The conditions stand in each theorem.
-/
import Derived.Test.YtahleoidbnlllaaLrwd
import Derived.Test.YtahleoidbnlllaaLsla
import Derived.StillTailTactics
namespace Go.Proofs.Ytahleoidbnlllaa
open Go.RowKit
set_option linter.unusedVariables false

theorem nz_snoc (xs : List Ck) (c : Ck) : nzC (xs ++ [c]) = if 0 < c.1 then nzC xs ++ [c] else nzC xs := by
  unfold nzC
  rw [List.filter_append]
  by_cases h : 0 < c.1 <;> simp [h]
theorem takC_len (ch : List Ck) (n : Nat) : (takC ch n).1.length = ch.length := by
  have := congrArg List.length (takC_eras ch n)
  simpa using this
/-- What chunks are when those from j on have been gone through. -/
def slR (ch : List Ck) (m j : Nat) : List Ck := ch.take j ++ (takC (ch.drop j) m).1
theorem slR_len (ch : List Ck) (m j : Nat) : (slR ch m j).length = ch.length := by
  unfold slR
  rw [List.length_append, takC_len, List.length_take, List.length_drop]
  omega
theorem slR_step {ch : List Ck} {m j : Nat} {c : Ck} (h : ch[j]? = some c) : (slR ch m (j + 1))[j]? = some c ∧ slR ch m j = (slR ch m (j + 1)).set j (c.1 - min (m - (takC (ch.drop (j + 1)) m).2) c.1, c.2) ∧ (takC (ch.drop j) m).2 = (takC (ch.drop (j + 1)) m).2 + min (m - (takC (ch.drop (j + 1)) m).2) c.1 := by
  obtain ⟨hj, rfl⟩ := List.getElem?_eq_some_iff.1 h
  have hd : ch.drop j = ch[j] :: ch.drop (j + 1) := List.drop_eq_getElem_cons hj
  refine ⟨?_, ?_, ?_⟩
  · unfold slR
    rw [List.getElem?_append_left (by rw [List.length_take]; omega), List.getElem?_take, if_pos (by omega)]
    exact List.getElem?_eq_getElem hj
  · unfold slR
    rw [hd, takC_cons, List.take_succ_eq_append_getElem hj, List.append_assoc, List.set_append_right _ _ (by simp; omega)]
    simp [Nat.min_eq_left (Nat.le_of_lt hj)]
  · rw [hd, takC_cons]
theorem slR_zero (ch : List Ck) (m : Nat) : slR ch m 0 = (takC ch m).1 := by simp [slR]
theorem slR_all (ch : List Ck) (m : Nat) : slR ch m ch.length = ch ∧ (takC (ch.drop ch.length) m).2 = 0 := by simp [slR, takC]
/-- A new row of chunks is stored in place of an account's own one. -/
theorem Lx.newrow {T : Tys} {base : Nat} {w w1 : World} {s : Lm} (h : Lg T base w s) {k : Nat} {x : Am} (hx : s.a[k]? = some x) {g cap : Nat} (hv : s.v = .slice (some ⟨g, 0, none⟩) s.a.length cap) {B0 : Nat} (hB0 : ∀ b, s.foot b → b < B0) (hbB : base ≤ B0) {F : Nat → Prop} (ht : Turns F w w1) (hF : ∀ b, F b → B0 ≤ b) (R : List Ck) (v : Value) (ho : w1.ownsRow B0 T.C 2 v R.length (ccs R)) :
    w1.cell? ⟨g, k * 4 + 3, none⟩ = some x.v ∧ w1.frozen? ⟨g, k * 4 + 3, none⟩ = false ∧ Lg T base (w1.setCell ⟨g, k * 4 + 3, none⟩ v) { s with a := s.a.set k { x with v := v, ch := R } } ∧ (w1.setCell ⟨g, k * 4 + 3, none⟩ v).cell? ⟨g, k * 4 + 3, none⟩ = some v := by
  have h1 := h.turns ht (fun b hb hFb => by have := hB0 b hb; have := hF b hFb; omega)
  obtain ⟨_, _, _, z3, zf⟩ := h1.acell hx hv
  have h2 := (h1.weak (X := fun k' => k' = k)).set_v hx hv v R (own_base ho hbB) (fun g' e => .inr fun k' z hz e' => by
    have q1 := hB0 g' (.inr (.inr ⟨k', z, hz, e'⟩))
    have q2 := (ho.lt g' e).1
    omega)
  have hx2 := get_same (y := { x with v := v, ch := R }) hx
  have hv2 : s.v = .slice (some ⟨g, 0, none⟩) (s.a.set k { x with v := v, ch := R }).length cap := by simpa using hv
  exact ⟨z3, zf _, h2, (h2.acell hx2 hv2).2.2.2.1⟩
variable {base : Nat} {w : World} {s : Lm}
set_option maxRecDepth 100000 in
set_option maxHeartbeats 6400000 in
theorem rsla_any (h : Lg TR base w s) (hok : s.ab.ok) (i : Int) (n : Nat) (hn : n < 18446744073709551616) :
    Calls Try.prog 42 #[.pointer (some ⟨s.L, 0, none⟩), .int .i64 i, .int .u64 n] w fun e w' => e = .returned (.tuple #[.int .u64 ((slaM s.ab i n).2.1 : Nat), .int .i64 (slaM s.ab i n).2.2]) ∧ LgTo TR base w w' s (slaM s.ab i n).1 := by
  have hl := hok.len32
  unfold slaM
  rcases s.cases i with ⟨ha, hi⟩ | ⟨k, x, rfl, hx, ha⟩
  · rw [ha]
    go_enter Try.func42, Try.ntmps42
    go_wp2_with fail
    refine (thr_no h hi hl).mono ?_
    rintro e w' ⟨rfl, rfl⟩
    go_wp2
    go_ret2
    exact ⟨rfl, LgTo.same h (Below.refl _ _)⟩
  · rw [ha]
    obtain ⟨g, cap, hv, hc, hg1, hg2⟩ := h.vform hx
    have hkl := (List.getElem?_eq_some_iff.1 hx).1
    have hf := thr_yes h hkl hl
    have c0 := h.cv
    rw [hv] at c0
    have hk0 : (0 : Int) ≤ (k : Int) := by omega
    have hk1 : (k : Int) < (s.a.length : Int) := by omega
    obtain ⟨hb1, hb2⟩ := hok.bounds hx
    have hco : chOk x.ch := ac_ch hok ha
    have h8 := hco.len
    obtain ⟨e0, e1, e2, e3, ef⟩ := h.acell hx hv
    have hbs := (h.foot_lt (foot_L s))
    obtain ⟨B, hB⟩ : ∃ B, B = min n x.b := ⟨_, rfl⟩
    obtain ⟨m, hm⟩ : ∃ m, m = n - B := ⟨_, rfl⟩
    have hBn : B ≤ n := by omega
    have hBb : B ≤ x.b := by omega
    have hmi : min (n : Int) (x.b : Int) = (B : Int) := by omega
    have hwB : IntKind.u64.wrap ((x.b : Int) - (B : Int)) = ((x.b - B : Nat) : Int) := by rw [IntKind.wrap_u64]; omega
    have h1 := h.set_b hx hv (x.b - B)
    have hx1 := get_same (y := { x with b := x.b - B }) hx
    have hv1 : s.v = .slice (some ⟨g, 0, none⟩) (s.a.set k { x with b := x.b - B }).length cap := by simpa using hv
    obtain ⟨A, cc, hxv, hsr, hlts0⟩ := own_sr (h1.chs k _ (fun e => e) hx1)
    dsimp only at hxv hsr
    obtain ⟨_, _, _, f3, ff⟩ := h1.acell hx1 hv1
    dsimp only at f3
    rw [hxv] at f3
    have T1 : Turns s.foot w (w.setCell ⟨g, k * 4 + 1, none⟩ (.int .u64 ((x.b - B : Nat) : Int))) := Turns.setCell (F := s.foot) w _ _ (foot_g hv)
    have hs1 : (w.setCell ⟨g, k * 4 + 1, none⟩ (.int .u64 ((x.b - B : Nat) : Int))).heap.size = w.heap.size := by simp
    have ef1 := ef (k * 4 + 1)
    have hlts : ∀ a, A = some a → a.block < w.heap.size := fun a e => by have := hlts0 a e; rwa [hs1] at this
    clear hlts0
    dsimp only
    rw [show min n x.ac.b = B from hB.symm, show n - B = m from hm.symm]
    have H1 := Lib.hid h1
    have HX1 := Lib.hid hx1
    have HV1 := Lib.hid hv1
    have HSR := Lib.hid hsr
    have HXV := Lib.hid hxv
    have HT1 := Lib.hid T1
    have HBS := Lib.hid hbs
    have HCO := Lib.hid hco
    have HME := Lib.hid hm
    have HLT := Lib.hid hlts
    have HFF := Lib.hid ff
    have H0 := Lib.hid h
    clear h1 hx1 hv1 hsr hxv T1 hbs hco hm hB ha h hlts ef ff
    obtain ⟨M, hM⟩ : ∃ M, M = x.ch.length := ⟨_, rfl⟩
    have HM := Lib.hid hM
    rw [← hM] at f3 h8
    clear hM
    go_enter Try.func42, Try.ntmps42
    go_wp2_with fail
    refine hf.mono ?_
    rintro e w' ⟨rfl, rfl⟩
    have bE : Below w.heap.size (w.setCell ⟨g, k * 4 + 1, none⟩ (.int .u64 ((x.b - B : Nat) : Int))) ((w.setCell ⟨g, k * 4 + 1, none⟩ (.int .u64 ((x.b - B : Nat) : Int))).alloc (.cells #[] 89)) := (Below.refl _ _).alloc (by simp) _
    have kE : KB ((w.setCell ⟨g, k * 4 + 1, none⟩ (.int .u64 ((x.b - B : Nat) : Int))).alloc (.cells #[] 89)) w.heap.size 89 #[] := by
      have := KB.new (w.setCell ⟨g, k * 4 + 1, none⟩ (.int .u64 ((x.b - B : Nat) : Int))) 89 #[]
      rw [hs1] at this
      exact this
    have srE : Sr 2 ((w.setCell ⟨g, k * 4 + 1, none⟩ (.int .u64 ((x.b - B : Nat) : Int))).alloc (.cells #[] 89)) A M cc (ccs x.ch) := by
      rw [HM.out]
      exact HSR.out.below bE (fun a e _ => HLT.out a e)
    have sE : w.heap.size ≤ ((w.setCell ⟨g, k * 4 + 1, none⟩ (.int .u64 ((x.b - B : Nat) : Int))).alloc (.cells #[] 89)).heap.size := by simp
    have h1E := H1.out.alloc (.cells #[] 89)
    have tE : Turns s.foot w ((w.setCell ⟨g, k * 4 + 1, none⟩ (.int .u64 ((x.b - B : Nat) : Int))).alloc (.cells #[] 89)) := HT1.out.trans (Turns.alloc s.foot _ _) (fun _ => .inl)
    obtain ⟨_, _, _, g3, gf⟩ := h1E.acell HX1.out HV1.out
    dsimp only at g3
    rw [HXV.out, ← HM.out] at g3
    have OE := Lib.hid (own_empty (sz := 2) (base := w.heap.size) kE (Nat.le_refl _))
    have SRE := Lib.hid srE
    have H1E := Lib.hid h1E
    have TE := Lib.hid tE
    clear kE srE h1E tE bE gf
    have hfl : ∀ b, ({ s with a := s.a.set k { x with b := x.b - B } } : Lm).foot b → b < w.heap.size := fun b hb => by have := (H1.out.foot_lt hb).2; rwa [hs1] at this
    have hbase : base ≤ w.heap.size := by have := HBS.out; omega
    have hsp : ∀ (A1 : Option Addr) (d1 : Nat) (w1 : World), w1.ownsRow w.heap.size 89 2 (.slice A1 M d1) M (ccs x.ch) → Turns (fun b => (Value.slice (some ⟨w.heap.size, 0, none⟩) 0 0).ownBlock = some b) ((w.setCell ⟨g, k * 4 + 1, none⟩ (.int .u64 ((x.b - B : Nat) : Int))).alloc (.cells #[] 89)) w1 →
        w1.cell? ⟨g, k * 4 + 3, none⟩ = some (.slice A M cc) ∧ w1.frozen? ⟨g, k * 4 + 3, none⟩ = false ∧ Lg TR base (w1.setCell ⟨g, k * 4 + 3, none⟩ (.slice A1 M d1)) { s with a := s.a.set k { x with b := x.b - B, v := .slice A1 M d1, ch := x.ch } } ∧ (w1.setCell ⟨g, k * 4 + 3, none⟩ (.slice A1 M d1)).cell? ⟨g, k * 4 + 3, none⟩ = some (.slice A1 M d1) ∧ Turns s.foot w (w1.setCell ⟨g, k * 4 + 3, none⟩ (.slice A1 M d1)) ∧ w.heap.size ≤ w1.heap.size ∧ M ≤ d1 ∧ ∀ b, (Value.slice A1 M d1).ownBlock = some b → w.heap.size ≤ b := fun A1 d1 w1 o1 t1 => by
      have q := H1E.out.newrow HX1.out HV1.out hfl hbase t1 (fun b e => by cases e; exact Nat.le_refl _) x.ch (.slice A1 M d1) (by rw [← HM.out]; exact o1)
      obtain ⟨q1, q2, q3, q4⟩ := q
      simp only [List.set_set] at q3
      dsimp only at q1
      rw [HXV.out, ← HM.out] at q1
      have tt := TE.out.trans t1 (fun b e => .inr (by cases e; exact Nat.le_refl _))
      exact ⟨q1, q2, q3, q4, tt.trans (Turns.setCell (F := s.foot) w1 _ _ (foot_g hv)) (fun _ => .inl), tt.size, by
        rcases own_forms o1 with ⟨e, hh, _⟩ | ⟨_, _, e, _, hh, _⟩
        · rw [hh]; exact Nat.zero_le _
        · cases e; exact hh, fun b e => (o1.lt b e).1⟩
    have HSP := Lib.hid hsp
    clear hsp hfl
    go_wp2_with (at_builtin; refine wpList_appS _ 2 16 _ 89 rfl _ _ 68 rfl w.heap.size Try.underlying68 rckInfo rfl (by decide) (some ⟨w.heap.size, 0, none⟩) A 0 0 M cc [] (ccs x.ch) rfl rfl OE.out SRE.out (ccs_one _) (by unfold maxLen; omega) (by omega) sE ?_; intro A1 d1 w1 o1 t1 b1; simp only [Nat.zero_add, List.nil_append] at o1 ⊢; obtain ⟨p1, p2, p3, p4, p5, p6, hM1, p8⟩ := HSP.out A1 d1 w1 o1 t1; have P8 := Lib.hid p8; have P3 := Lib.hid p3; have P5 := Lib.hid p5; clear o1 b1 t1 p3 p5 p8)
    generalize (w1.setCell ⟨g, k * 4 + 3, none⟩ (.slice A1 M d1)) = w2 at P3 P5 p4 ⊢
    clear p1 p2 p6 HSP sE SRE OE H1E TE H1 HX1 HV1 HSR HXV HT1 HLT HFF g3 f3 e0 e1 e2 e3 ef1 hwB hmi
    have hwM : IntKind.i64.wrap ((M : Int) - 1) = (M : Int) - 1 := by rw [IntKind.wrap_i64]; omega
    go_loopg [9, 10] M (fun gj sv lv wr => ∃ (K T : Nat), gj ≤ M ∧ K = B + T ∧ T = (takC (x.ch.drop gj) m).2 ∧ sv = .int .u64 (K : Int) ∧ lv = .int .i64 ((gj : Int) - 1) ∧ Lg TR base wr { s with a := s.a.set k { x with b := x.b - B, v := .slice A1 M d1, ch := slR x.ch m gj } } ∧ Turns s.foot w wr)
    case atStart =>
      have q := slR_all x.ch m
      rw [← HM.out] at q
      exact ⟨B, 0, Nat.le_refl _, rfl, q.2.symm, rfl, by go_num, by rw [q.1]; exact P3.out, P5.out⟩
    case round =>
      obtain ⟨K, T, hjM, hK, hT, rfl, rfl, hg, ht⟩ := hrel
      clear P3 P5 p4
      have hTm : T ≤ m := by rw [hT]; exact takC_le _ _
      have hx1 := get_same (y := { x with b := x.b - B, v := .slice A1 M d1, ch := slR x.ch m gk }) hx
      have hv1 : s.v = .slice (some ⟨g, 0, none⟩) (s.a.set k { x with b := x.b - B, v := .slice A1 M d1, ch := slR x.ch m gk }).length cap := by simpa using hv
      obtain ⟨_, _, _, f3, ff⟩ := hg.acell hx1 hv1
      dsimp only at f3
      have HK := Lib.hid hK
      have HT := Lib.hid hT
      clear hK hT
      rcases gk with _ | j
      · have hTe : T = (takC x.ch m).2 := by have := HT.out; simpa using this
        rw [slR_zero] at hg hx1 hv1
        obtain ⟨R, hR⟩ : ∃ R, R = (takC x.ch m).1 := ⟨_, rfl⟩
        have hRl : R.length = M := by rw [hR, takC_len, HM.out]
        have hRb : ∀ y ∈ R, y.1 < 18446744073709551616 := fun y hy => by
          have q1 := takC_sum x.ch m
          rw [← hR] at q1
          obtain ⟨jj, hjj⟩ := List.mem_iff_getElem?.1 hy
          have q2 := cht_take_succ hjj
          have q3 := cht_take_le R (jj + 1)
          omega
        have HTE := Lib.hid hTe
        have HR := Lib.hid hR
        have HRL := Lib.hid hRl
        rw [← hR] at hg hx1 hv1
        have hs5 := hg.foot_lt (b := s.L) (.inl rfl)
        obtain ⟨A5, c5, hA5, hsc⟩ := own_sc (hg.chs k _ (fun e => e) hx1) (by dsimp only; omega)
        dsimp only at hA5 hsc
        have hA5' := hA5
        injection hA5' with hA51 hA52 hA53
        subst hA51 hA53
        have HSC := Lib.hid hsc
        have HG := Lib.hid hg
        have HTT := Lib.hid ht
        have HX1 := Lib.hid hx1
        have HV1 := Lib.hid hv1
        have HRB := Lib.hid hRb
        have hg5 : g < wr.heap.size := (hg.foot_lt (.inr (.inl (by show s.v.ownBlock = some g; rw [hv]; rfl)))).2
        clear hTe hR hRl hsc hg ht hx1 hv1 hA5 hA52 hRb ff
        generalize wr = w5 at *
        go_wp2_with fail
        go_loopg [12, 95] M (fun gi lv tv wx => ∃ (j : Nat) (P : Option Addr) (q r : Nat), j + gi = M ∧ lv = .slice P q r ∧ q = (nzC (R.take j)).length ∧ tv = .int .i64 (j : Int) ∧ wx.ownsRow w5.heap.size 89 2 (.slice P q r) q (ccs (nzC (R.take j))) ∧ Below w5.heap.size w5 wx)
        case atStart => exact ⟨0, none, 0, 0, by omega, rfl, by simp [nzC], rfl, by simpa [nzC, ccs] using World.ownsRow_nil w5 w5.heap.size _ 2, Below.refl _ _⟩
        case round =>
          obtain ⟨j, P, q, r, hj, rfl, hq, rfl, hown, hb⟩ := hrel
          have hcell3 := (hb.cell (p := ⟨g, k * 4 + 3, none⟩) hg5).trans f3
          have hqM : q ≤ j := by
            rw [hq]
            refine Nat.le_trans (List.length_filter_le _ _) ?_
            rw [List.length_take]; omega
          have HQ := Lib.hid hq
          clear hq
          by_cases hlt : j < M
          · obtain ⟨_, _, _, h4⟩ := HSC.out.below hb
            obtain ⟨gc, o, hAe, hgc, hcc⟩ := h4 (by rw [HRL.out]; omega)
            subst hAe
            obtain ⟨y, hy⟩ : ∃ y, R[j]? = some y := ⟨_, List.getElem?_eq_getElem (by rw [HRL.out]; exact hlt)⟩
            obtain ⟨d0, d1'⟩ := hcc j y hy
            have hT := take_snoc hy
            have hyb := HRB.out y (List.mem_of_getElem? hy)
            have hlt' : (j : Int) < (M : Int) := by omega
            have hnz := nz_snoc (R.take j) y
            rw [← hT] at hnz
            clear hcc hy h4 hT
            by_cases hpos : 0 < y.1
            · rw [if_pos hpos] at hnz
              have hpos' : (0 : Int) < (y.1 : Int) := by omega
              have HNZ := Lib.hid hnz
              clear hnz
              have b1 : Below wr.heap.size wr (wr.alloc (.cells #[.int .u64 (y.1 : Nat), .int .i64 y.2] 89)) := (Below.refl _ _).alloc (Nat.le_refl _) _
              have own1 := own_below hown b1 (fun g' e => (hown.lt g' e).2)
              have hsr := sr_chunk wr 89 y
              have hb2 := hb.trans (b1.mono hb.size)
              have hs2 := hb2.size
              have HOWN := Lib.hid own1
              have HSR := Lib.hid hsr
              have HB2 := Lib.hid hb2
              clear own1 hsr hb2 b1 hown
              go_wp2_with (at_builtin; refine wpList_appS _ 2 16 _ 89 rfl _ _ 68 rfl w5.heap.size Try.underlying68 rckInfo rfl (by decide) _ _ q r 1 1 _ (ccs [y]) rfl rfl HOWN.out HSR.out (ccs_one _) (by unfold maxLen; omega) (by omega) hs2 ?_; intro A2 d2 w6 o1 _ b1'; rw [← ccs_append] at o1; have O1 := Lib.hid o1; have B1 := Lib.hid b1'; clear o1 b1')
              go_roundg (M - (j + 1))
              case measure => omega
              case rel => exact ⟨j + 1, A2, q + 1, d2, by omega, rfl, by rw [HNZ.out, List.length_append, ← HQ.out]; rfl, by go_num, by rw [HNZ.out]; exact O1.out, HB2.out.trans B1.out⟩
            · rw [if_neg hpos] at hnz
              have hpos' : ¬ (0 : Int) < (y.1 : Int) := by omega
              have HNZ := Lib.hid hnz
              have HOWN := Lib.hid hown
              clear hnz hown
              go_wp2_with fail
              go_roundg (M - (j + 1))
              case measure => omega
              case rel => exact ⟨j + 1, P, q, r, by omega, rfl, by rw [HNZ.out]; exact HQ.out, by go_num, by rw [HNZ.out]; exact HOWN.out, hb⟩
          · have hlt' : ¬ ((j : Int) < (M : Int)) := by omega
            have htk : R.take j = R := List.take_of_length_le (by rw [HRL.out]; omega)
            rw [htk] at HQ hown
            have hqe := HQ.out
            have hx1 := HX1.out
            have hv1 := HV1.out
            obtain ⟨z3, zf3, hL, _⟩ := HG.out.newrow hx1 hv1 (fun b hb => (HG.out.foot_lt hb).2) (by omega) (Turns.of_below (F := fun _ => False) hb) (fun _ e => e.elim) (nzC R) (.slice P q r) (by rw [← hqe]; exact hown)
            simp only [List.set_set] at hL
            dsimp only at z3
            have ct0 := hL.ct
            have ctf := hL.fz 1
            have ctb := (HG.out.below hb).ct
            dsimp only at ct0 ctf ctb
            have hL2 := hL.set_t (s.t + K)
            dsimp only at hL2
            have htb : s.t + K < 18446744073709551616 := by
              have q1 := takC_amount x.ch m
              have := HK.out
              have := HTE.out
              omega
            have hwt : IntKind.u64.wrap ((s.t : Int) + (K : Int)) = ((s.t + K : Nat) : Int) := by rw [IntKind.wrap_u64]; omega
            have HL2 := Lib.hid hL2
            have hKe : K = B + (takC x.ch m).2 := by rw [← HTE.out]; exact HK.out
            have HKE := Lib.hid hKe
            have tfin : Turns s.foot w ((wr.setCell ⟨g, k * 4 + 3, none⟩ (.slice P q r)).setCell ⟨s.L, 1, none⟩ (.int .u64 ((s.t + K : Nat) : Int))) := (((HTT.out.trans (Turns.of_below (F := s.foot) hb) (fun _ => .inl)).trans (Turns.setCell (F := s.foot) _ _ _ (foot_g hv)) (fun _ => .inl)).trans (Turns.setCell (F := s.foot) _ _ _ (foot_L s)) (fun _ => .inl))
            have TF := Lib.hid tfin
            clear hL hL2 hown hx1 hv1 hKe hqe tfin
            go_wp2
            go_ret2
            refine ⟨?_, LgTo.mk HL2.out rfl ?_ TF.out⟩
            · have hke : ((B : Int) + ((takC x.ac.ch m).2 : Int)) = (K : Int) := by have : K = B + (takC x.ac.ch m).2 := HKE.out; omega
              first | (rw [show B + (takC x.ac.ch m).2 = K from HKE.out.symm]; rfl) | (rw [hke]; rfl) | (push_cast; rw [hke]; rfl)
            · rw [show B + (takC x.ac.ch m).2 = K from HKE.out.symm, show (takC x.ac.ch m).1 = R from HR.out.symm]
              simp [Lm.ab, Ab.put, List.map_set, Am.ac]
      · obtain ⟨c, hcx⟩ : ∃ c, x.ch[j]? = some c := ⟨_, List.getElem?_eq_getElem (by rw [← HM.out]; omega)⟩
        obtain ⟨r1, r2, r3⟩ := slR_step (m := m) hcx
        rw [← HT.out] at r2 r3
        have hcb : c.1 + T ≤ cht x.ch := by
          have q1 := cht_split x.ch (j + 1)
          have q2 := cht_take_succ hcx
          have q3 := takC_amount (x.ch.drop (j + 1)) m
          have := HT.out
          omega
        obtain ⟨gc, cc', hxc⟩ : ∃ gc cc', (Value.slice A1 M d1) = .slice (some ⟨gc, 0, none⟩) (slR x.ch m (j + 1)).length cc' := by
          rcases hg.cforms hx1 with ⟨_, hnil⟩ | ⟨gc, cc', hxc, _⟩
          · dsimp only at hnil
            have := congrArg List.length hnil
            rw [slR_len, ← HM.out] at this
            simp at this
            omega
          · exact ⟨gc, cc', hxc⟩
        have hxc2 := hxc
        injection hxc2 with hA1 hA2 hA3
        subst hA1 hA3
        clear hA2
        obtain ⟨q, hq⟩ : ∃ q, q = min (m - T) c.1 := ⟨_, rfl⟩
        rw [← hq] at r2 r3
        obtain ⟨z0, z1, zf⟩ := hg.ccell hx1 r1 hxc
        have hset := hg.drew.set_c hx1 r1 hxc (c.1 - q)
        simp only [List.set_set] at hset
        rw [← r2] at hset
        have htn : Turns s.foot w (wr.drew.setCell ⟨gc, j * 2, none⟩ (.int .u64 ((c.1 - q : Nat) : Int))) := ht.drew.trans (Turns.setCell (F := fun b => b = gc) wr.drew _ _ rfl) (fun b e => .inr (by subst e; exact P8.out _ rfl))
        have zf0 := zf (j * 2)
        have hww : IntKind.u64.wrap ((n : Int) - (K : Int)) = ((m - T : Nat) : Int) := by have := HK.out; have := HME.out; rw [IntKind.wrap_u64]; omega
        have hmq : min ((m - T : Nat) : Int) (c.1 : Int) = (q : Int) := by omega
        have hwc : IntKind.u64.wrap ((c.1 : Int) - (q : Int)) = ((c.1 - q : Nat) : Int) := by rw [IntKind.wrap_u64]; omega
        have hwk : IntKind.u64.wrap ((K : Int) + (q : Int)) = ((K + q : Nat) : Int) := by have := HK.out; rw [IntKind.wrap_u64]; omega
        have hwj : IntKind.i64.wrap ((j : Int) - 1) = (j : Int) - 1 := by rw [IntKind.wrap_i64]; omega
        have hjM' : (j : Int) < (M : Int) := by omega
        have hjM2 : j < M := by omega
        have HSET := Lib.hid hset
        have HTN := Lib.hid htn
        have R3 := Lib.hid r3
        clear hset htn r1 r2 r3 hg ht hq hxc hcx hx1 hv1 zf z1 ff hcb
        generalize m - T = D at *
        go_wp2_with fail
        go_region
        all_goals
          go_wp2_with fail
          go_roundg j
          case measure => omega
          case rel => exact ⟨K + q, T + q, by omega, by have := HK.out; omega, R3.out.symm, by go_num, by go_num, HSET.out, HTN.out⟩
end Go.Proofs.Ytahleoidbnlllaa
