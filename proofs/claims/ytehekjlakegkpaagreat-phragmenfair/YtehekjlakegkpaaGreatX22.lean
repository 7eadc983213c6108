/-
  phragmen.race's elect: one is elected. For every race that lies well formed and has a runner, with scores that are far from too long.
  A voter's shares, as they lie while they are made: a row of the call's own, a box with a load. No program is walked here.
-/
import Derived.Test.YtehekjlakegkpaaGreatX21
import Derived.Test.YtehekjlakegkpaaGreatX20
section
namespace Go.Proofs.YtehekjlakegkpaaGreat
open Go.RowKit
set_option linter.unusedVariables false

/-- The first place with the least value, of so many. -/
def BestN (f : Nat → Rat) (n b : Nat) : Prop := b < n ∧ (∀ j, j < n → f b ≤ f j) ∧ ∀ j, j < b → f b < f j
theorem BestN.one (f : Nat → Rat) : BestN f 1 0 := by
  refine ⟨by omega, fun j hj => ?_, fun j hj => by omega⟩
  obtain rfl : j = 0 := by omega
  exact Rat.le_refl
theorem BestN.lt {f : Nat → Rat} {n b : Nat} (h : BestN f n b) (hl : f n < f b) : BestN f (n + 1) n := by
  obtain ⟨h1, h2, h3⟩ := h
  refine ⟨by omega, fun j hj => ?_, fun j hj => ?_⟩
  · rcases Nat.lt_or_ge j n with e | e
    · have := h2 j e; grind
    · obtain rfl : j = n := by omega
      exact Rat.le_refl
  · have := h2 j hj; grind
theorem BestN.ge {f : Nat → Rat} {n b : Nat} (h : BestN f n b) (hl : ¬ f n < f b) : BestN f (n + 1) b := by
  obtain ⟨h1, h2, h3⟩ := h
  refine ⟨by omega, fun j hj => ?_, h3⟩
  rcases Nat.lt_or_ge j n with e | e
  · exact h2 j e
  · obtain rfl : j = n := by omega
    grind
/-- What a runner's score needs. -/
structure RnOk (vs : List Vr) (m : Rm) (u : Rn) : Prop where
  pl : ∀ p ∈ u.ps, p < m.n ∧ zl m.lt p < (m.es.length : Int)
  sm : (u.ps.map fun p => (vs[p]?.map Vr.st).getD 0).sum < 18446744073709551616
  st : 0 < u.st ∧ u.st < 18446744073709551616
  sc : Sm (scM vs m u)
/-- The scores by places. -/
def svM (vs : List Vr) (m : Rm) (j : Nat) : Rat := (m.rs[j]?.map (scM vs m)).getD 0
/-- Each of these voters' latest seat is that one. -/
def setA (lt : List Int) (ps : List Nat) (z : Int) : List Int := ps.foldl (fun l p => l.set p z) lt
theorem setA_append (lt : List Int) (ps qs : List Nat) (z : Int) : setA lt (ps ++ qs) z = setA (setA lt ps z) qs z := by simp [setA]
theorem setA_len (lt : List Int) (ps : List Nat) (z : Int) : (setA lt ps z).length = lt.length := by
  unfold setA
  induction ps generalizing lt with
  | nil => rfl
  | cons p ps ih => rw [List.foldl_cons, ih]; simp
/-- What lies in new memory lies in no old block. -/
theorem nx_pr {w : World} {lo : Nat} {f : Fp} {x : Rat} (h : NX w lo f x) : (∀ F : Nat → Prop, (∀ b, F b → b < lo) → Pr F f.A f.n) ∧ (∀ F : Nat → Prop, (∀ b, F b → b < lo) → Pr F f.B f.m) := by
  refine ⟨fun F hF a e h0 hh => ?_, fun F hF a e h0 hh => ?_⟩
  · obtain ⟨b, o, e', hb, _⟩ := h.1.2 h0
    rw [e'] at e
    injection e with e
    subst e
    have := hF _ hh; dsimp only at this; omega
  · obtain ⟨b, o, e', hb, _⟩ := h.2.2 h0
    rw [e'] at e
    injection e with e
    subst e
    have := hF _ hh; dsimp only at this; omega
/-- A box with a score that was made since. -/
structure LeastIn (S lo : Nat) (wr : World) (f : Fp) (x : Rat) : Prop where
  kb : KB wr S 38 #[.slice f.A f.n f.c, .slice f.B f.m f.d]
  rx : RX wr f x
  p1 : Pr (fun b => b = S) f.A f.n
  p2 : Pr (fun b => b = S) f.B f.m
  q1 : ∀ F : Nat → Prop, (∀ b, F b → b < lo) → Pr F f.A f.n
  q2 : ∀ F : Nat → Prop, (∀ b, F b → b < lo) → Pr F f.B f.m
theorem LeastIn.below {S lo : Nat} {w w' : World} {f : Fp} {x : Rat} (h : LeastIn S lo w f x) (hb : Below w.heap.size w w') : LeastIn S lo w' f x := ⟨h.kb.below hb h.kb.lt, h.rx.below hb (Nat.le_refl _), h.p1, h.p2, h.q1, h.q2⟩
theorem LeastIn.drew {S lo : Nat} {w : World} {f : Fp} {x : Rat} (h : LeastIn S lo w f x) : LeastIn S lo w.drew f x := ⟨h.kb, h.rx, h.p1, h.p2, h.q1, h.q2⟩
/-- Another score is laid in the box. -/
theorem least_put {S lo Q : Nat} {wA w9 : World} {cs : Array Value} {A2 B2 : Option Addr} {n2 c2 m2 d2 : Nat} {x : Rat} (hk : KB w9 S 38 cs) (hf : RX w9 ⟨A2, n2, c2, B2, m2, d2⟩ x)
    (hp : (∀ F : Nat → Prop, (∀ b, F b → b < Q) → Pr F A2 n2) ∧ (∀ F : Nat → Prop, (∀ b, F b → b < Q) → Pr F B2 m2)) (hT : Turns (fun b => b = S) wA w9) (hSQ : S < Q) (hlo : lo ≤ Q) :
    (∀ u v, cs = #[u, v] → LeastIn S lo ((w9.setCell ⟨S, 0, none⟩ (.slice A2 n2 c2)).setCell ⟨S, 1, none⟩ (.slice B2 m2 d2)) ⟨A2, n2, c2, B2, m2, d2⟩ x) ∧ Turns (fun b => b = S) wA ((w9.setCell ⟨S, 0, none⟩ (.slice A2 n2 c2)).setCell ⟨S, 1, none⟩ (.slice B2 m2 d2)) := by
  have h1 := hp.1 (fun b => b = S) (fun b e => by omega)
  have h2 := hp.2 (fun b => b = S) (fun b e => by omega)
  have hS7 : Turns (fun b => b = S) w9 ((w9.setCell ⟨S, 0, none⟩ (.slice A2 n2 c2)).setCell ⟨S, 1, none⟩ (.slice B2 m2 d2)) := ((Turns.refl (fun b => b = S) w9).setCell' (p := ⟨S, 0, none⟩) rfl _).setCell' (p := ⟨S, 1, none⟩) rfl _
  refine ⟨fun u v e => ⟨?_, hf.turns hS7 h1 h2, h1, h2, fun F hF => hp.1 F (fun b hb => Nat.lt_of_lt_of_le (hF b hb) hlo), fun F hF => hp.2 F (fun b hb => Nat.lt_of_lt_of_le (hF b hb) hlo)⟩, (hT.setCell' (p := ⟨S, 0, none⟩) rfl _).setCell' (p := ⟨S, 1, none⟩) rfl _⟩
  subst e
  simpa using (hk.set 0 (.slice A2 n2 c2)).set 1 (.slice B2 m2 d2)
theorem seInfo : (Tryz.prog.info? 40).map (fun i => (i.zero, i.size, i.bytes)) = some (some (.agg #[.int .i64 0, .slice none 0 0, .slice none 0 0]), 3, 56) := by kernel_rfl
/-- What elect makes of a race. -/
def EleTo (vs : List Vr) (base : Nat) (m : Rm) (w w' : World) : Prop := ∃ (m' : Rm) (b : Nat) (u : Rn), BestN (svM vs m) m.rs.length b ∧ m.rs[b]? = some u ∧ RcIn w' base m' ∧ m'.P = m.P ∧ m'.vA = m.vA ∧ m'.n = m.n ∧ m'.vc = m.vc ∧
  m'.rs = m.rs.eraseIdx b ∧ m'.es.map Se.out = m.es.map Se.out ++ [(u.cd, scM vs m u)] ∧ m'.lt = setA m.lt u.ps (m.es.length : Int) ∧ Turns m.F w w' ∧ (∀ x, m'.F x → m.F x ∨ w.heap.size ≤ x)
/-- A race with a seat more, ahead of the deletion. -/
def Ele14 (vs : List Vr) (base : Nat) (m : Rm) (u : Rn) (f : Fp) (w0 wx : World) : Prop := ∃ v' : Value, RcIn wx base { m with lt := setA m.lt u.ps (m.es.length : Int), ev := v', es := m.es ++ [⟨u.cd, f, scM vs m u⟩] } ∧
  Turns (Rm.F { m with lt := setA m.lt u.ps (m.es.length : Int) }) w0 wx ∧ (v'.ownBlock = m.ev.ownBlock ∨ v'.ownBlock = some w0.heap.size)
theorem ele_end {vs : List Vr} {base : Nat} {m : Rm} {w wr w8 w10 : World} {o : Obj} {bi : Nat} {u : Rn} {f : Fp} {v' v9 : Value} (hR : RcIn w base m) (hBe : BestN (svM vs m) m.rs.length bi) (hu : m.rs[bi]? = some u) (hTw : Turns m.F w wr)
    (hT8 : Turns (Rm.F { m with lt := setA m.lt u.ps (m.es.length : Int) }) (wr.alloc o).drew w8) (h5 : v'.ownBlock = m.ev.ownBlock ∨ v'.ownBlock = some (wr.alloc o).drew.heap.size)
    (hQ : RcIn w8 base { m with lt := setA m.lt u.ps (m.es.length : Int), ev := v', es := m.es ++ [⟨u.cd, f, scM vs m u⟩] })
    (ho : w10.ownsRow base 180 3 v9 (m.rs.eraseIdx bi).length (rnC (m.rs.eraseIdx bi))) (ht : Turns (fun b => m.rv.ownBlock = some b) w8 w10) (hvb : v9.ownBlock = m.rv.ownBlock) :
    EleTo vs base m w (w10.setCell ⟨m.P, 1, none⟩ v9) := by
  obtain ⟨h1, h2⟩ := hQ.delR bi ho ht hvb
  have hs0 := hTw.size
  have hs1 : (wr.alloc o).drew.heap.size = wr.heap.size + 1 := by show (wr.alloc o).heap.size = _; simp
  have hFB : ∀ b, Rm.F { m with lt := setA m.lt u.ps (m.es.length : Int), ev := v', es := m.es ++ [⟨u.cd, f, scM vs m u⟩] } b → m.F b ∨ w.heap.size ≤ b := fun b hb => by
    rcases hb with hb | hb | hb | hb
    · exact .inl (.inl hb)
    · exact .inl (.inr (.inl hb))
    · exact .inl (.inr (.inr (.inl hb)))
    · rcases h5 with e | e
      · exact .inl (.inr (.inr (.inr (e ▸ hb))))
      · rw [show v'.ownBlock = some b from hb] at e
        injection e with e
        rw [hs1] at e
        exact .inr (by omega)
  refine ⟨_, bi, u, hBe, hu, h1, rfl, rfl, rfl, rfl, rfl, ?_, rfl, ?_, fun b hb => ?_⟩
  · show (m.es ++ [_]).map Se.out = _
    rw [List.map_append]; rfl
  · have t1 : Turns m.F w (wr.alloc o).drew := (hTw.alloc' o).drew
    exact (t1.trans hT8 (fun b hb => .inl hb)).trans h2 hFB
  · rcases hb with hb | hb | hb | hb
    · exact .inl (.inl hb)
    · exact .inl (.inr (.inl hb))
    · exact .inl (.inr (.inr (.inl (hvb ▸ hb))))
    · exact hFB b (.inr (.inr (.inr hb)))
set_option maxHeartbeats 6400000 in
set_option maxRecDepth 100000 in
theorem elect_any {w : World} {base D : Nat} {m : Rm} {vs : List Vr} (h : RcIn w base m) (hv : Rv w m.vA m.n m.vc vs) (hz : SzM m D) (hr0 : 0 < m.rs.length) (hr32 : m.rs.length ≤ 32) (hok : ∀ u ∈ m.rs, RnOk vs m u) (hbase : base ≤ w.heap.size)
    (hsc : ∀ W, RcIn W base m → Rv W m.vA m.n m.vc vs → ∀ u ∈ m.rs, Calls Tryz.prog 137 #[.pointer (some ⟨m.P, 0, none⟩), u.val] W (OutX W (scM vs m u))) :
    Calls Tryz.prog 86 #[.pointer (some ⟨m.P, 0, none⟩)] w fun e w' => e = .returned (.tuple #[]) ∧ EleTo vs base m w w' := by
  have HSC := Lib.hid hsc
  have HR := Lib.hid h
  have HV := Lib.hid hv
  have HOK := Lib.hid hok
  obtain ⟨u0, hu0⟩ : ∃ u0, m.rs[0]? = some u0 := ⟨_, List.getElem?_eq_getElem hr0⟩
  obtain ⟨gR, cR, hrv, hgb, hgl, hnc, hcm, c0, c1, c2⟩ := h.runner hu0
  have p1 := h.blk.cell 1
  rw [hrv] at p1
  simp at p1
  simp only [Nat.zero_mul, Nat.zero_add] at c0 c1 c2
  have hn0 : (0 : Int) < (m.rs.length : Int) := by omega
  have hs0 := hsc w h hv u0 (List.mem_of_getElem? hu0)
  unfold Rn.val at hs0
  have HS0 := Lib.hid hs0
  clear hsc hok hs0 h hv
  go_enter Tryz.func86, Tryz.ntmps86
  go_wp2_with fail
  refine HS0.out.mono ?_
  rintro e w1 ⟨⟨A0, n0, d0, B0, m0, e0⟩, rfl, hf0, hb1⟩
  unfold Fp.val
  dsimp only
  have hkL := KB.new w1 38 #[.slice A0 n0 d0, .slice B0 m0 e0]
  have hA1 : Below w1.heap.size w1 (w1.alloc (.cells #[.slice A0 n0 d0, .slice B0 m0 e0] 38)) := (Below.refl _ _).alloc (Nat.le_refl _) _
  have hfL := hf0.rx.below hA1 (Nat.le_refl _)
  have hpA : Pr (fun b => b = w1.heap.size) A0 n0 ∧ Pr (fun b => b = w1.heap.size) B0 m0 := ⟨fun a e hn hh => by have := hf0.1.1.lt a e hn; omega, fun a e hn hh => by have := hf0.2.1.lt a e hn; omega⟩
  have hpN := nx_pr hf0
  have hbA := hb1.trans (hA1.mono hb1.size)
  have hs1 := hb1.size
  clear hf0 hb1 hA1 HS0 c0 c1 c2 p1
  go_upto_region 1 with (fail)
  obtain ⟨wA, hwA⟩ : ∃ wA, w1.alloc (Obj.cells #[Value.slice A0 n0 d0, Value.slice B0 m0 e0] 38) = wA := ⟨_, rfl⟩
  rw [hwA] at hkL hfL hbA ⊢
  clear hwA
  generalize hS : w1.heap.size = S at *
  have hCA := HR.out.below hbA (Nat.le_refl _)
  have p1 := hCA.blk.cell 1
  rw [hrv] at p1
  simp at p1
  have hSl := hkL.lt
  clear hCA
  have hn1 : (1 : Int) ≤ (m.rs.length : Int) := by omega
  have hHBA := Lib.hid hbA
  clear hbA
  obtain ⟨N, hN⟩ : ∃ N, m.rs.length = N + 1 := ⟨m.rs.length - 1, by omega⟩
  go_cut [22, 23, 24] (fun s22 s23 s24 wx => wA = wx ∧ s23 = .int .i64 (N : Int) ∧ s24 = .int .i64 0 ∧ ∃ ad c, s22 = .slice (some ad) N c ∧ (0 < N → ad = ⟨gR, 3, none⟩))
  case first =>
    by_cases hc1 : cR = 1
    · subst hc1
      obtain rfl : N = 0 := by omega
      go_wp2_with fail
      go_meet
      exact ⟨rfl, rfl, rfl, _, _, rfl, fun h => by omega⟩
    · go_wp2_with fail
      go_meet
      exact ⟨rfl, rfl, rfl, _, _, rfl, fun _ => rfl⟩
  case rest =>
    obtain ⟨rfl, rfl, rfl, ad, cc, rfl, had⟩ := hcut
    have hsv0 : scM vs m u0 = svM vs m 0 := by unfold svM; rw [hu0]; rfl
    rw [hsv0] at hfL
    clear p1
    go_wp2_with fail
    go_loopg [2, 24] N (fun g9 bv tv wr => ∃ (k bi : Nat) (f : Fp), g9 = N - k ∧ k ≤ N ∧ bv = .int .i64 (bi : Int) ∧ tv = .int .i64 (k : Int) ∧ LeastIn S w.heap.size wr f (svM vs m bi) ∧ BestN (svM vs m) (k + 1) bi ∧ Turns (fun b => b = S) wA wr)
    case atStart => exact ⟨0, 0, ⟨A0, n0, d0, B0, m0, e0⟩, rfl, by omega, rfl, rfl, ⟨hkL, hfL, hpA.1, hpA.2, fun F hF => hpN.1 F hF, fun F hF => hpN.2 F hF⟩, BestN.one _, Turns.refl _ _⟩
    case round =>
      obtain ⟨k, bi, ⟨A, n, c, B, m1, d⟩, hg9, hk, rfl, rfl, hLs, hBe, hT⟩ := hrel
      have hb : Below w.heap.size w wr := hHBA.out.trans (hT.below (by have := hHBA.out.size; omega) (fun b hb => by omega))
      clear hkL hfL hpA hpN
      by_cases hlt : k < N
      · obtain rfl := had (by omega)
        obtain ⟨u, hu⟩ : ∃ u, m.rs[k + 1]? = some u := ⟨_, List.getElem?_eq_getElem (by omega)⟩
        have hum := List.mem_of_getElem? hu
        have hC := HR.out.below hb (Nat.le_refl _)
        obtain ⟨gR', cR', hrv', _, hgl', _, _, x0, x1, x2⟩ := hC.runner hu
        rw [hrv] at hrv'
        injection hrv' with e1 e2 e3
        injection e1 with e1
        injection e1 with e1
        subst e1
        have ea : (k + 1) * 3 = 3 + k * 3 := by omega
        rw [ea] at x0 x1 x2
        have hsvk : svM vs m (k + 1) = scM vs m u := by unfold svM; rw [hu]; rfl
        have hSmk := (HOK.out u hum).sc
        have hSmb : Sm (svM vs m bi) := by
          obtain ⟨ub, hub⟩ : ∃ ub, m.rs[bi]? = some ub := ⟨_, List.getElem?_eq_getElem (by have := hBe.1; omega)⟩
          have := (HOK.out ub (List.mem_of_getElem? hub)).sc
          unfold svM; rw [hub]; exact this
        have hb7 : Below wr.heap.size wr (wr.alloc (.cells #[.int .i64 u.cd, .slice u.A u.n u.c, .int .u64 (u.st : Int)] 180)) := (Below.refl _ _).alloc (Nat.le_refl _) _
        have hK7 := KB.new wr 180 #[.int .i64 u.cd, .slice u.A u.n u.c, .int .u64 (u.st : Int)]
        have hCall := HSC.out _ (hC.below hb7 (Nat.le_refl _)) ((HV.out.below hb (Nat.le_refl _)).below hb7 (Nat.le_refl _)) u hum
        rw [← hsvk] at hCall hSmk
        have y0 := hK7.cell 0
        have y1 := hK7.cell 1
        have y2 := hK7.cell 2
        simp at y0 y1 y2
        have hki : (k : Int) < (N : Int) := by omega
        obtain ⟨ucd, uA, un, uc, ups, ust⟩ := u
        unfold Rn.val at hCall
        dsimp only at *
        have HCALL := Lib.hid hCall
        clear hCall hC hsvk hu hum
        go_wp2_with fail
        refine HCALL.out.mono ?_
        rintro e w8 ⟨⟨A2, n2, c2, B2, m2, d2⟩, rfl, hf2, hb8⟩
        unfold Fp.val
        dsimp only
        have hkQ := KB.new w8 38 #[.slice A2 n2 c2, .slice B2 m2 d2]
        have hAQ : Below w8.heap.size w8 (w8.alloc (.cells #[.slice A2 n2 c2, .slice B2 m2 d2] 38)) := (Below.refl _ _).alloc (Nat.le_refl _) _
        have hB8 := (hb7.trans (hb8.mono hb7.size)).trans (hAQ.mono (hb7.trans (hb8.mono hb7.size)).size)
        have hs8 := (hb7.trans (hb8.mono hb7.size)).size
        have hf2' := hf2.rx.below hAQ (Nat.le_refl _)
        have hfp := nx_pr (hf2.mono (lo' := wr.heap.size) hb7.size)
        have hLs8 := hLs.rx.below hB8 (Nat.le_refl _)
        have hkS8 := hLs.kb.below hB8 hLs.kb.lt
        have hSr := hLs.kb.lt
        have hbs := hb.size
        clear hf2 hb8 hb7 hK7 HCALL y0 y1 y2 x0 x1 x2
        go_upto_region 5 with (fail)
        obtain ⟨wB, hwB⟩ : ∃ wB, w8.alloc (Obj.cells #[Value.slice A2 n2 c2, Value.slice B2 m2 d2] 38) = wB := ⟨_, rfl⟩
        rw [hwB] at hkQ hB8 hf2' hLs8 hkS8 ⊢
        clear hwB hAQ
        generalize hQ : w8.heap.size = Q at *
        have q0 := hkQ.cell 0
        have q1 := hkQ.cell 1
        have r0 := hkS8.cell 0
        have r1 := hkS8.cell 1
        simp at q0 q1 r0 r1
        have HCM := Lib.hid (xcmp2_any hf2' hLs8 hSmk hSmb)
        unfold Fp.val at HCM
        dsimp only at HCM
        go_wp2_with fail
        refine HCM.out.mono ?_
        rintro e w9 ⟨rfl, hb9⟩
        have hB9 := hB8.trans (hb9.mono hB8.size)
        have hkQ9 := hkQ.below hb9 hkQ.lt
        have hkS9 := hkS8.below hb9 hkS8.lt
        have hf29 := hf2'.below hb9 (Nat.le_refl _)
        have hLs9 := hLs8.below hb9 (Nat.le_refl _)
        have hT9 : Turns (fun b => b = S) wA w9 := hT.bel hB9 hT.size (Nat.le_refl _)
        clear hkQ hkS8 hf2' hLs8 hb9 HCM q0 q1 r0 r1 hT hB8 hB9
        by_cases hl : svM vs m (k + 1) < svM vs m bi
        · have hcv : cmpX (svM vs m (k + 1)) (svM vs m bi) = -1 := if_pos hl
          rw [hcv]
          have hBe' := hBe.lt hl
          have v0 := hkQ9.cell 0
          have v1 := hkQ9.cell 1
          have g0 := hkS9.frozen 0
          have g1 := hkS9.frozen 1
          have r0 := hkS9.cell 0
          have r1 := hkS9.cell 1
          simp at v0 v1 r0 r1
          have HEND := Lib.hid (least_put (lo := w.heap.size) hkS9 hf29 hfp hT9 (by omega) (by omega))
          clear hkQ9 hkS9 hf29 hfp hT9 hLs9 hLs
          go_upto_region 6 with (fail)
          go_region
          all_goals
            go_wp2
            go_roundg (N - (k + 1))
            case measure => omega
            case rel => exact ⟨k + 1, k + 1, ⟨A2, n2, c2, B2, m2, d2⟩, rfl, by omega, by go_num, by go_num, (HEND.out.1 _ _ rfl).drew, hBe', HEND.out.2.drew⟩
        · have hcv : (cmpX (svM vs m (k + 1)) (svM vs m bi) < 0) = False := by
            unfold cmpX; rw [if_neg hl]; split <;> simp
          have hBe' := hBe.ge hl
          generalize cmpX (svM vs m (k + 1)) (svM vs m bi) = cz at *
          have hcz : ¬ cz < 0 := by rw [hcv]; exact id
          go_wp2
          go_roundg (N - (k + 1))
          case measure => omega
          case rel => exact ⟨k + 1, bi, ⟨A, n, c, B, m1, d⟩, rfl, by omega, rfl, by go_num, ⟨hkS9, hLs9, hLs.p1, hLs.p2, hLs.q1, hLs.q2⟩, hBe', hT9⟩
      · obtain rfl : k = N := by omega
        clear HSC had hg9
        rw [← hN] at hBe
        obtain ⟨u, hu⟩ : ∃ u, m.rs[bi]? = some u := ⟨_, List.getElem?_eq_getElem hBe.1⟩
        have hum := List.mem_of_getElem? hu
        have hC := HR.out.below hb (Nat.le_refl _)
        obtain ⟨gR', cR', hrv', _, hgl', _, _, x0, x1, x2⟩ := hC.runner hu
        rw [hrv] at hrv'
        injection hrv' with e1 e2 e3
        injection e1 with e1
        injection e1 with e1
        subst e1 e3
        have hsvb : svM vs m bi = scM vs m u := by unfold svM; rw [hu]; rfl
        have P1 := hC.blk.cell 1
        rw [hrv] at P1
        simp at P1
        have hbi : (bi : Int) < (m.rs.length : Int) := by have := hBe.1; omega
        have hokU := HOK.out u hum
        rw [hsvb] at hLs
        obtain ⟨ucd, uA, un, uc, ups, ust⟩ := u
        dsimp only at *
        have hkW := KB.new wr 180 #[.int .i64 ucd, .slice uA un uc, .int .u64 (ust : Int)]
        have hbW : Below wr.heap.size wr (wr.alloc (.cells #[.int .i64 ucd, .slice uA un uc, .int .u64 (ust : Int)] 180)) := (Below.refl _ _).alloc (Nat.le_refl _) _
        have hCW := hC.below hbW (Nat.le_refl _)
        have hLW := hLs.below hbW
        have hBW := hb.trans (hbW.mono hb.size)
        have hPL := hokU.pl
        have hSr := hLs.kb.lt
        have hPbase := hC.blk.lt
        clear hLs hC hbW hb hT
        go_upto_region 9 with (fail)
        obtain ⟨wW, hwW⟩ : ∃ wW, wr.alloc (.cells #[.int .i64 ucd, .slice uA un uc, .int .u64 (ust : Int)] 180) = wW := ⟨_, rfl⟩
        rw [hwW] at hkW hCW hLW hBW ⊢
        clear hwW x0 x1 x2 P1
        have w1' := hkW.cell 1
        simp at w1'
        generalize hWb : wr.heap.size = Wb at *
        have HCW := Lib.hid hCW
        obtain ⟨EA, ec, hev⟩ : ∃ EA ec, m.ev = .slice EA m.es.length ec := by
          rcases own_forms hCW.eo with ⟨e, hl, _⟩ | ⟨g, cap, e, _⟩
          · exact ⟨none, 0, by rw [e, hl]⟩
          · exact ⟨_, _, e⟩
        have hun := (hCW.rd _ hum).1
        have hunl := hun.len
        rw [ints_len] at hunl
        have huncap := hun.cap
        have hunmax := hun.max
        dsimp only at hunl huncap hunmax
        clear hun hCW
        go_wp2_with fail
        go_loopg [50] un (fun g9 tv wr => ∃ k : Nat, g9 = un - k ∧ k ≤ un ∧ tv = .int .i64 (k : Int) ∧ RcIn wr base { m with lt := setA m.lt (ups.take k) (m.es.length : Int) } ∧ Turns (fun b => b = m.G) wW wr)
        case atStart => exact ⟨0, rfl, by omega, rfl, HCW.out, Turns.refl _ _⟩
        case round =>
          obtain ⟨k, hg9, hk, rfl, hC, hT⟩ := hrel
          by_cases hlt : k < un
          · have hRi := (hC.rd _ hum).1
            dsimp only at hRi
            obtain ⟨bb, oo, rfl, hbb, hcc⟩ := hRi.at_ (by omega)
            have d0 := hcc k hlt
            rw [zl_ints] at d0
            have hmem : el ups k ∈ ups := by rw [el_get _ _ (by omega)]; exact List.getElem_mem _
            have hpn := (hPL _ hmem).1
            have htk : ups.take (k + 1) = ups.take k ++ [el ups k] := by rw [List.take_add_one, List.getElem?_eq_getElem (by omega), ← el_get _ _ (by omega)]; rfl
            have hset := hC.setL (el ups k) (m.es.length : Int)
            have hP3 := hC.blk.cell 3
            have hP2 := hC.blk.cell 2
            have hP2' : wr.cell? ⟨m.P, 2, none⟩ = some (.slice EA m.es.length ec) := by rw [hP2]; show some m.ev = _; rw [hev]
            simp at hP3
            have hG0 : wr.cell? ⟨m.G, el ups k, none⟩ = some (.int .i64 (zl (setA m.lt (ups.take k) (m.es.length : Int)) (el ups k))) := by
              have hl2 := hC.ll
              dsimp only at hl2
              rw [hC.lo.cell, List.getElem?_toArray, List.getElem?_map, List.getElem?_eq_getElem (by dsimp only; omega), zl_get _ _ (by omega)]; rfl
            have hGf := hC.lo.frozen (el ups k)
            have hT2 := hT.setCell' (p := ⟨m.G, el ups k, none⟩) rfl (.int .i64 (m.es.length : Int))
            have HN := Lib.hid (And.intro hset.1 hT2)
            have hpi : (el ups k : Int) < (m.n : Int) := by omega
            have hki : (k : Int) < (un : Int) := by omega
            have hsa : (setA m.lt (ups.take k) (m.es.length : Int)).set (el ups k) (m.es.length : Int) = setA m.lt (ups.take (k + 1)) (m.es.length : Int) := by rw [htk, setA_append]; rfl
            have HSA := Lib.hid hsa
            clear hcc hRi hC hT hT2 hset hP2 hmem htk hsa hev
            generalize el ups k = p at *
            go_upto_region 12 with (fail)
            go_region
            all_goals
              go_wp2
              go_roundg (un - (k + 1))
              case measure => omega
              case rel =>
                refine ⟨k + 1, rfl, by omega, by go_num, ?_, HN.out.2.drew⟩
                have h9 := HN.out.1.drew
                rw [HSA.out] at h9
                exact h9
          · obtain rfl : k = un := by omega
            rw [List.take_of_length_le (by omega)] at hC
            have hTa : Turns m.F wW wr := hT.mono (fun b e => .inl (.inr (.inl e)))
            have hsW := hBW.size
            have hTw : Turns m.F w wr := (Turns.of_below (F := m.F) hBW).trans hTa (fun b hb => .inl hb)
            have hSG : S ≠ m.G := hLW.kb.ne HCW.out.lo (by decide)
            have hWG : Wb ≠ m.G := hkW.ne HCW.out.lo (by decide)
            have hk7 := hkW.turns hT (fun e => hWG e)
            have hkS := hLW.kb.turns hT (fun e => hSG e)
            have hGw : m.G < w.heap.size := HR.out.lo.lt
            have hfx := hLW.rx.turns hT (hLW.q1 _ (fun b e => by omega)) (hLW.q2 _ (fun b e => by omega))
            have hfp1 := hLW.q1 m.F (fun b hb => (HR.out.lt hb).2)
            have hfp2 := hLW.q2 m.F (fun b hb => (HR.out.lt hb).2)
            dsimp only at hkS hfp1 hfp2
            have hAl : Below wr.heap.size wr (wr.alloc (.cells #[.int .i64 ucd, .slice A n c, .slice B m1 d] 40)) := (Below.refl _ _).alloc (Nat.le_refl _) _
            have hCa0 := hC.below hAl (Nat.le_refl _)
            have hCa := hCa0.drew
            have hfa := hfx.below hAl.drew (Nat.le_refl _)
            have w0 := hk7.cell 0
            have s0 := hkS.cell 0
            have s1 := hkS.cell 1
            have e2 := hC.blk.cell 2
            have e2' := hCa0.blk.cell 2
            simp at w0 s0 s1 e2 e2'
            have HSR := Lib.hid (show Sr 3 (wr.alloc (.cells #[.int .i64 ucd, .slice A n c, .slice B m1 d] 40)).drew (some ⟨wr.heap.size, 0, none⟩) 1 1 _ from Sr.new (sz := 3) wr 40 #[.int .i64 ucd, .slice A n c, .slice B m1 d] rfl)
            have HCA := Lib.hid hCa
            have HPU := Lib.hid (fun (v' : Value) (w' : World) => RcIn.pushE (w' := w') (v' := v') hCa ⟨ucd, ⟨A, n, c, B, m1, d⟩, _⟩ hfa hfp1 hfp2)
            have he8 := hz.len
            have hwb : base ≤ wr.heap.size := by have := hTw.size; omega
            clear hCa hCa0 hfa hAl hfx hk7 hkS hT hTa hLW hkW
            go_upto_region 14 with (fail)
            go_cut [] (fun wx => Ele14 vs base m ⟨ucd, uA, k, uc, ups, ust⟩ ⟨A, n, c, B, m1, d⟩ (wr.alloc (.cells #[.int .i64 ucd, .slice A n c, .slice B m1 d] 40)).drew wx)
            case first =>
              go_region_law ((refine step_appT 3 56 _ 40 rfl (.tmp 70) (.tmp 75) 28 rfl base Tryz.underlying28 seInfo rfl (by decide) m.ev ⟨wr.heap.size, 0, none⟩ m.es.length 1 (seC m.es) [.int .i64 ucd, .slice A n c, .slice B m1 d] (by simp [Act.eval, hev]) (by simp [Act.eval]) HCA.out.eo HSR.out (by simp [Value.oneCell']) (by unfold maxLen; omega) (by omega) (by simp; omega) ?_); intro A9 c9 w7 o1 t1 h5; have HP := Lib.hid (HPU.out _ _ o1 t1 h5); have k7 := HCA.out.blk.turns t1 (fun e => HCA.out.ne_eP e rfl); have f7 := k7.frozen 2; have c7 := k7.cell 2; simp at c7; have H5 := Lib.hid h5; clear t1 h5 o1 k7)
              all_goals
                go_wp2_with fail
                go_meet
                exact ⟨_, HP.out.1, HP.out.2, H5.out⟩
            case rest =>
              obtain ⟨v', hQ, hT8, h5⟩ := hcut
              have HP := Lib.hid (And.intro hQ (And.intro hT8 h5))
              have P1 := hQ.blk.cell 1
              have P1' : wc.cell? ⟨m.P, 1, none⟩ = some (.slice (some ⟨gR, 0, none⟩) m.rs.length cR) := by rw [← hrv]; simpa using P1
              have hD := del_any' (i := bi) hQ.ro hBe.1 hr32
              have HDE := Lib.hid hD
              clear P1 hD hQ hT8 h5
              have hrv2 := hrv
              rw [hN] at hrv2
              rw [hrv2] at HDE
              go_wp2_with fail
              refine HDE.out.mono ?_
              rintro e w10 ⟨v9, rfl, ho, ht, hvb'⟩
              obtain ⟨A9, n9, c9, rfl⟩ : ∃ A n c, v9 = .slice A n c := by
                rcases own_forms ho with ⟨e, _⟩ | ⟨g, cap, e, _⟩
                · exact ⟨_, _, _, e⟩
                · exact ⟨_, _, _, e⟩
              have HEND := Lib.hid (ele_end HR.out hBe hu hTw HP.out.2.1 HP.out.2.2 HP.out.1 ho (by rw [hrv2]; exact ht) (by rw [hrv2]; exact hvb'))
              have hk10 := HP.out.1.blk.turns (by rw [← hrv2] at ht; exact ht) (fun e => HP.out.1.ne_rP e rfl)
              have f10 := hk10.frozen 1
              have c10 := hk10.cell 1
              simp at c10
              clear ho ht hvb' hk10
              go_wp2
              go_end0
              exact ⟨rfl, HEND.out⟩
end Go.Proofs.YtehekjlakegkpaaGreat
end
section
namespace Go.Proofs.YtehekjlakegkpaaGreat
open Go.RowKit
set_option linter.unusedVariables false

/-- A voter's share, out of a candidate and a fraction. -/
def Se.sh (v : Int) (e : Se) : Sh := ⟨v, e.cd, e.f, e.x⟩
def Sh.se (s : Sh) : Se := ⟨s.c, s.f, s.x⟩
def shL (v : Int) (ls : List Se) : List Value := shC (ls.map (Se.sh v))
theorem flat4_len {α : Type} (f : α → List Value) (hf : ∀ a, (f a).length = 4) (l : List α) : (l.flatMap f).length = l.length * 4 := by
  induction l with
  | nil => rfl
  | cons a l ih => rw [List.flatMap_cons, List.length_append, ih, hf, List.length_cons]; omega
theorem flat4_get {α : Type} (f : α → List Value) (hf : ∀ a, (f a).length = 4) (l : List α) (j i : Nat) (a : α) (h : l[j]? = some a) (hi : i < 4) : (l.flatMap f)[j * 4 + i]? = (f a)[i]? := by
  induction l generalizing j with
  | nil => simp at h
  | cons b l ih =>
    rw [List.flatMap_cons]
    cases j with
    | zero =>
      obtain rfl : b = a := by simpa using h
      rw [List.getElem?_append_left (by rw [hf]; omega)]
      simp
    | succ j =>
      rw [List.getElem?_append_right (by rw [hf]; omega), hf, ← ih j (by simpa using h)]
      congr 1; omega
theorem shL_len (v : Int) (ls : List Se) : (shL v ls).length = ls.length * 4 := by
  have := flat4_len Sh.cells (fun _ => rfl) (ls.map (Se.sh v))
  simpa [shL, shC] using this
theorem shL_append (v : Int) (ls ks : List Se) : shL v (ls ++ ks) = shL v ls ++ shL v ks := by simp [shL, shC]
theorem shL_one (v : Int) (ls : List Se) : ∀ u ∈ shL v ls, u.oneCell' = true := by
  intro u hu
  obtain ⟨s, _, hv⟩ := List.mem_flatMap.1 hu
  simp [Sh.cells] at hv
  rcases hv with rfl | rfl | rfl | rfl <;> rfl
/-- A fraction lies in blocks from lo on. -/
def Lo (lo : Nat) (f : Fp) : Prop := (∀ a, f.A = some a → 0 < f.n → lo ≤ a.block) ∧ (∀ a, f.B = some a → 0 < f.m → lo ≤ a.block)
theorem NX.lo {w : World} {lo : Nat} {f : Fp} {x : Rat} (h : NX w lo f x) : Lo lo f := by
  refine ⟨fun a e h0 => ?_, fun a e h0 => ?_⟩
  · obtain ⟨b, o, e', hb, _⟩ := h.1.2 h0
    rw [e'] at e; injection e with e; subst e; exact hb
  · obtain ⟨b, o, e', hb, _⟩ := h.2.2 h0
    rw [e'] at e; injection e with e; subst e; exact hb
theorem Lo.mono {lo lo' : Nat} {f : Fp} (h : Lo lo f) (hl : lo' ≤ lo) : Lo lo' f := ⟨fun a e hn => Nat.le_trans hl (h.1 a e hn), fun a e hn => Nat.le_trans hl (h.2 a e hn)⟩
/-- The blocks that are turned. -/
def GvF (S : Nat) (rv : Value) (b : Nat) : Prop := b = S ∨ rv.ownBlock = some b
structure GvIn (wr : World) (base S : Nat) (v : Int) (rv : Value) (ls : List Se) (lf : Fp) (lx : Rat) : Prop where
  row : wr.ownsRow base 47 4 rv ls.length (shL v ls)
  box : KB wr S 38 #[.slice lf.A lf.n lf.c, .slice lf.B lf.m lf.d]
  sb : base ≤ S
  rx : RX wr lf lx
  fr : ∀ e ∈ ls, RX wr e.f e.x ∧ Pr (GvF S rv) e.f.A e.f.n ∧ Pr (GvF S rv) e.f.B e.f.m
  lp : Pr (GvF S rv) lf.A lf.n ∧ Pr (GvF S rv) lf.B lf.m
  lo : ∀ e ∈ ls, Lo base e.f
section
variable {w w' : World} {base S : Nat} {v : Int} {rv : Value} {ls : List Se} {lf : Fp} {lx : Rat}
theorem GvIn.lt (h : GvIn w base S v rv ls lf lx) {b : Nat} (hb : GvF S rv b) : base ≤ b ∧ b < w.heap.size := by
  rcases hb with rfl | hb
  · exact ⟨h.sb, h.box.lt⟩
  · exact h.row.lt _ hb
theorem GvIn.below (h : GvIn w base S v rv ls lf lx) (hb : Below w.heap.size w w') : GvIn w' base S v rv ls lf lx :=
  ⟨own_below h.row hb (fun g e => (h.row.lt _ e).2), h.box.below hb h.box.lt, h.sb, h.rx.below hb (Nat.le_refl _), fun e he => ⟨(h.fr e he).1.below hb (Nat.le_refl _), (h.fr e he).2⟩, h.lp, h.lo⟩
theorem GvIn.drew (h : GvIn w base S v rv ls lf lx) : GvIn w.drew base S v rv ls lf lx := ⟨h.row, h.box, h.sb, h.rx, h.fr, h.lp, h.lo⟩
theorem GvIn.ne (h : GvIn w base S v rv ls lf lx) {g : Nat} (hg : rv.ownBlock = some g) : g ≠ S := by
  obtain ⟨cur, hk⟩ := own_blk h.row hg
  exact hk.ne h.box (by decide)
/-- A share more. -/
theorem GvIn.push (h : GvIn w base S v rv ls lf lx) (e : Se) {v' : Value} (he : RX w e.f e.x) (h1 : Pr (GvF S rv) e.f.A e.f.n) (h2 : Pr (GvF S rv) e.f.B e.f.m) (hlo : Lo base e.f)
    (ho : w'.ownsRow base 47 4 v' (ls.length + 1) (shL v ls ++ (Se.sh v e).cells)) (ht : Turns (fun b => rv.ownBlock = some b) w w') (hv : v'.ownBlock = rv.ownBlock ∨ v'.ownBlock = some w.heap.size) :
    GvIn w' base S v v' (ls ++ [e]) lf lx := by
  have hF : ∀ b, GvF S v' b → GvF S rv b ∨ w.heap.size ≤ b := fun b hb => by
    rcases hb with hb | hb
    · exact .inl (.inl hb)
    · rcases hv with e' | e'
      · exact .inl (.inr (e' ▸ hb))
      · rw [show v'.ownBlock = some b from hb] at e'; injection e' with e'; exact .inr (by omega)
  have hT : Turns (GvF S rv) w w' := ht.mono (fun b hb => .inl (.inr hb))
  refine ⟨?_, h.box.turns ht (fun e' => h.ne e' rfl), h.sb, h.rx.turns hT h.lp.1 h.lp.2, fun x hx => ?_, ⟨h.lp.1.new h.rx.1.lt hF, h.lp.2.new h.rx.2.lt hF⟩, fun x hx => ?_⟩
  · rw [shL_append, List.length_append]
    have : shL v [e] = (Se.sh v e).cells := by simp [shL, shC]
    rw [this]; exact ho
  · rcases List.mem_append.1 hx with hx | hx
    · obtain ⟨a, b, c⟩ := h.fr x hx
      exact ⟨a.turns hT b c, b.new a.1.lt hF, c.new a.2.lt hF⟩
    · obtain rfl := List.mem_singleton.1 hx
      exact ⟨he.turns hT h1 h2, h1.new he.1.lt hF, h2.new he.2.lt hF⟩
  · rcases List.mem_append.1 hx with hx | hx
    · exact h.lo x hx
    · obtain rfl := List.mem_singleton.1 hx; exact hlo
/-- The load is another score, which lay there ahead of the call. -/
theorem GvIn.load (h : GvIn w base S v rv ls lf lx) {A B : Option Addr} {n c m d : Nat} {x : Rat} (hf : RX w ⟨A, n, c, B, m, d⟩ x) (h1 : ∀ a, A = some a → 0 < n → a.block < base) (h2 : ∀ a, B = some a → 0 < m → a.block < base) :
    GvIn ((w.setCell ⟨S, 0, none⟩ (.slice A n c)).setCell ⟨S, 1, none⟩ (.slice B m d)) base S v rv ls ⟨A, n, c, B, m, d⟩ x := by
  have hT : Turns (fun b => b = S) w ((w.setCell ⟨S, 0, none⟩ (.slice A n c)).setCell ⟨S, 1, none⟩ (.slice B m d)) := ((Turns.refl (fun b => b = S) w).setCell' (p := ⟨S, 0, none⟩) rfl _).setCell' (p := ⟨S, 1, none⟩) rfl _
  have hTG := hT.mono (G := GvF S rv) (fun b hb => .inl (.inl hb))
  have p1 : Pr (GvF S rv) A n := fun a e hn hb => by have := h1 a e hn; have := (h.lt hb).1; omega
  have p2 : Pr (GvF S rv) B m := fun a e hn hb => by have := h2 a e hn; have := (h.lt hb).1; omega
  refine ⟨own_turns h.row hT (fun g hg e => h.ne hg e), ?_, h.sb, hf.turns hTG p1 p2, fun x hx => ?_, ⟨p1, p2⟩, h.lo⟩
  · simpa using (h.box.set 0 (.slice A n c)).set 1 (.slice B m d)
  · obtain ⟨a, b, c⟩ := h.fr x hx
    exact ⟨a.turns hTG b c, b, c⟩
/-- Where a share lies. -/
theorem GvIn.at_ (h : GvIn w base S v rv ls lf lx) {j : Nat} {e : Se} (he : ls[j]? = some e) : ∃ g c cur, rv = .slice (some ⟨g, 0, none⟩) ls.length c ∧ base ≤ g ∧ S4 w g (ls.map (Se.sh v)) c cur ∧ c ≤ maxLen := by
  have hj := (List.getElem?_eq_some_iff.1 he).1
  rcases own_forms h.row with ⟨rfl, hl, _⟩ | ⟨g, cap, rfl, hb, hnc, hcm, hg, cur, hk, hcs, ht⟩
  · omega
  · refine ⟨g, cap, cur, rfl, hb, ⟨hk, by simpa using hcs, by simpa using hnc, fun k s hs i hi => ?_⟩, hcm⟩
    have h4 := flat4_get Sh.cells (fun _ => rfl) (ls.map (Se.sh v)) k i s hs hi
    have hkl : k < ls.length := by have := (List.getElem?_eq_some_iff.1 hs).1; simpa using this
    rw [← h4]
    show _ = (shL v ls)[k * 4 + i]?
    rw [← ht, List.getElem?_take, if_pos (by omega)]
    simp
end
/-! A weight is laid at a share's place. -/
theorem own_of_s4 {w : World} {base g cap : Nat} {l : List Sh} {cur : Array Value} (h : S4 w g l cap cur) (hb : base ≤ g) (hc : cap ≤ maxLen) : w.ownsRow base 47 4 (.slice (some ⟨g, 0, none⟩) l.length cap) l.length (shC l) := by
  have hl : (shC l).length = l.length * 4 := flat4_len Sh.cells (fun _ => rfl) l
  refine ⟨hl, .inr ⟨g, cap, cur, rfl, hb, h.kb, h.le, hc, h.sz, ?_⟩⟩
  refine List.ext_getElem? fun k => ?_
  rcases Nat.lt_or_ge k (l.length * 4) with hk | hk
  · obtain ⟨s, hs⟩ : ∃ s, l[k / 4]? = some s := ⟨_, List.getElem?_eq_getElem (by omega)⟩
    have h1 := h.el (k / 4) s hs (k % 4) (by omega)
    have h2 := flat4_get Sh.cells (fun _ => rfl) l (k / 4) (k % 4) s hs (by omega)
    rw [show k / 4 * 4 + k % 4 = k from by omega] at h1 h2
    rw [List.getElem?_take, if_pos hk]
    show cur.toList[k]? = (l.flatMap Sh.cells)[k]?
    rw [h2, ← h1]; simp
  · rw [List.getElem?_take, if_neg (by omega), List.getElem?_eq_none (by rw [hl]; exact hk)]
theorem S4.putW {w : World} {g cap : Nat} {l : List Sh} {cur : Array Value} (h : S4 w g l cap cur) (j : Nat) (s : Sh) (hs : l[j]? = some s) (f : Fp) (x : Rat) :
    ∃ cur', S4 ((w.setCell ⟨g, j * 4 + 2, none⟩ (.slice f.A f.n f.c)).setCell ⟨g, j * 4 + 3, none⟩ (.slice f.B f.m f.d)) g (l.set j ⟨s.v, s.c, f, x⟩) cap cur' := by
  have hj := (List.getElem?_eq_some_iff.1 hs).1
  refine ⟨_, (h.kb.set (j * 4 + 2) _).set (j * 4 + 3) _, by simpa using h.sz, by simpa using h.le, fun k t ht i hi => ?_⟩
  have hsz := h.sz
  have hle := h.le
  have hjs : j * 4 + 4 ≤ cur.size := by omega
  simp only [Array.getElem?_setIfInBounds, Array.size_setIfInBounds]
  by_cases e : j = k
  · subst e
    rw [List.getElem?_set_self hj] at ht
    injection ht with ht
    subst ht
    obtain rfl | rfl | rfl | rfl : i = 0 ∨ i = 1 ∨ i = 2 ∨ i = 3 := by omega
    · rw [if_neg (by omega), if_neg (by omega)]; exact h.el j s hs 0 (by omega)
    · rw [if_neg (by omega), if_neg (by omega)]; exact h.el j s hs 1 (by omega)
    · rw [if_neg (by omega), if_pos (by omega), if_pos (by omega)]; rfl
    · rw [if_pos (by omega), if_pos (by omega)]; rfl
  · rw [List.getElem?_set_ne e] at ht
    rw [if_neg (by omega), if_neg (by omega)]
    exact h.el k t ht i hi
theorem GvIn.setW {w : World} {base S : Nat} {v : Int} {rv : Value} {ls : List Se} {lf : Fp} {lx : Rat} (h : GvIn w base S v rv ls lf lx) {j g c : Nat} {e : Se} (he : ls[j]? = some e) (hrv : rv = .slice (some ⟨g, 0, none⟩) ls.length c) {f : Fp} {x : Rat} (hf : RX w f x) (h1 : Pr (GvF S rv) f.A f.n) (h2 : Pr (GvF S rv) f.B f.m) (hlo : Lo base f) :
    GvIn ((w.setCell ⟨g, j * 4 + 2, none⟩ (.slice f.A f.n f.c)).setCell ⟨g, j * 4 + 3, none⟩ (.slice f.B f.m f.d)) base S v rv (ls.set j ⟨e.cd, f, x⟩) lf lx := by
  obtain ⟨g', c', cur, hrv', hb, h4, hc⟩ := h.at_ he
  rw [hrv] at hrv'
  injection hrv' with e1 e2 e3
  injection e1 with e1
  injection e1 with e1
  subst e1 e3
  obtain ⟨cur', h5⟩ := h4.putW j (Se.sh v e) (by rw [List.getElem?_map, he]; rfl) f x
  have hg : rv.ownBlock = some g := by rw [hrv]; rfl
  have hgS := h.ne hg
  have hT : Turns (fun b => b = g) w ((w.setCell ⟨g, j * 4 + 2, none⟩ (.slice f.A f.n f.c)).setCell ⟨g, j * 4 + 3, none⟩ (.slice f.B f.m f.d)) := ((Turns.refl (fun b => b = g) w).setCell' (p := ⟨g, j * 4 + 2, none⟩) rfl _).setCell' (p := ⟨g, j * 4 + 3, none⟩) rfl _
  have hTG := hT.mono (G := GvF S rv) (fun b hb => .inl (.inr (by rw [hg, hb])))
  refine ⟨?_, h.box.turns hT (fun e' => hgS e'.symm), h.sb, h.rx.turns hTG h.lp.1 h.lp.2, fun y hy => ?_, h.lp, fun y hy => ?_⟩
  · have := own_of_s4 h5 hb hc
    have e1 : (ls.map (Se.sh v)).set j ⟨(Se.sh v e).v, (Se.sh v e).c, f, x⟩ = (ls.set j ⟨e.cd, f, x⟩).map (Se.sh v) := by rw [List.map_set]; rfl
    rw [e1, List.length_map] at this
    rw [hrv]
    rw [List.length_set] at this ⊢
    exact this
  · rcases List.mem_or_eq_of_mem_set hy with hy | rfl
    · obtain ⟨a, b, c⟩ := h.fr y hy
      exact ⟨a.turns hTG b c, b, c⟩
    · exact ⟨hf.turns hTG h1 h2, h1, h2⟩
  · rcases List.mem_or_eq_of_mem_set hy with hy | rfl
    · exact h.lo y hy
    · exact hlo
end Go.Proofs.YtehekjlakegkpaaGreat
end
