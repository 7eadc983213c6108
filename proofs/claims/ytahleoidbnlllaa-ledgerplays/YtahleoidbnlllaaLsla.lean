/-
  The program's Slash. The conditions stand in each theorem.
-/
import Derived.Test.YtahleoidbnlllaaLins
import Derived.Test.YtahleoidbnlllaaLsix
import Derived.Deep.RegionHeld3
namespace Go.Proofs.Ytahleoidbnlllaa
open Go.RowKit
set_option linter.unusedVariables false

theorem takC_cons (c : Ck) (cs : List Ck) (n : Nat) : takC (c :: cs) n = ((c.1 - min (n - (takC cs n).2) c.1, c.2) :: (takC cs n).1, (takC cs n).2 + min (n - (takC cs n).2) c.1) := rfl
/-- When all is taken, what stands ahead is left as it is. -/
theorem takC_done (xs ys : List Ck) (n : Nat) (h : (takC ys n).2 = n) : takC (xs ++ ys) n = (xs ++ (takC ys n).1, n) := by
  induction xs with
  | nil => show takC ys n = _; rw [List.nil_append, ← h]; rw [h]; exact Prod.ext rfl h
  | cons x xs ih =>
    rw [List.cons_append, takC_cons, ih]
    simp
theorem nzC_append (xs ys : List Ck) : nzC (xs ++ ys) = nzC xs ++ nzC ys := by unfold nzC; exact List.filter_append ..
theorem nzC_pos {xs : List Ck} (h : ∀ c ∈ xs, 0 < c.1) : nzC xs = xs := by unfold nzC; exact List.filter_eq_self.2 (fun c hc => by simpa using h c hc)
theorem nzC_cons (c : Ck) (cs : List Ck) : nzC (c :: cs) = if 0 < c.1 then c :: nzC cs else nzC cs := by
  unfold nzC
  rw [List.filter_cons]
  by_cases h : 0 < c.1 <;> simp [h]
/-- What has been slashed when the chunks from j on have been gone through. -/
structure Slk (c : List Ck) (m j : Nat) (T : Nat) (R : List Ck) : Prop where
  hj : j ≤ c.length
  hT : T = (takC (c.drop j) m).2
  hR : R = c.take j ++ nzC (takC (c.drop j) m).1
  hN : T < m → nzC (takC (c.drop j) m).1 = []
  hm : T ≤ m
theorem Slk.begin (c : List Ck) (m : Nat) : Slk c m c.length 0 c :=
  ⟨Nat.le_refl _, by simp [takC], by simp [takC, nzC], fun _ => by simp [takC, nzC], Nat.zero_le _⟩
theorem Slk.done {c : List Ck} {m j T : Nat} {R : List Ck} (h : Slk c m j T R) (hp : ∀ x ∈ c, 0 < x.1) (he : j = 0 ∨ T = m) : R = nzC (takC c m).1 ∧ T = (takC c m).2 := by
  rcases he with rfl | rfl
  · have := h.hR
    have h2 := h.hT
    simp at this h2
    exact ⟨this, h2⟩
  · have h1 := takC_done (c.take j) (c.drop j) T h.hT.symm
    rw [List.take_append_drop] at h1
    rw [h1]
    refine ⟨?_, rfl⟩
    rw [h.hR, nzC_append, nzC_pos (xs := c.take j) (fun x hx => hp x (List.mem_of_mem_take hx))]
theorem Slk.row {c : List Ck} {m j T : Nat} {R : List Ck} (h : Slk c m j T R) (hT : T < m) : R = c.take j := by rw [h.hR, h.hN hT, List.append_nil]
theorem Slk.step {c : List Ck} {m j T : Nat} {R : List Ck} {x : Ck} (h : Slk c m (j + 1) T R) (hT : T < m) (hx : c[j]? = some x) :
    R = c.take (j + 1) ∧ R[j]? = some x ∧ Slk c m j (T + min (m - T) x.1) (if x.1 - min (m - T) x.1 = 0 then R.take j else R.set j (x.1 - min (m - T) x.1, x.2)) := by
  have hR := h.row hT
  have hN := h.hN hT
  have hj := (List.getElem?_eq_some_iff.1 hx).1
  have hRj : R[j]? = some x := by rw [hR, List.getElem?_take, if_pos (by omega)]; exact hx
  have hd : c.drop j = x :: c.drop (j + 1) := by
    rw [List.drop_eq_getElem_cons hj, (List.getElem?_eq_some_iff.1 hx).2]
  refine ⟨hR, hRj, by omega, ?_, ?_, ?_, ?_⟩
  · rw [hd, takC_cons, ← h.hT]
  · rw [hd, takC_cons, ← h.hT, nzC_cons, hN]
    dsimp only
    by_cases h0 : x.1 - min (m - T) x.1 = 0
    · rw [if_pos h0, if_neg (by omega), hR, List.take_take, List.append_nil, Nat.min_eq_left (by omega)]
    · rw [if_neg h0, if_pos (by omega), hR, List.take_succ_eq_append_getElem hj, List.set_append_right _ _ (by simp; omega)]
      simp [Nat.min_eq_left (Nat.le_of_lt hj)]
  · intro h1
    rw [hd, takC_cons, ← h.hT, nzC_cons, hN]
    dsimp only
    rw [if_neg (by omega)]
  · omega
variable {base : Nat} {w : World} {s : Lm}
/-- A row's first elements. -/
theorem own_cut {e : TypeId} {g n m cap : Nat} {ch : List Ck} (h : w.ownsRow base e 2 (.slice (some ⟨g, 0, none⟩) n cap) n (ccs ch)) (hn : n = ch.length) (hm : m ≤ n) : w.ownsRow base e 2 (.slice (some ⟨g, 0, none⟩) m cap) (ch.take m).length (ccs (ch.take m)) := by
  subst hn
  rcases own_forms h with ⟨e, _⟩ | ⟨g', cap', e, hb, hc, hM, hg, cur, hk, hs, ht⟩
  · cases e
  · cases e
    refine ⟨by rw [ccs_len], .inr ⟨g, cap, cur, by rw [List.length_take, Nat.min_eq_left hm], hb, hk, by rw [List.length_take, Nat.min_eq_left hm]; omega, hM, hs, ?_⟩⟩
    rw [List.length_take, Nat.min_eq_left hm, ← ccs_take, ← ht, List.take_take, Nat.min_eq_left (by omega)]
/-- As much as there is moves from what is bonded to the treasury. -/
theorem sla_bond (h : Lg TP base w s) {k : Nat} {x : Am} (hx : s.a[k]? = some x) {g cap : Nat} (hv : s.v = .slice (some ⟨g, 0, none⟩) s.a.length cap) {n : Nat} (hn : n < 18446744073709551616) (hb : x.b + s.t < 18446744073709551616) :
    Calls Try.prog 54 #[.pointer (some ⟨g, k * 4 + 1, none⟩), .pointer (some ⟨s.L, 1, none⟩), .int .u64 n] w fun e w' => e = .returned (.int .u64 ((min n x.b : Nat) : Int)) ∧ Lg TP base w' { s with t := s.t + min n x.b, a := s.a.set k { x with b := x.b - min n x.b } } ∧ Turns s.foot w w' := by
  obtain ⟨e0, e1, e2, e3, ef⟩ := h.acell hx hv
  have hne : g ≠ s.L := fun e => h.ne_LG (by rw [hv]; rfl) e.symm
  refine (mm_any g (k * 4 + 1) s.L 1 x.b s.t n w e1 (ef _) h.ct (h.fz 1) hne (by omega) hn (by omega)).mono ?_
  rintro e w' ⟨rfl, rfl⟩
  exact ⟨rfl, (h.set_b hx hv (x.b - min n x.b)).set_t (s.t + min n x.b), two_turns w _ _ _ _ (foot_g hv) (foot_L s)⟩
/-- As much as there is moves from a chunk to the treasury. -/
theorem sla_chunk (h : Lg TP base w s) {k : Nat} {x : Am} (hx : s.a[k]? = some x) {gc cc : Nat} (hvc : x.v = .slice (some ⟨gc, 0, none⟩) x.ch.length cc) {k0 : Nat} {c : Ck} (hc : x.ch[k0]? = some c) {n : Nat} (hn : n < 18446744073709551616) (hb : c.1 + s.t < 18446744073709551616) :
    Calls Try.prog 54 #[.pointer (some ⟨gc, k0 * 2, none⟩), .pointer (some ⟨s.L, 1, none⟩), .int .u64 n] w fun e w' => e = .returned (.int .u64 ((min n c.1 : Nat) : Int)) ∧ Lg TP base w' { s with t := s.t + min n c.1, a := s.a.set k { x with ch := x.ch.set k0 (c.1 - min n c.1, c.2) } } ∧ Turns s.foot w w' := by
  obtain ⟨c0, c1, cf⟩ := h.ccell hx hc hvc
  have hne : gc ≠ s.L := fun e => h.ne_LC hx (by rw [hvc]; rfl) e.symm
  refine (mm_any gc (k0 * 2) s.L 1 c.1 s.t n w c0 (cf _) h.ct (h.fz 1) hne (by omega) hn (by omega)).mono ?_
  rintro e w' ⟨rfl, rfl⟩
  exact ⟨rfl, (h.set_c hx hc hvc (c.1 - min n c.1)).set_t (s.t + min n c.1), two_turns w _ _ _ _ (foot_c hx hvc) (foot_L s)⟩
theorem foot_set {s : Lm} {k : Nat} {x y : Am} {t' : Nat} (hx : s.a[k]? = some x) (hy : y.v.ownBlock = x.v.ownBlock) {b : Nat} (h : ({ s with t := t', a := s.a.set k y } : Lm).foot b) : s.foot b := by
  rcases h with h | h | ⟨i, z, hz, hb⟩
  · exact .inl h
  · exact .inr (.inl h)
  · rcases get_set hx hz with ⟨rfl, rfl⟩ | ⟨_, hz⟩
    · exact .inr (.inr ⟨_, x, hx, hy ▸ hb⟩)
    · exact .inr (.inr ⟨i, z, hz, hb⟩)
set_option maxHeartbeats 3200000 in
set_option maxRecDepth 100000 in
theorem sla_any (h : Lg TP base w s) (hok : s.ab.ok) (i : Int) (n : Nat) (hn : n < 18446744073709551616) :
    Calls Try.prog 17 #[.pointer (some ⟨s.L, 0, none⟩), .int .i64 i, .int .u64 n] w fun e w' => e = .returned (.tuple #[.int .u64 ((slaM s.ab i n).2.1 : Nat), .int .i64 (slaM s.ab i n).2.2]) ∧ LgTo TP base w w' s (slaM s.ab i n).1 := by
  have hl := hok.len32
  unfold slaM
  rcases s.cases i with ⟨ha, hi⟩ | ⟨k, x, rfl, hx, ha⟩
  · rw [ha]
    go_enter Try.func17, Try.ntmps17
    go_wp2_with fail
    refine (fnd_no h hi hl).mono ?_
    rintro e w' ⟨rfl, rfl⟩
    go_wp2
    go_ret2
    exact ⟨rfl, LgTo.same h (Below.refl _ _)⟩
  · rw [ha]
    obtain ⟨g, cap, hv, hc, hg1, hg2⟩ := h.vform hx
    have hkl := (List.getElem?_eq_some_iff.1 hx).1
    have hf := fnd_yes h hx hv hl
    obtain ⟨hb1, hb2⟩ := hok.bounds hx
    have hco : chOk x.ch := ac_ch hok ha
    have h8 := hco.len
    obtain ⟨A, cc, hxv, hsc⟩ := own_sc (h.chs k x (fun e => e) hx) (by omega)
    have hcap := hsc.2.1
    have HM := Lib.hid (sla_bond h.drew hx hv hn (by omega))
    obtain ⟨B, hB⟩ : ∃ B, B = min n x.b := ⟨_, rfl⟩
    rw [← hB] at HM
    obtain ⟨m, hm⟩ : ∃ m, m = n - B := ⟨_, rfl⟩
    have hBn : B ≤ n := by omega
    have hBb : B ≤ x.b := by omega
    have HF := Lib.hid hf
    have HO := Lib.hid hco
    have HX := Lib.hid hxv
    have H := Lib.hid h
    dsimp only
    rw [show min n x.ac.b = B from hB.symm, show n - B = m from hm.symm]
    have HBE := Lib.hid hB
    have HME := Lib.hid hm
    clear h hf hsc hco ha hxv hB hm
    obtain ⟨N, hN⟩ : ∃ N, N = x.ch.length := ⟨_, rfl⟩
    have HN := Lib.hid hN
    rw [← hN] at h8 hcap
    clear hN
    go_enter Try.func17, Try.ntmps17
    go_wp2_with fail
    refine HF.out.mono ?_
    rintro e w' ⟨rfl, rfl⟩
    go_wp2_with fail
    go_region_with (go_at_call 54; refine HM.out.mono ?_; rintro e w' ⟨rfl, m1, m2⟩; have M1 := Lib.hid m1; have M2 := Lib.hid m2; clear m1 m2)
    all_goals
      have hx1 := get_same (y := { x with b := x.b - B }) hx
      have hv1 : s.v = .slice (some ⟨g, 0, none⟩) (s.a.set k { x with b := x.b - B }).length cap := by simpa using hv
      obtain ⟨_, _, _, f3, _⟩ := M1.out.acell hx1 hv1
      dsimp only at f3
      rw [HX.out, ← HN.out] at f3
      have hw1 : IntKind.i64.wrap ((N : Int) - 1) = (N : Int) - 1 := by rw [IntKind.wrap_i64]; omega
      have hlg : Lg TP base w' { s with t := s.t + (B + 0), a := s.a.set k { x with b := x.b - B, v := .slice A x.ch.length cc, ch := x.ch } } := by
        have := M1.out
        rw [← HX.out]
        exact this
      have HLG := Lib.hid hlg
      clear hx1 hv1 hlg
      go_wp2_with fail
      go_loopw [10, 11] (fun tv lv wr => ∃ (j T K : Nat) (R : List Ck), K = B + T ∧ tv = .int .u64 (K : Int) ∧ lv = .int .i64 ((j : Int) - 1) ∧ Slk x.ch m j T R ∧ Lg TP base wr { s with t := s.t + (B + T), a := s.a.set k { x with b := x.b - B, v := .slice A R.length cc, ch := R } } ∧ Turns s.foot w wr) (fun _ lv _ => (intOf lv + 1).toNat)
      case atStart => exact ⟨N, 0, B, x.ch, by omega, rfl, rfl, by rw [HN.out]; exact Slk.begin x.ch m, HLG.out, Turns.undrew M2.out⟩
      case round =>
        obtain ⟨j, T, K, R, hK, rfl, rfl, hS, hg, ht⟩ := hrel
        clear HLG M1 M2 f3
        have hKm : K < n ↔ T < m := by have := HME.out; omega
        have hTm := hS.hm
        have hKn : K ≤ n := by have := HME.out; omega
        have hjN : j ≤ N := by rw [HN.out]; exact hS.hj
        have fin : (j = 0 ∨ T = m) → LgTo TP base w wr s { s.ab.put (k : Int) { x.ac with b := x.ac.b - B, ch := nzC (takC x.ac.ch m).1 } with t := s.ab.t + (B + (takC x.ac.ch m).2) } ∧ K = B + (takC x.ac.ch m).2 := fun he => by
          obtain ⟨q1, q2⟩ := hS.done HO.out.pos he
          refine ⟨LgTo.mk hg rfl ?_ ht, by rw [hK, q2]; rfl⟩
          rw [show x.ac.ch = x.ch from rfl, ← q1, ← q2]
          simp [Lm.ab, Ab.put, List.map_set, Am.ac]
        have HK := Lib.hid hK
        clear hK hKm
        by_cases hj0 : j = 0
        · obtain ⟨FIN, hKe⟩ := fin (.inl hj0)
          have FI := Lib.hid FIN
          have HKE := Lib.hid hKe
          clear fin FIN hKe hg ht hS
          subst hj0
          go_wp2
          go_ret2
          have hke : ((B : Int) + ((takC x.ac.ch m).2 : Int)) = (K : Int) := by have := HKE.out; omega
          exact ⟨by first | (rw [← HKE.out]; rfl) | (rw [hke]; rfl) | (push_cast; rw [hke]; rfl), FI.out⟩
        · obtain ⟨j, rfl⟩ : ∃ j', j = j' + 1 := ⟨j - 1, by omega⟩
          by_cases hTe : T = m
          · obtain ⟨FIN, hKe⟩ := fin (.inr hTe)
            have FI := Lib.hid FIN
            have HKE := Lib.hid hKe
            have hKn' : ¬ ((K : Int) < (n : Int)) := by have := HK.out; have := HME.out; omega
            clear fin FIN hKe hg ht hS hTe
            go_wp2
            go_ret2
            have hke : ((B : Int) + ((takC x.ac.ch m).2 : Int)) = (K : Int) := by have := HKE.out; omega
            exact ⟨by first | (rw [← HKE.out]; rfl) | (rw [hke]; rfl) | (push_cast; rw [hke]; rfl), FI.out⟩
          · have hTlt : T < m := by omega
            have hKn' : ((K : Int) < (n : Int)) := by have := HK.out; have := HME.out; omega
            obtain ⟨c, hcx⟩ : ∃ c, x.ch[j]? = some c := ⟨_, List.getElem?_eq_getElem (by have := hS.hj; omega)⟩
            obtain ⟨hR, hRj, hS'⟩ := hS.step hTlt hcx
            have hRl : j < R.length := (List.getElem?_eq_some_iff.1 hRj).1
            have hx1 := get_same (y := { x with b := x.b - B, v := .slice A R.length cc, ch := R }) hx
            have hv1 : s.v = .slice (some ⟨g, 0, none⟩) (s.a.set k { x with b := x.b - B, v := .slice A R.length cc, ch := R }).length cap := by simpa using hv
            obtain ⟨_, _, _, f3, _⟩ := hg.acell hx1 hv1
            dsimp only at f3
            rcases hg.cforms hx1 with ⟨_, hnil⟩ | ⟨gc, cc', hxc, _, hcl, _, _⟩
            · dsimp only at hnil; rw [hnil] at hRl; simp at hRl
            · dsimp only at hxc hcl
              have hxc2 := hxc
              injection hxc2 with hA1 hA2 hA3
              subst hA1 hA3
              have hcb : c.1 + cht (x.ch.drop (j + 1)) ≤ cht x.ch := by
                have e1 := cht_split x.ch (j + 1)
                have e2 := cht_take_succ hcx
                omega
              have hTb : T ≤ cht (x.ch.drop (j + 1)) := by
                have := takC_amount (x.ch.drop (j + 1)) m
                rw [← hS.hT] at this
                omega
              obtain ⟨q, hq⟩ : ∃ q, q = min (m - T) c.1 := ⟨_, rfl⟩
              have HMM := sla_chunk hg.drew hx1 hxc hRj (n := m - T) (by have := HME.out; omega) (by dsimp only; omega)
              rw [← hq] at HMM hS'
              dsimp only at HMM
              simp only [List.set_set] at HMM
              have HM2 := Lib.hid HMM
              have HS := Lib.hid hS'
              have HQ := Lib.hid hq
              have HT := Lib.hid ht
              have HRR := Lib.hid hR
              have HRJ := Lib.hid hRj
              have hww : IntKind.u64.wrap ((n : Int) - (K : Int)) = ((m - T : Nat) : Int) := by have := HK.out; have := HME.out; rw [IntKind.wrap_u64]; omega
              have hwk : IntKind.u64.wrap ((K : Int) + (q : Int)) = (K : Int) + (q : Int) := by have := HK.out; have := HME.out; rw [IntKind.wrap_u64]; omega
              have hj1 : (j : Int) < (R.length : Int) := by omega
              have hwj : IntKind.i64.wrap ((j : Int) - 1) = (j : Int) - 1 := by rw [IntKind.wrap_i64]; omega
              have hx2 := get_same (y := { x with b := x.b - B, v := .slice (some ⟨gc, 0, none⟩) R.length cc, ch := R.set j (c.1 - q, c.2) }) hx
              have hv2 : s.v = .slice (some ⟨g, 0, none⟩) (s.a.set k { x with b := x.b - B, v := .slice (some ⟨gc, 0, none⟩) R.length cc, ch := R.set j (c.1 - q, c.2) }).length cap := by simpa using hv
              have hxc3 : (Value.slice (some ⟨gc, 0, none⟩) R.length cc) = .slice (some ⟨gc, 0, none⟩) (R.set j (c.1 - q, c.2)).length cc := by simp
              have hRj3 : (R.set j (c.1 - q, c.2))[j]? = some (c.1 - q, c.2) := by rw [List.getElem?_set]; simp [hRl]
              have HX2 := Lib.hid hx2
              have HV2 := Lib.hid hv2
              have HX3 := Lib.hid hxc3
              have HR3 := Lib.hid hRj3
              have hjc : j ≤ cc := by omega
              have hRc : R.length ≤ cc := hcl
              clear HMM hS' hS fin hg ht hq hR hRj hx1 hv1 hcx hcb hTb hxc hx2 hv2 hxc3 hRj3
              go_wp2_with fail
              go_region_held3 (fun W => W.cell? ⟨g, k * 4 + 3, none⟩ = some (.slice (some ⟨gc, 0, none⟩) R.length cc))
                (first | exact f3 | exact K1)
                (first | (go_at_call 54; refine HM2.out.mono ?_; rintro e w' ⟨rfl, m1, m2⟩; have K1 := (m1.acell HX2.out HV2.out).2.2.2.1; dsimp only at K1; have M1 := Lib.hid m1; have M2 := Lib.hid m2; clear m1 m2))
              all_goals
                obtain ⟨_, _, _, z3, zf⟩ := M1.out.acell HX2.out HV2.out
                obtain ⟨c0, c1, cf⟩ := M1.out.ccell HX2.out (k := j) (c := (c.1 - q, c.2)) HR3.out HX3.out
                dsimp only at z3 c0
                have zf3 := zf (k * 4 + 3)
                have TT : Turns s.foot w w' := HT.out.trans (Turns.undrew M2.out) (fun b hb => .inl (foot_set hx (by rw [HX.out]; rfl) hb))
                by_cases h0 : c.1 - q = 0
                · rw [h0] at c0
                  have hs := HS.out
                  rw [if_pos h0] at hs
                  have hrow := M1.out.chs k _ (fun e => e) HX2.out
                  dsimp only at hrow
                  rw [List.length_set] at hrow
                  have hrow2 := own_cut (m := j) hrow (by simp) (by omega)
                  rw [List.take_set_of_le (Nat.le_refl _)] at hrow2
                  have hlen : (R.take j).length = j := by rw [List.length_take]; omega
                  have hset := M1.out.weak.set_v HX2.out HV2.out (.slice (some ⟨gc, 0, none⟩) j cc) (R.take j) hrow2 (fun g' e => .inl e)
                  simp only [List.set_set] at hset
                  have hset2 : Lg TP base (w'.setCell ⟨g, k * 4 + 3, none⟩ (.slice (some ⟨gc, 0, none⟩) j cc)) { s with t := s.t + (B + (T + q)), a := s.a.set k { x with b := x.b - B, v := .slice (some ⟨gc, 0, none⟩) (R.take j).length cc, ch := R.take j } } := by
                    rw [hlen]
                    have e : s.t + (B + (T + q)) = s.t + (B + T) + q := by omega
                    rw [e]
                    exact hset
                  have HSET := Lib.hid hset2
                  have HS2 := Lib.hid hs
                  have HTT := Lib.hid TT
                  clear hset hset2 hs hrow hrow2 hlen TT h0
                  go_wp2_with fail
                  go_roundw
                  case rel => exact ⟨j, T + q, K + q, R.take j, by have := HK.out; omega, by go_num, rfl, HS2.out, HSET.out, HTT.out.trans (Turns.setCell (F := s.foot) w' _ _ (foot_g hv)) (fun _ => .inl)⟩
                  case measure => simp [intOf]
                · have hs := HS.out
                  rw [if_neg h0] at hs
                  have h0' : ¬ (((c.1 - q : Nat) : Int) = 0) := by omega
                  have hset2 : Lg TP base w' { s with t := s.t + (B + (T + q)), a := s.a.set k { x with b := x.b - B, v := .slice (some ⟨gc, 0, none⟩) (R.set j (c.1 - q, c.2)).length cc, ch := R.set j (c.1 - q, c.2) } } := by
                    rw [List.length_set]
                    have e : s.t + (B + (T + q)) = s.t + (B + T) + q := by omega
                    rw [e]
                    exact M1.out
                  have HSET := Lib.hid hset2
                  have HS2 := Lib.hid hs
                  have HTT := Lib.hid TT
                  clear hset2 hs TT
                  go_wp2_with fail
                  go_roundw
                  case rel => exact ⟨j, T + q, K + q, R.set j (c.1 - q, c.2), by have := HK.out; omega, by go_num, rfl, HS2.out, HSET.out, HTT.out⟩
                  case measure => simp [intOf]
end Go.Proofs.Ytahleoidbnlllaa
