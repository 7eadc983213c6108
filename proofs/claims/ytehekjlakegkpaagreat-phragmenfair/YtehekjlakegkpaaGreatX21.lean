/-
  phragmen.race's loaded: for each seat the stakes, together, of those approvers whose latest seat it is. For every race that lies well formed.
  What phragmen.race's score reckons, as mathematics, and its sizes.
  slices.Delete of one runner. For at most 32 of them.
-/
import Derived.Test.YtehekjlakegkpaaGreatX20
section
namespace Go.Proofs.YtehekjlakegkpaaGreat
open Go.RowKit
set_option linter.unusedVariables false

/-- Stakes by seats. -/
def ldL (vs : List Vr) (lt : List Int) (E : Nat) (ps : List Nat) : List Nat := (List.range E).map fun (i : Nat) => (ps.map fun p => if zl lt p = (i : Int) then (vs[p]?.map Vr.st).getD 0 else 0).sum
theorem ldL_len (vs : List Vr) (lt : List Int) (E : Nat) (ps : List Nat) : (ldL vs lt E ps).length = E := by simp [ldL]
theorem ldL_el (vs : List Vr) (lt : List Int) (E : Nat) (ps : List Nat) (i : Nat) (hi : i < E) : el (ldL vs lt E ps) i = (ps.map fun p => if zl lt p = (i : Int) then (vs[p]?.map Vr.st).getD 0 else 0).sum := by
  rw [el_get _ _ (by rw [ldL_len]; exact hi)]
  simp [ldL]
theorem ldL_nil (vs : List Vr) (lt : List Int) (E : Nat) : ldL vs lt E [] = zeros E := by
  refine ext_el (by rw [ldL_len]; simp [zeros]) fun j hj => ?_
  rw [ldL_len] at hj
  rw [ldL_el _ _ _ _ _ hj]
  simp [zeros, el_replicate]
/-- One more approver. -/
theorem ldL_skip (vs : List Vr) (lt : List Int) (E : Nat) (ps : List Nat) (p : Nat) (h : zl lt p < 0) : ldL vs lt E (ps ++ [p]) = ldL vs lt E ps := by
  refine ext_el (by rw [ldL_len, ldL_len]) fun j hj => ?_
  rw [ldL_len] at hj
  rw [ldL_el _ _ _ _ _ hj, ldL_el _ _ _ _ _ hj, List.map_append, List.sum_append]
  have : ¬ zl lt p = (j : Int) := by omega
  simp [this]
theorem ldL_more (vs : List Vr) (lt : List Int) (E : Nat) (ps : List Nat) (p i : Nat) (v : Vr) (hv : vs[p]? = some v) (h : zl lt p = (i : Int)) (hi : i < E) : ldL vs lt E (ps ++ [p]) = (ldL vs lt E ps).set i (el (ldL vs lt E ps) i + v.st) := by
  refine ext_el (by rw [ldL_len, List.length_set, ldL_len]) fun j hj => ?_
  rw [ldL_len] at hj
  rw [ldL_el _ _ _ _ _ hj, List.map_append, List.sum_append]
  by_cases e : i = j
  · subst e
    rw [el_set_same _ _ _ (by rw [ldL_len]; exact hj), ldL_el _ _ _ _ _ hj]
    simp [h, hv]
  · rw [el_set_other _ _ _ _ e, ldL_el _ _ _ _ _ hj]
    have : ¬ zl lt p = (j : Int) := by omega
    simp [this]
/-- No sum is more than the approvers' stakes, together. -/
theorem ldL_le (vs : List Vr) (lt : List Int) (E : Nat) (ps : List Nat) (i : Nat) : el (ldL vs lt E ps) i ≤ (ps.map fun p => (vs[p]?.map Vr.st).getD 0).sum := by
  rcases Nat.lt_or_ge i E with hi | hi
  · rw [ldL_el _ _ _ _ _ hi]
    induction ps with
    | nil => simp
    | cons p ps ih =>
      simp only [List.map_cons, List.sum_cons]
      split <;> omega
  · rw [el_ge _ _ (by rw [ldL_len]; exact hi)]; omega
theorem sum_take_le (f : Nat → Nat) (ps : List Nat) (k : Nat) : ((ps.take k).map f).sum ≤ (ps.map f).sum := by
  have := congrArg List.sum (congrArg (List.map f) (List.take_append_drop k ps))
  rw [List.map_append, List.sum_append] at this
  omega
set_option maxHeartbeats 3200000 in
theorem loaded_any {w : World} {base : Nat} {m : Rm} {vs : List Vr} (u : Rn) (h : RcIn w base m) (hv : Rv w m.vA m.n m.vc vs) (hu : Ri w u.A u.n u.c (ints u.ps)) (hp : ∀ p ∈ u.ps, p < m.n ∧ zl m.lt p < (m.es.length : Int)) (he : m.es.length ≤ 8)
    (hs : (u.ps.map fun p => (vs[p]?.map Vr.st).getD 0).sum < 18446744073709551616) :
    Calls Tryz.prog 165 #[.pointer (some ⟨m.P, 0, none⟩), u.val] w fun e w' =>
      ∃ g, e = .returned (.slice (some ⟨g, 0, none⟩) m.es.length m.es.length) ∧ w.heap.size ≤ g ∧ Rk .u64 w' (some ⟨g, 0, none⟩) m.es.length m.es.length (ldL vs m.lt m.es.length u.ps) ∧ Below w.heap.size w w' := by
  obtain ⟨cd, UA, un, uc, ps, st⟩ := u
  dsimp only at hu hp hs ⊢
  have hmk := fun W : World => mkQ' m.es.length (by omega) W
  have HR := Lib.hid h
  have HV := Lib.hid hv
  have HU := Lib.hid hu
  have hk0 := KB.new w 180 #[.int .i64 cd, .slice UA un uc, .int .u64 (st : Int)]
  have hb0 : Below w.heap.size w (w.alloc (.cells #[.int .i64 cd, .slice UA un uc, .int .u64 (st : Int)] 180)) := (Below.refl _ _).alloc (Nat.le_refl _) _
  have hr0 := (h.below hb0 (Nat.le_refl _)).blk
  have p2 := hr0.cell 2
  simp at p2
  obtain ⟨EA, ec, hev⟩ : ∃ EA ec, m.ev = .slice EA m.es.length ec := by
    rcases own_forms h.eo with ⟨e, hl, _⟩ | ⟨g, cap, e, _⟩
    · exact ⟨none, 0, by rw [e, hl]⟩
    · exact ⟨_, _, e⟩
  rw [hev] at p2
  have hk1 := KB.new (w.alloc (.cells #[.int .i64 cd, .slice UA un uc, .int .u64 (st : Int)] 180)) 41 (litsK .u64 (zeros m.es.length)).toArray
  have hk01 := hk0.alloc (.cells (litsK .u64 (zeros m.es.length)).toArray 41)
  have hb1 := hb0.alloc (by simp) (.cells (litsK .u64 (zeros m.es.length)).toArray 41)
  have e1 : (w.alloc (.cells #[.int .i64 cd, .slice UA un uc, .int .u64 (st : Int)] 180)).heap.size = w.heap.size + 1 := by simp
  rw [e1] at hk1
  have hBk : Bkk .u64 41 ((w.alloc (.cells #[.int .i64 cd, .slice UA un uc, .int .u64 (st : Int)] 180)).alloc (.cells (litsK .u64 (zeros m.es.length)).toArray 41)) (w.heap.size + 1) (ldL vs m.lt m.es.length []) := by rw [ldL_nil]; exact hk1
  have HH := Lib.hid (And.intro hBk hb1)
  have x1 := hk01.cell 1
  simp at x1
  have HP := Lib.hid hp
  have HS := Lib.hid hs
  have hln := hu.len
  have hcap := hu.cap
  have hmax := hu.max
  rw [ints_len] at hln
  clear h hv hu hp hs hk0 hb0 hr0 hk1 hk01 hb1 hBk e1 hev
  unfold Rn.val
  dsimp only
  generalize hE : m.es.length = E at *
  go_enter Tryz.func165, Tryz.ntmps165
  go_wp2_with fail
  clear x1 p2 hmk
  have hzn := HR.out.n32
  have hll := HR.out.ll
  go_loopg [18] un (fun g9 tv wr => ∃ k : Nat, g9 = un - k ∧ k ≤ un ∧ tv = .int .i64 (k : Int) ∧ Bkk .u64 41 wr (w.heap.size + 1) (ldL vs m.lt E (ps.take k)) ∧ Below w.heap.size w wr)
  case atStart => exact ⟨0, rfl, by omega, rfl, HH.out.1, HH.out.2⟩
  case round =>
    obtain ⟨k, hg9, hk, rfl, hB, hb⟩ := hrel
    clear HH
    by_cases hlt : k < un
    · have hRi := HU.out.below hb (Nat.le_refl _)
      have hC := HR.out.below hb (Nat.le_refl _)
      have hmem : el ps k ∈ ps := by rw [el_get _ _ (by omega)]; exact List.getElem_mem _
      obtain ⟨hp1, hp2⟩ := HP.out _ hmem
      obtain ⟨vb, vo, v, hvA, hvb, hve, ok, ri, c0, c1, c2⟩ := HV.out.at_ hp1
      have htk : ps.take (k + 1) = ps.take k ++ [el ps k] := by rw [List.take_add_one, List.getElem?_eq_getElem (by omega), ← el_get _ _ (by omega)]; rfl
      obtain ⟨bb, oo, rfl, hbb, hcc⟩ := hRi.at_ (by omega)
      have d0 := hcc k hlt
      rw [zl_ints] at d0
      have hG : wr.cell? ⟨m.G, el ps k, none⟩ = some (.int .i64 (zl m.lt (el ps k))) := by
        rw [hC.lo.cell, List.getElem?_toArray, List.getElem?_map, List.getElem?_eq_getElem (by omega), zl_get _ _ (by omega)]; rfl
      have hsum := sum_take_le (fun p => (vs[p]?.map Vr.st).getD 0) ps (k + 1)
      have hskip := ldL_skip vs m.lt E (ps.take k) (el ps k)
      have hmore := fun i => ldL_more vs m.lt E (ps.take k) (el ps k) i v hve
      rw [← htk] at hskip hmore
      have hLle := fun i => ldL_le vs m.lt E (ps.take (k + 1)) i
      have hP0 := hC.blk.cell 0
      have hP3 := hC.blk.cell 3
      simp at hP0 hP3
      have v1 := (hb.cell (p := ⟨vb, vo + el ps k * 3 + 1, none⟩) hvb).trans c1
      have hst := ok.1
      have hS := HS.out
      generalize hq : el ps k = q at *
      generalize hz : zl m.lt q = z at *
      clear hcc hRi hC c0 c1 c2 ok ri hve hmem htk
      rw [hvA] at hP0
      have hqn : (q : Int) < (m.n : Int) := by omega
      by_cases hz0 : z < 0
      · rw [← hskip hz0] at hB
        have hz1 : ¬ 0 ≤ z := by omega
        go_wp2
        go_roundg (un - (k + 1))
        case measure => omega
        case rel => exact ⟨k + 1, rfl, by omega, by go_num, hB, hb⟩
      · obtain ⟨i, rfl⟩ := Int.eq_ofNat_of_zero_le (by omega : 0 ≤ z)
        have hiE : i < E := by omega
        have hm := hmore i rfl hiE
        have e0 := hB.cell (i := i) (by rw [ldL_len]; exact hiE)
        have f0 := hB.frozen i
        have hB2 := hB.set_ i (el (ldL vs m.lt E (ps.take k)) i + v.st)
        rw [← hm] at hB2
        have hle := hLle i
        rw [hm, el_set_same _ _ _ (by rw [ldL_len]; exact hiE)] at hle
        have hb2 := hb.setCell (p := ⟨w.heap.size + 1, i, none⟩) (by dsimp only; omega) (.int .u64 ((el (ldL vs m.lt E (ps.take k)) i + v.st : Nat) : Int))
        have hw : IntKind.u64.wrap ((el (ldL vs m.lt E (ps.take k)) i : Int) + (v.st : Int)) = ((el (ldL vs m.lt E (ps.take k)) i + v.st : Nat) : Int) := by rw [wrap_u]; omega
        have HB2 := Lib.hid (And.intro hB2 hb2)
        have hiE' : (i : Int) < (E : Int) := by omega
        clear hm hmore hskip hB hB2 hb2 hLle HS HU HP
        generalize el (ldL vs m.lt E (ps.take k)) i = a at *
        go_upto_region 7 with (fail)
        go_region
        all_goals
          go_wp2
          rw [show (a : Int) + (v.st : Int) = ((a + v.st : Nat) : Int) from by omega]
          go_roundg (un - (k + 1))
          case measure => omega
          case rel => exact ⟨k + 1, rfl, by omega, by go_num, HB2.out.1, HB2.out.2.drew⟩
    · obtain rfl : k = un := by omega
      rw [List.take_of_length_le (by omega)] at hB
      have hrk := hB.rk (n := E) (ldL_len _ _ _ _) (by omega)
      go_wp2
      go_ret
      exact ⟨_, rfl, Nat.le_succ _, hrk, hb⟩
end Go.Proofs.YtehekjlakegkpaaGreat
end
section
namespace Go.Proofs.YtehekjlakegkpaaGreat
open Go.RowKit
set_option linter.unusedVariables false

theorem Rk.turns {k : IntKind} {F : Nat → Prop} {w w' : World} {A : Option Addr} {n c : Nat} {xs : List Nat} (h : Rk k w A n c xs) (ht : Turns F w w') (hF : Pr F A n) : Rk k w' A n c xs :=
  ⟨h.1, h.2.1, h.2.2.1, fun hn => by
    obtain ⟨b, o, e, hb, hc⟩ := h.at_ hn
    exact ⟨b, o, e, Nat.lt_of_lt_of_le hb ht.size, fun j hj => (ht.cell (p := ⟨b, o + j, none⟩) hb (hF ⟨b, o, none⟩ e hn)).trans (hc j hj)⟩⟩
/-- The scores' sum, so far. -/
def lsum (L : List Nat) (xs : List Rat) : Nat → Rat
  | 0 => 1
  | k + 1 => lsum L xs k + (el L k : Rat) * (xs[k]?.getD 0)
theorem lsum_den {D : Nat} (L : List Nat) (xs : List Rat) (h : ∀ x ∈ xs, Den D x) (k : Nat) : Den D (lsum L xs k) := by
  induction k with
  | zero => exact Den.one
  | succ k ih =>
    refine ih.add (Den.mul ?_ _)
    rcases Nat.lt_or_ge k xs.length with hk | hk
    · rw [List.getElem?_eq_getElem hk]; exact h _ (List.getElem_mem hk)
    · rw [List.getElem?_eq_none hk]; exact Den.zero
theorem mul_le8 {a : Nat} {x : Rat} (ha : a < 18446744073709551616) (h0 : 0 ≤ x) (hx : x ≤ 8) : (a : Rat) * x ≤ ((147573952589676412928 : Nat) : Rat) := by
  have h1 : (a : Rat) * x ≤ (a : Rat) * 8 := Rat.mul_le_mul_of_nonneg_left hx (st_nonneg a)
  have h2 : ((a * 8 : Nat) : Rat) ≤ ((147573952589676412928 : Nat) : Rat) := by exact_mod_cast (show a * 8 ≤ 147573952589676412928 by omega)
  rw [Rat.natCast_mul] at h2
  exact Rat.le_trans h1 h2
theorem lsum_le (L : List Nat) (xs : List Rat) (h : ∀ x ∈ xs, 0 ≤ x ∧ x ≤ 8) (hL : ∀ i, el L i < 18446744073709551616) (k : Nat) : lsum L xs k ≤ ((1 + k * 147573952589676412928 : Nat) : Rat) := by
  induction k with
  | zero => simp only [lsum, Nat.zero_mul, Nat.add_zero]; exact Rat.le_refl
  | succ k ih =>
    have h1 : (el L k : Rat) * (xs[k]?.getD 0) ≤ ((147573952589676412928 : Nat) : Rat) := by
      rcases Nat.lt_or_ge k xs.length with hk | hk
      · rw [List.getElem?_eq_getElem hk]
        have := h _ (List.getElem_mem hk)
        exact mul_le8 (hL k) this.1 this.2
      · rw [List.getElem?_eq_none hk]
        exact mul_le8 (x := 0) (hL k) (by grind) (by grind)
    have e : ((1 + (k + 1) * 147573952589676412928 : Nat) : Rat) = ((1 + k * 147573952589676412928 : Nat) : Rat) + ((147573952589676412928 : Nat) : Rat) := by
      rw [← Rat.natCast_add]; congr 1; omega
    rw [e]
    simp only [lsum]
    grind
theorem pw3 : pw 3 = 79228162514264337593543950336 := rfl
theorem lsum_sm {D : Nat} (hD : 0 < D) (hD2 : D ≤ pw 16) (L : List Nat) (xs : List Rat) (h : ∀ x ∈ xs, Den D x ∧ x ≤ 8) (hL : ∀ i, el L i < 18446744073709551616) (k : Nat) (hk : k ≤ 8) : Sm (lsum L xs k) :=
  (lsum_den L xs (fun x hx => (h x hx).1) k).sm hD 16 3 hD2 _ (lsum_le L xs (fun x hx => ⟨(h x hx).1.1, (h x hx).2⟩) hL k) (by rw [pw3]; omega) (by omega)
theorem mul_sm {D a : Nat} {x : Rat} (hD : 0 < D) (hD2 : D ≤ pw 16) (ha : a < 18446744073709551616) (h : Den D x) (hx : x ≤ 8) : Sm ((a : Rat) * x) :=
  (h.mul a).sm hD 16 3 hD2 _ (mul_le8 ha h.1 hx) (by rw [pw3]; omega) (by omega)
theorem x8_sm {D : Nat} {x : Rat} (hD : 0 < D) (hD2 : D ≤ pw 16) (h : Den D x) (hx : x ≤ 8) : Sm x :=
  h.sm hD 16 3 hD2 8 hx (by rw [pw3]; omega) (by omega)
/-- The score, as the program reckons it. -/
def scM (vs : List Vr) (m : Rm) (u : Rn) : Rat := lsum (ldL vs m.lt m.es.length u.ps) (m.es.map Se.x) m.es.length / (u.st : Rat)
/-- Sizes of a race. -/
structure SzM (m : Rm) (D : Nat) : Prop where
  pos : 0 < D
  le : D ≤ pw 16
  es : ∀ e ∈ m.es, Den D e.x ∧ e.x ≤ 8
  len : m.es.length ≤ 8
/-- Two blocks that were just made. -/
theorem boxK2 (w : World) (t1 t2 : TypeId) (c1 c2 : Array Value) : KB ((w.alloc (.cells c1 t1)).alloc (.cells c2 t2)) w.heap.size t1 c1 ∧ KB ((w.alloc (.cells c1 t1)).alloc (.cells c2 t2)) (w.heap.size + 1) t2 c2 ∧
    Below w.heap.size w ((w.alloc (.cells c1 t1)).alloc (.cells c2 t2)) ∧ ((w.alloc (.cells c1 t1)).alloc (.cells c2 t2)).heap.size = w.heap.size + 2 := by
  have h1 := KB.new w t1 c1
  have h2 := KB.new (w.alloc (.cells c1 t1)) t2 c2
  have e1 : (w.alloc (.cells c1 t1)).heap.size = w.heap.size + 1 := by simp
  rw [e1] at h2
  exact ⟨h1.alloc _, h2, ((Below.refl _ _).alloc (Nat.le_refl _) _).alloc (by omega) _, by simp⟩
end Go.Proofs.YtehekjlakegkpaaGreat
end
section
namespace Go.Proofs.YtehekjlakegkpaaGreat
open Go.RowKit
set_option linter.unusedVariables false

theorem rnInfo' : (Tryz.prog.info? 180).map (fun i => (i.zero, i.size, i.bytes)) = some (some (.agg #[.int .i64 0, .slice none 0 0, .int .u64 0]), 3, 40) := by kernel_rfl
theorem rnZero : ∀ W, (zeroValue 180).run Tryz.prog W = .ok (.agg #[.int .i64 0, .slice none 0 0, .int .u64 0]) W := fun W => by
  obtain ⟨i0, hi, hz0, hz1, hz2⟩ := info_parts rnInfo'
  simp [zeroValue, typeInfo, hi, hz0]
theorem zr_list : (Builtin.zeroCells (Value.agg #[.int .i64 0, .slice none 0 0, .int .u64 0]).cells 1).toList = [.int .i64 0, .slice none 0 0, .int .u64 0] := by
  first | kernel_rfl | (simp [Builtin.zeroCells, Value.cells, Array.ofFn_succ]; done) | (simp [Builtin.zeroCells, Value.cells, List.range_succ])
/-- What Delete answers. -/
def DelTo (base : Nat) (w : World) (v : Value) (R : List Rn) (e : Ending) (w' : World) : Prop :=
  ∃ v', e = .returned v' ∧ w'.ownsRow base 180 3 v' R.length (rnC R) ∧ Turns (fun b => v.ownBlock = some b) w w' ∧ v'.ownBlock = v.ownBlock
theorem rn_splice (A Z B : List Value) (k : Nat) (hk : k = A.length) : splice (A ++ Z) k B = A ++ B ++ Z.drop B.length := by
  subst hk
  simp [splice, List.drop_append]
set_option maxHeartbeats 3200000 in
set_option maxRecDepth 100000 in
theorem del_any' {base : Nat} {w : World} {v : Value} {us : List Rn} {i : Nat} (h : w.ownsRow base 180 3 v us.length (rnC us)) (hi : i < us.length) (h32 : us.length ≤ 32) :
    Calls Tryz.prog 138 #[v, .int .i64 (i : Int), .int .i64 ((i : Int) + 1)] w (DelTo base w v (us.eraseIdx i)) := by
  obtain ⟨i0, hi0, hz0, hz1, hz2⟩ := info_parts rnInfo'
  obtain ⟨g, cap, rfl, hbg, hnc, hcm, hgl, cur0, hgk, hcs, htk⟩ : ∃ g cap, v = .slice (some ⟨g, 0, none⟩) us.length cap ∧ base ≤ g ∧ us.length ≤ cap ∧ cap ≤ maxLen ∧ g < w.heap.size ∧ (∃ cur, w.heap[g]? = some (.cells cur 180 (0, 0)) ∧ cur.size = cap * 3 ∧ cur.toList.take (us.length * 3) = rnC us) := by
    rcases own_forms h with ⟨e, hl, _⟩ | hh
    · omega
    · exact hh
  obtain ⟨n, hn⟩ : ∃ n, us.length = n + 1 := ⟨us.length - 1, by omega⟩
  have hcl : (rnC us).length = (n + 1) * 3 := by rw [rnC_len, hn]
  obtain ⟨Y, k0, hYl⟩ : ∃ Y : List Value, KB w g 180 (rnC us ++ Y).toArray ∧ Y.length = (cap - (n + 1)) * 3 := by
    have hl : cur0.toList.length = cap * 3 := by simpa using hcs
    refine ⟨cur0.toList.drop (us.length * 3), ?_, by rw [List.length_drop, hl]; omega⟩
    rw [← htk, List.take_append_drop]
    simpa [KB] using hgk
  have her : us.eraseIdx i = us.take i ++ us.drop (i + 1) := List.eraseIdx_eq_take_drop_succ us i
  have hel : (us.eraseIdx i).length = n := by rw [List.length_eraseIdx, if_pos hi, hn]; omega
  have hdl : (rnC (us.drop (i + 1))).length = (n - i) * 3 := by rw [rnC_len, List.length_drop, hn]; congr 1; omega
  have htl : (rnC (us.take i)).length = i * 3 := by rw [rnC_len, List.length_take]; congr 1; omega
  have hsp : rnC us = rnC (us.take i) ++ rnC (us.drop i) := by rw [← rnC_append, List.take_append_drop]
  obtain ⟨u, hu⟩ : ∃ u, us.drop i = u :: us.drop (i + 1) := ⟨us[i], List.drop_eq_getElem_cons hi⟩
  have hsp2 : rnC (us.drop i) = u.cells ++ rnC (us.drop (i + 1)) := by rw [hu]; rfl
  obtain ⟨ad, had⟩ : ∃ ad : Addr, ad = (if cap = i + 1 then ⟨g, 0, none⟩ else ⟨g, (i + 1) * 3, none⟩) := ⟨_, rfl⟩
  have hra : ∀ ty sc, (Builtin.append_ #[143, 143] ty #[.slice (some ⟨g, 0, none⟩) i cap, .slice (some ad) (n - i) sc]).run Tryz.prog w.drew = .ok (.slice (some ⟨g, 0, none⟩) n cap) (w.drew.setRow g (rnC (us.eraseIdx i) ++ (rnC us ++ Y).drop (n * 3)).toArray) := fun ty sc => by
    have := run_append_room (P := Tryz.prog) w.drew 143 ty 180 i0 Tryz.underlying143 hi0 g i cap (rnC us ++ Y).toArray k0 ad (n - i) sc (rnC (us.drop (i + 1))) (by rw [hz1, hdl]) (fun j u' hu' => by
      have hj := (List.getElem?_eq_some_iff.1 hu').1
      rw [hdl] at hj
      rw [had, if_neg (by omega), addr_add, KB.cell (show KB w.drew g _ _ from k0), List.getElem?_toArray, List.getElem?_append_left (by omega), hsp, hsp2, List.getElem?_append_right (by omega), List.getElem?_append_right (by rw [htl]; show u.cells.length ≤ _; simp [Rn.cells]; omega), ← hu']
      congr 1
      rw [htl]; simp [Rn.cells]; omega) (rnC_one _) (by omega) (by rw [hz1, hdl]; simp [hcl, hYl]; omega)
    rw [hz1, hdl, show i + (n - i) = n from by omega, show i * 3 + (n - i) * 3 = n * 3 from by omega] at this
    rw [this, her, rnC_append]
    congr 3
    rw [hsp]
    simp [htl]
  have k1 : KB (w.drew.setRow g (rnC (us.eraseIdx i) ++ (rnC us ++ Y).drop (n * 3)).toArray) g 180 (rnC (us.eraseIdx i) ++ (rnC us ++ Y).drop (n * 3)).toArray := setRow_heap w.drew g _ _ _ _ k0
  have t1 := turns_setRow w.drew g (rnC (us.eraseIdx i) ++ (rnC us ++ Y).drop (n * 3)).toArray
  generalize (w.drew.setRow g (rnC (us.eraseIdx i) ++ (rnC us ++ Y).drop (n * 3)).toArray) = w1 at hra k1 t1
  have T1 : Turns (fun b => b = g) w w1 := ⟨t1.os, t1.tape, t1.output, t1.size, t1.block⟩
  have hrl : (rnC (us.eraseIdx i)).length = n * 3 := by rw [rnC_len, hel]
  obtain ⟨w2, hrc, k2, t2⟩ := run_clearS (P := Tryz.prog) w1 143 180 (.agg #[.int .i64 0, .slice none 0 0, .int .u64 0]) g (n * 3) 1 _ _ Tryz.underlying143 rnZero k1 (by simp [hrl, hcl, hYl, Value.cells]; omega) (by rw [zr_list]; intro v hv; simp at hv; rcases hv with rfl | rfl | rfl <;> rfl) (by omega)
  rw [rn_splice _ _ _ _ hrl.symm, zr_list] at k2
  have fin : DelTo base w (.slice (some ⟨g, 0, none⟩) us.length cap) (us.eraseIdx i) (.returned (.slice (some ⟨g, 0, none⟩) n cap)) w2 := by
    refine ⟨_, rfl, ?_, (T1.trans t2 (fun b e => .inl e)).mono (fun b e => .inl (by rw [e]; rfl)), rfl⟩
    rw [hel]
    refine ⟨hrl, .inr ⟨g, cap, _, rfl, hbg, k2, by omega, hcm, ?_, ?_⟩⟩
    · simp [hrl, hcl, hYl]; omega
    · rw [List.append_assoc]
      exact List.take_left' hrl
  have HF := Lib.hid fin
  have hrc : ∀ ty c, (Builtin.clear_ #[143] ty #[.slice (some ⟨g, n * 3, none⟩) (n + 1 - n) c]).run Tryz.prog w1 = .ok (.tuple #[]) w2 := by rw [show n + 1 - n = 1 from by omega]; exact hrc
  have hp1 : (i : Int) + 1 ≤ (n : Int) + 1 := by omega
  have hp2 : (n : Int) ≤ (n : Int) + 1 := by omega
  have hp3 : n ≤ n + 1 := by omega
  have hp4 : ((i : Int) + 1).toNat = i + 1 := by omega
  have hp5 : (0 : Int) ≤ (i : Int) + 1 := by omega
  have hp6 : ¬ (i : Int) = (i : Int) + 1 := by omega
  have hcm' : cap ≤ 9223372036854775807 := by unfold maxLen at hcm; omega
  have hcd : ¬ cap = n := by omega
  have hnd0 : n ≤ cap := by omega
  have hii : i ≤ i + 1 := by omega
  have hin : i ≤ n := by omega
  have hic : i ≤ cap := by omega
  rw [hn] at HF hnc ⊢
  clear T1 t1 t2 k1 k2 k0 fin hdl hcl hYl h hcm hz0 hz1 hz2 hi0 hsp hsp2 hu her hel htl hrl hcs htk hgk hgl hbg
  by_cases hcc : cap = i + 1
  · rw [if_pos hcc] at had
    subst had
    have hnd : n = i := by omega
    subst hnd
    subst hcc
    simp only [Nat.sub_self] at hra
    go_enter Tryz.func138, Tryz.ntmps138
    go_wp2_with fail
    go_region_law (refine step_appR rfl _ _ 143 143 rfl (v := .slice (some ⟨g, 0, none⟩) n (n + 1)) (u := .slice (some ⟨g, 0, none⟩) 0 0) (by simp [Act.eval, Act.put]) (by simp [Act.eval, Act.put]) (hra _ _) ?_)
    all_goals
      go_wp2_with (at_builtin; refine wpList_clearR rfl _ 143 rfl rfl (hrc _ _) ?_)
      go_ret
      exact HF.out
  · rw [if_neg hcc] at had
    subst had
    go_enter Tryz.func138, Tryz.ntmps138
    go_wp2_with fail
    go_region_law (refine step_appR rfl _ _ 143 143 rfl (v := .slice (some ⟨g, 0, none⟩) i cap) (u := .slice (some ⟨g, (i + 1) * 3, none⟩) (n - i) (cap - (i + 1))) (by simp [Act.eval, Act.put]) (by simp [Act.eval, Act.put]) (hra _ _) ?_)
    all_goals
      go_wp2_with (at_builtin; refine wpList_clearR rfl _ 143 rfl rfl (hrc _ _) ?_)
      go_ret
      exact HF.out
end Go.Proofs.YtehekjlakegkpaaGreat
end
