/-
  What lies in memory of an election under way, and what it is as mathematics: the same scores, the same one elected, the same loads. No program is walked here.
-/
import Derived.Test.YtehekjlakegkpaaGreatX22
import Derived.Test.YtehekjlakegkpaaGreatX23
section
namespace Go.Proofs.YtehekjlakegkpaaGreat
open Go.RowKit
set_option linter.unusedVariables false

/-- Voters with loads, from a place on. -/
def zsF (ld : Nat → Rat) : Nat → List Vr → List (Vr × Rat)
  | _, [] => []
  | j, v :: vs => (v, ld j) :: zsF ld (j + 1) vs
theorem zsF_append (ld : Nat → Rat) (j : Nat) (us : List Vr) (v : Vr) : zsF ld j (us ++ [v]) = zsF ld j us ++ [(v, ld (j + us.length))] := by
  induction us generalizing j with
  | nil => rfl
  | cons u us ih =>
    simp only [List.cons_append, zsF, ih, List.length_cons]
    rw [show j + 1 + us.length = j + (us.length + 1) from by omega]
theorem zsF_fst (ld : Nat → Rat) (j : Nat) (us : List Vr) : (zsF ld j us).map Prod.fst = us := by
  induction us generalizing j with
  | nil => rfl
  | cons u us ih => simp only [zsF, List.map_cons, ih]
theorem zsF_zero (j : Nat) (us : List Vr) : zsF (fun _ => 0) j us = us.map fun v => (v, (0 : Rat)) := by
  induction us generalizing j with
  | nil => rfl
  | cons u us ih => simp only [zsF, List.map_cons, ih]
theorem zsF_congr (f g : Nat → Rat) (j : Nat) (us : List Vr) (h : ∀ i, i < us.length → f (j + i) = g (j + i)) : zsF f j us = zsF g j us := by
  induction us generalizing j with
  | nil => rfl
  | cons u us ih =>
    have h0 := h 0 (by simp)
    rw [Nat.add_zero] at h0
    simp only [zsF, h0]
    rw [ih (j + 1) (fun i hi => by have := h (i + 1) (by simp; omega); rw [show j + 1 + i = j + (i + 1) from by omega]; exact this)]
theorem zsF_el (ld : Nat → Rat) (c : Int) (x : Rat) (j : Nat) (us : List Vr) (g : Nat → Rat) (hg : ∀ i v, us[i]? = some v → g (j + i) = if apv v c = true then x else ld (j + i)) : elZ c x (zsF ld j us) = zsF g j us := by
  induction us generalizing j with
  | nil => rfl
  | cons u us ih =>
    have h0 := hg 0 u rfl
    rw [Nat.add_zero] at h0
    have h1 := ih (j + 1) (fun i v hv => by have := hg (i + 1) v (by simpa using hv); rw [show j + 1 + i = j + (i + 1) from by omega]; exact this)
    unfold elZ at h1 ⊢
    simp only [zsF, List.map_cons, h1, h0]
    congr 1
    split <;> rfl
/-- A voter's load: the score of its latest seat. -/
def ldJ (lt : List Int) (xs : List Rat) (j : Nat) : Rat := if zl lt j < 0 then 0 else (xs[(zl lt j).toNat]?).getD 0
/-- A voter's stake, by its place. -/
def stJ (vs : List Vr) (p : Nat) : Nat := (vs[p]?.map Vr.st).getD 0
/-- Places' stakes times loads. -/
def sumJ (vs : List Vr) (f : Nat → Rat) : List Nat → Rat
  | [] => 0
  | p :: ps => (stJ vs p : Rat) * f p + sumJ vs f ps
theorem sumJ_append (vs : List Vr) (f : Nat → Rat) (ps qs : List Nat) : sumJ vs f (ps ++ qs) = sumJ vs f ps + sumJ vs f qs := by
  induction ps with
  | nil => simp only [List.nil_append, sumJ]; grind
  | cons p ps ih => simp only [List.cons_append, sumJ, ih]; grind
theorem ldZ_pl (vs : List Vr) (f : Nat → Rat) (c : Int) : ldZ c (zsF f 0 vs) = sumJ vs f (plN vs c) := by
  have key : ∀ k, k ≤ vs.length → ldZ c (zsF f 0 (vs.take k)) = sumJ vs f (plT vs c k) := by
    intro k hk
    induction k with
    | zero => rfl
    | succ k ih =>
      obtain ⟨v, hv⟩ : ∃ v, vs[k]? = some v := ⟨_, List.getElem?_eq_getElem (by omega)⟩
      rw [List.take_add_one, hv, plT_succ hv]
      show ldZ c (zsF f 0 (vs.take k ++ [v])) = _
      rw [zsF_append, List.length_take, Nat.min_eq_left (by omega), Nat.zero_add]
      unfold ldZ
      rw [sumZ_append]
      rw [show sumZ (fun z => if apv z.1 c = true then (z.1.st : Rat) * z.2 else 0) (zsF f 0 (vs.take k)) = ldZ c (zsF f 0 (vs.take k)) from rfl, ih (by omega), sumJ_append]
      simp only [sumZ]
      by_cases a : apv v c = true
      · rw [if_pos a, if_pos a]
        simp only [sumJ, stJ, hv, Option.map_some, Option.getD_some]
      · rw [if_neg a, if_neg a]
        simp only [sumJ]; grind
  have := key vs.length (Nat.le_refl _)
  rw [List.take_length] at this
  exact this
theorem sk_pl (vs : List Vr) (c : Int) : ((plN vs c).map (stJ vs)).sum = skN c vs := by
  have key : ∀ k, k ≤ vs.length → ((plT vs c k).map (stJ vs)).sum = skN c (vs.take k) := by
    intro k hk
    induction k with
    | zero => rfl
    | succ k ih =>
      obtain ⟨v, hv⟩ : ∃ v, vs[k]? = some v := ⟨_, List.getElem?_eq_getElem (by omega)⟩
      rw [plT_succ hv, skN_take_succ hv, List.map_append, List.sum_append, ih (by omega)]
      by_cases a : apv v c = true
      · rw [if_pos a, if_pos a]; simp [stJ, hv]
      · rw [if_neg a, if_neg a]; simp
  have := key vs.length (Nat.le_refl _)
  rw [List.take_length] at this
  exact this
/-! The sum by seats is the sum by voters. -/
def lsJ (L : Nat → Nat) (xs : List Rat) : Nat → Rat
  | 0 => 0
  | k + 1 => lsJ L xs k + (L k : Rat) * (xs[k]?.getD 0)
theorem lsum_ls (L : List Nat) (xs : List Rat) (k : Nat) : lsum L xs k = 1 + lsJ (el L) xs k := by
  induction k with
  | zero => simp only [lsum, lsJ]; grind
  | succ k ih => simp only [lsum, lsJ, ih]; grind
theorem lsJ_congr (f g : Nat → Nat) (xs : List Rat) (k : Nat) (h : ∀ i, i < k → f i = g i) : lsJ f xs k = lsJ g xs k := by
  induction k with
  | zero => rfl
  | succ k ih => simp only [lsJ]; rw [ih (fun i hi => h i (by omega)), h k (by omega)]
theorem lsJ_add (f g : Nat → Nat) (xs : List Rat) (k : Nat) : lsJ (fun i => f i + g i) xs k = lsJ f xs k + lsJ g xs k := by
  induction k with
  | zero => simp only [lsJ]; grind
  | succ k ih => simp only [lsJ, ih, Rat.natCast_add]; grind
theorem lsJ_zero (xs : List Rat) (k : Nat) : lsJ (fun _ => 0) xs k = 0 := by
  induction k with
  | zero => rfl
  | succ k ih => simp only [lsJ, ih]; grind
theorem lsJ_one (z : Int) (a : Nat) (xs : List Rat) (k : Nat) : lsJ (fun i => if z = (i : Int) then a else 0) xs k = if z < 0 ∨ (k : Int) ≤ z then 0 else (a : Rat) * (xs[z.toNat]?.getD 0) := by
  induction k with
  | zero =>
    simp only [lsJ]
    rw [if_pos (by omega)]
  | succ k ih =>
    simp only [lsJ, ih]
    by_cases e : z = (k : Int)
    · subst e
      rw [if_pos (.inr (Int.le_refl _)), if_pos rfl, if_neg (by omega), Int.toNat_natCast]; grind
    · rw [if_neg e]
      by_cases h : z < 0 ∨ (k : Int) ≤ z
      · rw [if_pos h, if_pos (by omega)]; grind
      · rw [if_neg h, if_neg (by omega)]; grind
theorem ls_pl (vs : List Vr) (lt : List Int) (xs : List Rat) (ps : List Nat) (E : Nat) (hE : E = xs.length) (h : ∀ p ∈ ps, zl lt p < (E : Int)) : lsJ (el (ldL vs lt E ps)) xs E = sumJ vs (ldJ lt xs) ps := by
  induction ps with
  | nil =>
    rw [lsJ_congr _ (fun _ => 0) xs E (fun i hi => by rw [ldL_el _ _ _ _ _ hi]; rfl), lsJ_zero]; rfl
  | cons p ps ih =>
    rw [lsJ_congr _ (fun i => (if zl lt p = (i : Int) then stJ vs p else 0) + el (ldL vs lt E ps) i) xs E (fun i hi => by
      rw [ldL_el _ _ _ _ _ hi, ldL_el _ _ _ _ _ hi, List.map_cons, List.sum_cons]; rfl), lsJ_add, ih (fun q hq => h q (by simp [hq])), lsJ_one]
    simp only [sumJ]
    congr 1
    have hp := h p (by simp)
    unfold ldJ
    by_cases hz : zl lt p < 0
    · rw [if_pos (.inl hz), if_pos hz]; grind
    · rw [if_neg (by omega), if_neg hz]
theorem zl_setA (lt : List Int) (ps : List Nat) (z : Int) (j : Nat) (hj : j < lt.length) : zl (setA lt ps z) j = if j ∈ ps then z else zl lt j := by
  unfold setA
  induction ps generalizing lt with
  | nil => simp
  | cons p ps ih =>
    rw [List.foldl_cons, ih (lt.set p z) (by simpa using hj)]
    by_cases h : j ∈ ps
    · rw [if_pos h, if_pos (by simp [h])]
    · rw [if_neg h]
      by_cases e : p = j
      · subst e
        rw [if_pos (by simp), zl_get _ _ (by simpa using hj)]; simp
      · rw [if_neg (by simp [h]; omega)]
        unfold zl
        rw [List.getD_eq_getElem?_getD, List.getD_eq_getElem?_getD, List.getElem?_set]
        simp [e]
theorem mem_pl {vs : List Vr} {j : Nat} {v : Vr} (hv : vs[j]? = some v) (c : Int) : j ∈ plN vs c ↔ apv v c = true := by
  unfold plN plT
  rw [List.mem_filter, List.mem_range, hv]
  have : j < vs.length := (List.getElem?_eq_some_iff.1 hv).1
  simp [this]
theorem er_map {α β : Type} (f : α → β) (l : List α) (i : Nat) : (l.eraseIdx i).map f = (l.map f).eraseIdx i := by
  induction l generalizing i with
  | nil => rfl
  | cons a l ih =>
    cases i with
    | zero => rfl
    | succ i => simp [ih]
/-- What lies in memory is this election. -/
structure Lk (vs : List Vr) (m : Rm) (r : Rc) : Prop where
  n : m.n = vs.length
  rs : m.rs.map Rn.out = r.R.map fun c => (c, plN vs c, skN c vs)
  es : m.es.map Se.out = r.es
  zs : r.zs = zsF (ldJ m.lt (m.es.map Se.x)) 0 vs
  lt : ∀ j, j < m.n → zl m.lt j < (m.es.length : Int)
  ll : m.lt.length = m.n
section
variable {vs : List Vr} {m : Rm} {r : Rc}
theorem Lk.run_at (h : Lk vs m r) {b : Nat} {u : Rn} (hu : m.rs[b]? = some u) : r.R[b]? = some u.cd ∧ u.ps = plN vs u.cd ∧ u.st = skN u.cd vs := by
  have h1 := congrArg (fun l => l[b]?) h.rs
  simp only [List.getElem?_map, hu, Option.map_some] at h1
  cases hR : r.R[b]? with
  | none => rw [hR] at h1; simp at h1
  | some c =>
    rw [hR] at h1
    simp only [Option.map_some, Option.some.injEq, Rn.out, Prod.mk.injEq] at h1
    obtain ⟨h2, h3, h4⟩ := h1
    subst h2
    exact ⟨rfl, h3, h4⟩
theorem Lk.sc (h : Lk vs m r) {u : Rn} (hu : u ∈ m.rs) : scM vs m u = scZ r.zs u.cd := by
  obtain ⟨b, hb, e⟩ := List.mem_iff_getElem.1 hu
  obtain ⟨h1, h2, h3⟩ := h.run_at (b := b) (u := u) (by rw [List.getElem?_eq_getElem hb, e])
  unfold scM scZ
  rw [lsum_ls, ls_pl vs m.lt (m.es.map Se.x) u.ps m.es.length (by simp) (fun p hp => h.lt p (by
    rw [h2] at hp
    have := plT_lt hp
    rw [h.n]; exact this)), skZ_nat, h.zs, zsF_fst, ldZ_pl, h2, h3]
theorem Lk.len (h : Lk vs m r) : m.rs.length = r.R.length := by
  have := congrArg List.length h.rs
  simpa using this
theorem Lk.best (h : Lk vs m r) {b : Nat} (hb : BestN (svM vs m) m.rs.length b) : IsBest (scZ r.zs) r.R b := by
  have hs : ∀ j, j < m.rs.length → svM vs m j = scZ r.zs (r.R.getD j 0) := fun j hj => by
    obtain ⟨u, hu⟩ : ∃ u, m.rs[j]? = some u := ⟨_, List.getElem?_eq_getElem hj⟩
    unfold svM
    rw [hu, List.getD_eq_getElem?_getD, (h.run_at hu).1]
    exact h.sc (List.mem_of_getElem? hu)
  obtain ⟨h1, h2, h3⟩ := hb
  refine ⟨by rw [← h.len]; exact h1, fun j hj => ?_, fun j hj => ?_⟩
  · rw [← h.len] at hj
    rw [← hs b h1, ← hs j hj]; exact h2 j hj
  · rw [← hs b h1, ← hs j (by omega)]; exact h3 j hj
theorem Lk.next (h : Lk vs m r) {m' : Rm} {b : Nat} {u : Rn} (hb : BestN (svM vs m) m.rs.length b) (hu : m.rs[b]? = some u) (hn : m'.n = m.n) (hrs : m'.rs = m.rs.eraseIdx b)
    (hes : m'.es.map Se.out = m.es.map Se.out ++ [(u.cd, scM vs m u)]) (hlt : m'.lt = setA m.lt u.ps (m.es.length : Int)) : Lk vs m' r.next := by
  have hI := h.best hb
  obtain ⟨h1, h2, h3⟩ := h.run_at hu
  have hbi : bstI (scZ r.zs) r.R = b := hI.eq
  have hbest : r.best = u.cd := by unfold Rc.best; rw [hbi, List.getD_eq_getElem?_getD, h1]; rfl
  have hsc := h.sc (List.mem_of_getElem? hu)
  have hxs : m'.es.map Se.x = m.es.map Se.x ++ [scM vs m u] := by
    have := congrArg (List.map Prod.snd) hes
    simpa [List.map_map, Function.comp_def, Se.out] using this
  have hel : m'.es.length = m.es.length + 1 := by
    have := congrArg List.length hes
    simpa using this
  refine ⟨hn.trans h.n, ?_, ?_, ?_, fun j hj => ?_, by rw [hlt, setA_len, h.ll, hn]⟩
  · show m'.rs.map Rn.out = (r.R.eraseIdx (bstI (scZ r.zs) r.R)).map _
    rw [hrs, hbi, er_map, er_map, h.rs]
  · show _ = r.es ++ [(r.best, scZ r.zs r.best)]
    rw [hes, h.es, hbest, hsc]
  · show elZ r.best (scZ r.zs r.best) r.zs = _
    rw [hbest, ← hsc]
    conv => lhs; rw [h.zs]
    refine zsF_el _ _ _ _ _ _ fun i v hv => ?_
    have hi : i < vs.length := (List.getElem?_eq_some_iff.1 hv).1
    rw [Nat.zero_add]
    unfold ldJ
    rw [hlt, zl_setA _ _ _ _ (by rw [h.ll, h.n]; exact hi), hxs, h2]
    by_cases a : apv v u.cd = true
    · rw [if_pos a, if_pos ((mem_pl hv u.cd).2 a), if_neg (by omega), Int.toNat_natCast, List.getElem?_append_right (by simp)]
      simp
    · rw [if_neg a, if_neg (fun hh => a ((mem_pl hv u.cd).1 hh))]
      by_cases hz : zl m.lt i < 0
      · rw [if_pos hz, if_pos hz]
      · rw [if_neg hz, if_neg hz]
        have := h.lt i (by rw [h.n]; exact hi)
        rw [List.getElem?_append_left (by simp; omega)]
  · rw [hn] at hj
    rw [hlt, zl_setA _ _ _ _ (by rw [h.ll]; exact hj), hel]
    have := h.lt j hj
    split <;> omega
/-- What each runner's score needs. -/
theorem Lk.ok (h : Lk vs m r) {n D : Nat} {k : Rat} {R0 : List Int} (hr : Run vs R0 n r k) (hz : Siz n r D) (hn : n ≤ 8) (ht : (vs.map Vr.st).sum < 18446744073709551616) : (∀ u ∈ m.rs, RnOk vs m u) ∧ SzM m D := by
  have hD16 : D ≤ pw 16 := Nat.le_trans hz.le (pw_le (by omega))
  have hel : m.es.length = n := by
    have := congrArg List.length h.es
    rw [List.length_map] at this
    rw [this]; exact hr.len
  refine ⟨fun u hu => ?_, hz.pos, hD16, fun e he => ?_, by omega⟩
  · obtain ⟨b, hb, e⟩ := List.mem_iff_getElem.1 hu
    obtain ⟨h1, h2, h3⟩ := h.run_at (b := b) (u := u) (by rw [List.getElem?_eq_getElem hb, e])
    have hs := (hr.ok.lev.2 u.cd (List.mem_of_getElem? h1)).1
    have hsk := skN_pos hs
    rw [hr.fst] at hsk
    have hle := skN_le u.cd vs
    have hsum : (u.ps.map fun p => (vs[p]?.map Vr.st).getD 0).sum = skN u.cd vs := by rw [h2]; exact sk_pl vs u.cd
    refine ⟨fun p hp => ?_, by rw [hsum]; omega, by rw [h3]; exact ⟨hsk, by omega⟩, ?_⟩
    · rw [h2] at hp
      have hp' : p < m.n := by rw [h.n]; exact plT_lt hp
      exact ⟨hp', h.lt p hp'⟩
    · rw [h.sc hu]
      have hd := hz.sc _ hs
      rw [hr.fst] at hd
      refine hd.sm (Nat.mul_pos hz.pos hsk) 18 3 ?_ (n + 1) (hz.sc_le _ hs) (by rw [pw3]; omega) (by omega)
      have h2 : skN u.cd vs ≤ pw 2 := by have : (18446744073709551616 : Nat) = pw 2 := rfl; omega
      rw [show 18 = 16 + 2 from rfl, pw_add]
      exact Nat.mul_le_mul hD16 h2
  · have := hz.es (e.out) (by rw [← h.es]; exact List.mem_map_of_mem he)
    refine ⟨this.1, Rat.le_trans this.2 ?_⟩
    have h8 : ((n : Nat) : Rat) ≤ ((8 : Nat) : Rat) := by exact_mod_cast hn
    exact h8
end
end Go.Proofs.YtehekjlakegkpaaGreat
end
