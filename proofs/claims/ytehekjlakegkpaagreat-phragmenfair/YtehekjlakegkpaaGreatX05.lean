/-
  Phragmén's sequential method as plain mathematics, over fractions: voters with loads, scores, who is elected; scores do not fall, all loads together are as many as there are seats; no group that is due r seats has fewer than r members that one of it approves; all stakes so many times as great; a voter more that approves nobody; what each voter gives. No program is in sight here.
-/
import Derived.Test.YtehekjlakegkpaaGreatX04
section
namespace Go.Proofs.YtehekjlakegkpaaGreat
open Go.RowKit
set_option linter.unusedVariables false

/-- Sums over voters with loads. -/
def sumZ (f : Vr × Rat → Rat) : List (Vr × Rat) → Rat
  | [] => 0
  | z :: zs => f z + sumZ f zs
theorem sumZ_append (f : Vr × Rat → Rat) (zs ys : List (Vr × Rat)) : sumZ f (zs ++ ys) = sumZ f zs + sumZ f ys := by
  induction zs with
  | nil => simp only [List.nil_append, sumZ]; grind
  | cons z zs ih => simp only [List.cons_append, sumZ, ih]; grind
theorem sumZ_map (f : Vr × Rat → Rat) (g : Vr × Rat → Vr × Rat) (zs : List (Vr × Rat)) : sumZ f (zs.map g) = sumZ (fun z => f (g z)) zs := by
  induction zs with
  | nil => rfl
  | cons z zs ih => simp only [List.map_cons, sumZ, ih]
theorem sumZ_congr (f g : Vr × Rat → Rat) (zs : List (Vr × Rat)) (h : ∀ z ∈ zs, f z = g z) : sumZ f zs = sumZ g zs := by
  induction zs with
  | nil => rfl
  | cons z zs ih => simp only [sumZ]; rw [h z (by simp), ih (fun y hy => h y (by simp [hy]))]
theorem sumZ_le (f g : Vr × Rat → Rat) (zs : List (Vr × Rat)) (h : ∀ z ∈ zs, f z ≤ g z) : sumZ f zs ≤ sumZ g zs := by
  induction zs with
  | nil => simp only [sumZ]; grind
  | cons z zs ih =>
    have h1 := h z (by simp)
    have h2 := ih (fun y hy => h y (by simp [hy]))
    simp only [sumZ]; grind
theorem sumZ_add (f g : Vr × Rat → Rat) (zs : List (Vr × Rat)) : sumZ (fun z => f z + g z) zs = sumZ f zs + sumZ g zs := by
  induction zs with
  | nil => simp only [sumZ]; grind
  | cons z zs ih => simp only [sumZ, ih]; grind
theorem sumZ_mul (f : Vr × Rat → Rat) (k : Rat) (zs : List (Vr × Rat)) : sumZ (fun z => k * f z) zs = k * sumZ f zs := by
  induction zs with
  | nil => simp only [sumZ]; grind
  | cons z zs ih => simp only [sumZ, ih]; grind
theorem sumZ_nonneg (f : Vr × Rat → Rat) (zs : List (Vr × Rat)) (h : ∀ z ∈ zs, 0 ≤ f z) : 0 ≤ sumZ f zs := by
  have := sumZ_le (fun _ => 0) f zs h
  have e : sumZ (fun _ => (0 : Rat)) zs = 0 := by
    clear this h
    induction zs with
    | nil => rfl
    | cons z zs ih => simp only [sumZ, ih]; grind
  grind
theorem sumZ_part (f : Vr × Rat → Rat) (zs : List (Vr × Rat)) (h : ∀ z ∈ zs, 0 ≤ f z) (z : Vr × Rat) (hz : z ∈ zs) : f z ≤ sumZ f zs := by
  induction zs with
  | nil => simp at hz
  | cons y ys ih =>
    have h0 := sumZ_nonneg f ys (fun y hy => h y (by simp [hy]))
    have h1 := h y (by simp)
    simp only [sumZ]
    rcases List.mem_cons.1 hz with e | e
    · subst e; grind
    · have := ih (fun y hy => h y (by simp [hy])) e; grind

/-- What a candidate's approvers bear: stake times load, together; and their stakes. -/
def ldZ (c : Int) (zs : List (Vr × Rat)) : Rat := sumZ (fun z => if apv z.1 c = true then (z.1.st : Rat) * z.2 else 0) zs
def skZ (c : Int) (zs : List (Vr × Rat)) : Rat := sumZ (fun z => if apv z.1 c = true then (z.1.st : Rat) else 0) zs
/-- A candidate's score. -/
def scZ (zs : List (Vr × Rat)) (c : Int) : Rat := (1 + ldZ c zs) / skZ c zs
/-- The loads behind an election. -/
def elZ (c : Int) (x : Rat) (zs : List (Vr × Rat)) : List (Vr × Rat) := zs.map fun z => if apv z.1 c = true then (z.1, x) else z
/-- The first one with the least value. -/
def IsBest (f : Int → Rat) (R : List Int) (k : Nat) : Prop := k < R.length ∧ (∀ j, j < R.length → f (R.getD k 0) ≤ f (R.getD j 0)) ∧ ∀ j, j < k → f (R.getD k 0) < f (R.getD j 0)
theorem IsBest.uniq {f : Int → Rat} {R : List Int} {k l : Nat} (h : IsBest f R k) (h' : IsBest f R l) : k = l := by
  obtain ⟨h1, h2, h3⟩ := h
  obtain ⟨g1, g2, g3⟩ := h'
  rcases Nat.lt_trichotomy k l with e | e | e
  · have := g3 k e; have := h2 l g1; grind
  · exact e
  · have := h3 l e; have := g2 k h1; grind
theorem IsBest.one (f : Int → Rat) (R : List Int) (h : R.length = 1) : IsBest f R 0 := by
  refine ⟨by omega, fun j hj => ?_, fun j hj => by omega⟩
  obtain rfl : j = 0 := by omega
  grind
theorem getD_take (R : List Int) (n j : Nat) (h : j < n) : (R.take n).getD j 0 = R.getD j 0 := by
  simp only [List.getD_eq_getElem?_getD, List.getElem?_take, if_pos h]
/-- One more is looked at. -/
theorem IsBest.more_lt {f : Int → Rat} {R : List Int} {k n : Nat} (h : IsBest f (R.take n) k) (hn : n < R.length) (hl : f (R.getD n 0) < f (R.getD k 0)) : IsBest f (R.take (n + 1)) n := by
  obtain ⟨h1, h2, h3⟩ := h
  rw [List.length_take] at h1 h2
  have hkn : k < n := by omega
  rw [getD_take _ _ _ hkn] at h2 h3
  refine ⟨by rw [List.length_take]; omega, fun j hj => ?_, fun j hj => ?_⟩
  · rw [List.length_take] at hj
    rw [getD_take _ _ _ (by omega), getD_take _ _ _ (by omega)]
    rcases Nat.lt_or_ge j n with e | e
    · have := h2 j (by omega); rw [getD_take _ _ _ e] at this; grind
    · obtain rfl : j = n := by omega
      grind
  · rw [getD_take _ _ _ (by omega), getD_take _ _ _ (by omega)]
    have := h2 j (by omega); rw [getD_take _ _ _ hj] at this; grind
theorem IsBest.more_ge {f : Int → Rat} {R : List Int} {k n : Nat} (h : IsBest f (R.take n) k) (hn : n < R.length) (hl : ¬ f (R.getD n 0) < f (R.getD k 0)) : IsBest f (R.take (n + 1)) k := by
  obtain ⟨h1, h2, h3⟩ := h
  rw [List.length_take] at h1 h2
  have hkn : k < n := by omega
  rw [getD_take _ _ _ hkn] at h2 h3
  refine ⟨by rw [List.length_take]; omega, fun j hj => ?_, fun j hj => ?_⟩
  · rw [List.length_take] at hj
    rw [getD_take _ _ _ (by omega), getD_take _ _ _ (by omega)]
    rcases Nat.lt_or_ge j n with e | e
    · have := h2 j (by omega); rw [getD_take _ _ _ e] at this; grind
    · obtain rfl : j = n := by omega
      grind
  · rw [getD_take _ _ _ (by omega), getD_take _ _ _ (by omega)]
    have := h3 j hj; rw [getD_take _ _ _ (by omega)] at this; grind
/-- Its place. -/
noncomputable def bstI (f : Int → Rat) (R : List Int) : Nat := open Classical in if h : ∃ k, IsBest f R k then h.choose else 0
theorem IsBest.eq {f : Int → Rat} {R : List Int} {k : Nat} (h : IsBest f R k) : bstI f R = k := by
  have hx : ∃ k, IsBest f R k := ⟨k, h⟩
  unfold bstI
  rw [dif_pos hx]
  exact hx.choose_spec.uniq h
theorem isBest_some (f : Int → Rat) (R : List Int) (n : Nat) (h0 : 0 < n) (hn : n ≤ R.length) : ∃ k, IsBest f (R.take n) k := by
  induction n with
  | zero => omega
  | succ n ih =>
    rcases Nat.eq_zero_or_pos n with e | e
    · subst e
      exact ⟨0, IsBest.one f _ (by rw [List.length_take]; omega)⟩
    · obtain ⟨k, hk⟩ := ih e (by omega)
      by_cases hl : f (R.getD n 0) < f (R.getD k 0)
      · exact ⟨n, hk.more_lt (by omega) hl⟩
      · exact ⟨k, hk.more_ge (by omega) hl⟩
theorem bstI_best (f : Int → Rat) (R : List Int) (h : R ≠ []) : IsBest f R (bstI f R) := by
  obtain ⟨k, hk⟩ := isBest_some f R R.length (by rcases R with _ | ⟨x, R⟩ <;> simp at h ⊢) (Nat.le_refl _)
  rw [List.take_length] at hk
  rw [hk.eq]; exact hk
theorem bstI_congr (f g : Int → Rat) (R : List Int) (h : ∀ c ∈ R, f c = g c) : bstI f R = bstI g R := by
  rcases Decidable.em (R = []) with e | e
  · subst e
    unfold bstI
    have n1 : ¬ ∃ k, IsBest f [] k := fun ⟨k, hk⟩ => by have := hk.1; simp at this
    have n2 : ¬ ∃ k, IsBest g [] k := fun ⟨k, hk⟩ => by have := hk.1; simp at this
    rw [dif_neg n1, dif_neg n2]
  · obtain ⟨h1, h2, h3⟩ := bstI_best g R e
    have hg : ∀ j, j < R.length → f (R.getD j 0) = g (R.getD j 0) := fun j hj => h _ (by rw [List.getD_eq_getElem?_getD, List.getElem?_eq_getElem hj]; exact List.getElem_mem hj)
    refine IsBest.eq ⟨h1, fun j hj => ?_, fun j hj => ?_⟩
    · rw [hg _ h1, hg _ hj]; exact h2 j hj
    · rw [hg _ h1, hg _ (by omega)]; exact h3 j hj

/-- An election under way: voters with loads, candidates not elected, seats. -/
structure Rc where
  zs : List (Vr × Rat)
  R : List Int
  es : List (Int × Rat)
noncomputable def Rc.best (r : Rc) : Int := r.R.getD (bstI (scZ r.zs) r.R) 0
/-- One is elected. -/
noncomputable def Rc.next (r : Rc) : Rc := ⟨elZ r.best (scZ r.zs r.best) r.zs, r.R.eraseIdx (bstI (scZ r.zs) r.R), r.es ++ [(r.best, scZ r.zs r.best)]⟩
noncomputable def Rc.run (r : Rc) : Nat → Rc
  | 0 => r
  | n + 1 => (r.run n).next
/-- How it begins. -/
def rc0 (vs : List Vr) (R : List Int) : Rc := ⟨vs.map fun v => (v, 0), R, []⟩
section
variable {zs : List (Vr × Rat)} {c : Int} {x m : Rat}
theorem elZ_fst : (elZ c x zs).map Prod.fst = zs.map Prod.fst := by
  unfold elZ; rw [List.map_map]; refine List.map_congr_left fun z _ => ?_
  show (if apv z.1 c = true then (z.1, x) else z).1 = z.1
  split <;> rfl
theorem sk_elZ (d : Int) : skZ d (elZ c x zs) = skZ d zs := by
  unfold skZ elZ; rw [sumZ_map]; refine sumZ_congr _ _ _ fun z _ => ?_
  show (if apv (if apv z.1 c = true then (z.1, x) else z).1 d = true then _ else _) = _
  split <;> split <;> simp_all
theorem st_nonneg (n : Nat) : (0 : Rat) ≤ (n : Rat) := Rat.natCast_nonneg
theorem ld_nonneg (h : ∀ z ∈ zs, 0 ≤ z.2) (d : Int) : 0 ≤ ldZ d zs := by
  refine sumZ_nonneg _ _ fun z hz => ?_
  split
  · exact Rat.mul_nonneg (st_nonneg _) (h z hz)
  · grind
theorem sk_nonneg (d : Int) : 0 ≤ skZ d zs := by
  refine sumZ_nonneg _ _ fun z hz => ?_
  split
  · exact st_nonneg _
  · grind
/-- It is supported. -/
def SupZ (d : Int) (zs : List (Vr × Rat)) : Prop := ∃ z ∈ zs, apv z.1 d = true
theorem apv_st {v : Vr} (h : apv v c = true) : 1 ≤ v.st := (of_decide_eq_true h).1
theorem sk_pos (h : SupZ c zs) : 1 ≤ skZ c zs := by
  obtain ⟨z, hz, ha⟩ := h
  have := sumZ_part (fun z => if apv z.1 c = true then (z.1.st : Rat) else 0) zs (fun z _ => by split; exact st_nonneg _; grind) z hz
  rw [if_pos ha] at this
  have h1 : (1 : Rat) ≤ (z.1.st : Rat) := by have := apv_st ha; exact_mod_cast this
  unfold skZ; grind
theorem supZ_el {d : Int} : SupZ d (elZ c x zs) ↔ SupZ d zs := by
  have key : ∀ ys : List (Vr × Rat), SupZ d ys ↔ ∃ v ∈ ys.map Prod.fst, apv v d = true := fun ys => by unfold SupZ; simp
  rw [key, key, elZ_fst]
theorem sc_mul (h : SupZ c zs) : scZ zs c * skZ c zs = 1 + ldZ c zs := by
  have := sk_pos h
  unfold scZ
  exact Rat.div_mul_cancel (by grind)
/-- No load is above m, no score of these below it. -/
def Lev (zs : List (Vr × Rat)) (R : List Int) (m : Rat) : Prop := (∀ z ∈ zs, 0 ≤ z.2 ∧ z.2 ≤ m) ∧ (∀ d ∈ R, SupZ d zs ∧ m ≤ scZ zs d)
theorem sc_mono (h : SupZ c zs) (ys : List (Vr × Rat)) (hk : skZ c ys = skZ c zs) (hl : ldZ c zs ≤ ldZ c ys) (hs : SupZ c ys) : scZ zs c ≤ scZ ys c := by
  have h1 := sc_mul h
  have h2 := sc_mul hs
  have h3 := sk_pos h
  rw [hk] at h2
  exact Rat.le_of_mul_le_mul_right (c := skZ c zs) (by grind) (by grind)
theorem elZ_mem {z : Vr × Rat} (h : z ∈ elZ c x zs) : (∃ y ∈ zs, z = (y.1, x) ∧ apv y.1 c = true) ∨ (z ∈ zs ∧ ¬ apv z.1 c = true) := by
  unfold elZ at h
  obtain ⟨y, hy, rfl⟩ := List.mem_map.1 h
  by_cases e : apv y.1 c = true
  · rw [if_pos e]; exact .inl ⟨y, hy, rfl, e⟩
  · rw [if_neg e]; exact .inr ⟨hy, e⟩
theorem ld_el_le (d : Int) (h : ∀ z ∈ zs, z.2 ≤ x) : ldZ d zs ≤ ldZ d (elZ c x zs) := by
  unfold ldZ elZ; rw [sumZ_map]; refine sumZ_le _ _ _ fun z hz => ?_
  show (if apv z.1 d = true then (z.1.st : Rat) * z.2 else 0) ≤ (if apv (if apv z.1 c = true then (z.1, x) else z).1 d = true then ((if apv z.1 c = true then (z.1, x) else z).1.st : Rat) * (if apv z.1 c = true then (z.1, x) else z).2 else 0)
  by_cases e : apv z.1 c = true
  · simp only [if_pos e]
    split
    · exact Rat.mul_le_mul_of_nonneg_left (h z hz) (st_nonneg _)
    · grind
  · simp only [if_neg e]; grind
/-- What all loads have more behind an election, of those whose flag is set. -/
theorem el_sum (G : Vr → Bool) : sumZ (fun z => if G z.1 = true then (z.1.st : Rat) * z.2 else 0) (elZ c x zs) = sumZ (fun z => if G z.1 = true then (z.1.st : Rat) * z.2 else 0) zs + sumZ (fun z => if G z.1 = true ∧ apv z.1 c = true then (z.1.st : Rat) * (x - z.2) else 0) zs := by
  unfold elZ; rw [sumZ_map, ← sumZ_add]; refine sumZ_congr _ _ _ fun z hz => ?_
  by_cases e : apv z.1 c = true
  · simp only [if_pos e]
    by_cases g : G z.1 = true
    · rw [if_pos g, if_pos g, if_pos ⟨g, e⟩]; grind
    · rw [if_neg g, if_neg g, if_neg (fun h => g h.1)]; grind
  · simp only [if_neg e]
    rw [if_neg (fun (h : G z.1 = true ∧ apv z.1 c = true) => e h.2)]; grind
theorem edge_one (h : SupZ c zs) : sumZ (fun z => if apv z.1 c = true then (z.1.st : Rat) * (scZ zs c - z.2) else 0) zs = 1 := by
  have h1 := sc_mul h
  have e : sumZ (fun z => if apv z.1 c = true then (z.1.st : Rat) * (scZ zs c - z.2) else 0) zs = scZ zs c * skZ c zs - ldZ c zs := by
    unfold skZ ldZ
    rw [← sumZ_mul]
    have : ∀ f g : Vr × Rat → Rat, sumZ f zs - sumZ g zs = sumZ (fun z => f z + (-1) * g z) zs := fun f g => by
      rw [sumZ_add, sumZ_mul]; grind
    rw [this]
    refine sumZ_congr _ _ _ fun z _ => ?_
    split <;> grind
  rw [e]; grind
end

/-- What is known at each time of an election. -/
structure Rc.Ok (r : Rc) (m : Rat) : Prop where
  lev : Lev r.zs r.R m
  one : sumZ (fun z => (z.1.st : Rat) * z.2) r.zs = (r.es.length : Rat)
  nod : r.R.Nodup
theorem getD_mem {R : List Int} {k : Nat} (h : k < R.length) : R.getD k 0 ∈ R := by
  rw [List.getD_eq_getElem?_getD, List.getElem?_eq_getElem h]; exact List.getElem_mem h
section
variable {r : Rc} {m : Rat}
theorem Rc.best_mem (h : r.R ≠ []) : r.best ∈ r.R := getD_mem (bstI_best (scZ r.zs) r.R h).1
theorem Rc.best_le (h : r.R ≠ []) {d : Int} (hd : d ∈ r.R) : scZ r.zs r.best ≤ scZ r.zs d := by
  obtain ⟨j, hj, rfl⟩ := List.mem_iff_getElem.1 hd
  have := (bstI_best (scZ r.zs) r.R h).2.1 j hj
  rw [List.getD_eq_getElem?_getD, List.getD_eq_getElem?_getD, List.getElem?_eq_getElem hj] at this
  unfold Rc.best
  rw [List.getD_eq_getElem?_getD]; exact this
theorem Rc.Ok.m_le (h : r.Ok m) (hR : r.R ≠ []) : m ≤ scZ r.zs r.best := (h.lev.2 _ (r.best_mem hR)).2
theorem Rc.Ok.next (h : r.Ok m) (hR : r.R ≠ []) : r.next.Ok (scZ r.zs r.best) := by
  have hb := r.best_mem hR
  have hm := h.m_le hR
  obtain ⟨⟨a1, a2⟩, a3, a4⟩ := h
  have hle : ∀ z ∈ r.zs, z.2 ≤ scZ r.zs r.best := fun z hz => by have := (a1 z hz).2; grind
  have hs := (a2 _ hb).1
  refine ⟨⟨fun z hz => ?_, fun d hd => ?_⟩, ?_, ?_⟩
  · rcases elZ_mem hz with ⟨y, hy, rfl, _⟩ | ⟨hz, _⟩
    · have := a1 y hy; dsimp only; grind
    · have := a1 z hz; grind
  · have hd' : d ∈ r.R := List.mem_of_mem_eraseIdx hd
    have hs' : SupZ d r.next.zs := supZ_el.2 (a2 d hd').1
    refine ⟨hs', ?_⟩
    have := sc_mono (a2 d hd').1 r.next.zs (sk_elZ d) (ld_el_le d hle) hs'
    have := r.best_le hR hd'
    grind
  · show sumZ (fun z => (z.1.st : Rat) * z.2) (elZ r.best (scZ r.zs r.best) r.zs) = _
    have e1 := el_sum (zs := r.zs) (c := r.best) (x := scZ r.zs r.best) (fun _ => true)
    simp only [if_true, true_and] at e1
    rw [e1, a3, edge_one hs]
    show _ = ((r.es ++ [(r.best, scZ r.zs r.best)]).length : Rat)
    rw [List.length_append, List.length_singleton]
    simp only [Rat.natCast_add]; rfl
  · exact a4.sublist (List.eraseIdx_sublist _ _)
end
/-- Whether one of a group approves it. -/
def hits (G : Vr → Bool) (zs : List (Vr × Rat)) (c : Int) : Bool := zs.any fun z => G z.1 && apv z.1 c
theorem hits_fst (G : Vr → Bool) (ys : List (Vr × Rat)) (d : Int) : hits G ys d = (ys.map Prod.fst).any fun v => G v && apv v d := by unfold hits; rw [List.any_map]; rfl
theorem hits_el (G : Vr → Bool) (zs : List (Vr × Rat)) (c d : Int) (x : Rat) : hits G (elZ c x zs) d = hits G zs d := by
  have key : ∀ ys : List (Vr × Rat), hits G ys d = (ys.map Prod.fst).any fun v => G v && apv v d := fun ys => by unfold hits; rw [List.any_map]; rfl
  rw [key, key, elZ_fst]
/-- The loads of a group. -/
def ldG (G : Vr → Bool) (zs : List (Vr × Rat)) : Rat := sumZ (fun z => if G z.1 = true then (z.1.st : Rat) * z.2 else 0) zs
theorem ldG_el {r : Rc} {m : Rat} (h : r.Ok m) (hR : r.R ≠ []) (G : Vr → Bool) : ldG G r.next.zs ≤ ldG G r.zs + (if hits G r.zs r.best = true then 1 else 0) := by
  have hb := r.best_mem hR
  have hm := h.m_le hR
  have hs := (h.lev.2 _ hb).1
  have e1 := edge_one hs
  have e2 := el_sum (zs := r.zs) (c := r.best) (x := scZ r.zs r.best) G
  show sumZ _ (elZ r.best (scZ r.zs r.best) r.zs) ≤ _
  rw [e2]
  show ldG G r.zs + _ ≤ _
  have hle : ∀ z ∈ r.zs, z.2 ≤ scZ r.zs r.best := fun z hz => by have := (h.lev.1 z hz).2; grind
  split
  · have := sumZ_le (fun z => if G z.1 = true ∧ apv z.1 r.best = true then (z.1.st : Rat) * (scZ r.zs r.best - z.2) else 0) (fun z => if apv z.1 r.best = true then (z.1.st : Rat) * (scZ r.zs r.best - z.2) else 0) r.zs (fun z hz => by
      have hp : 0 ≤ (z.1.st : Rat) * (scZ r.zs r.best - z.2) := Rat.mul_nonneg (st_nonneg _) (by have := hle z hz; grind)
      by_cases a : apv z.1 r.best = true
      · by_cases g : G z.1 = true
        · rw [if_pos ⟨g, a⟩, if_pos a]; grind
        · rw [if_neg (fun x => g x.1), if_pos a]; exact hp
      · rw [if_neg (fun x => a x.2), if_neg a]; grind)
    grind
  · rename_i hn
    have := sumZ_congr (fun z => if G z.1 = true ∧ apv z.1 r.best = true then (z.1.st : Rat) * (scZ r.zs r.best - z.2) else 0) (fun z => 0 * z.2) r.zs (fun z hz => by
      have : ¬ (G z.1 = true ∧ apv z.1 r.best = true) := fun hh => hn (by unfold hits; exact List.any_eq_true.2 ⟨z, hz, by simp [hh.1, hh.2]⟩)
      rw [if_neg this]; grind)
    rw [this, sumZ_mul]; grind
/-- No score of a common candidate is above what its group alone would bear. -/
theorem sc_le {zs : List (Vr × Rat)} {c : Int} (G : Vr → Bool) (hs : SupZ c zs) (hG : ∀ z ∈ zs, G z.1 = true → apv z.1 c = true) (hl : ∀ z ∈ zs, z.2 ≤ scZ zs c) :
    scZ zs c * sumZ (fun z => if G z.1 = true then (z.1.st : Rat) else 0) zs ≤ 1 + ldG G zs := by
  have h1 := sc_mul hs
  have := sumZ_le (fun z => scZ zs c * (if G z.1 = true then (z.1.st : Rat) else 0) + (if apv z.1 c = true then (z.1.st : Rat) * z.2 else 0)) (fun z => scZ zs c * (if apv z.1 c = true then (z.1.st : Rat) else 0) + (if G z.1 = true then (z.1.st : Rat) * z.2 else 0)) zs (fun z hz => by
    have hp : 0 ≤ (z.1.st : Rat) * (scZ zs c - z.2) := Rat.mul_nonneg (st_nonneg _) (by have := hl z hz; grind)
    by_cases g : G z.1 = true
    · rw [if_pos g, if_pos g, if_pos (hG z hz g), if_pos (hG z hz g)]; grind
    · rw [if_neg g, if_neg g]
      by_cases a : apv z.1 c = true
      · rw [if_pos a, if_pos a]; grind
      · rw [if_neg a, if_neg a]; grind)
  rw [sumZ_add, sumZ_add, sumZ_mul, sumZ_mul] at this
  unfold ldG
  unfold skZ ldZ at h1
  grind

/-- What is known of a run. -/
structure Run (vs : List Vr) (R0 : List Int) (n : Nat) (r : Rc) (m : Rat) : Prop where
  ok : r.Ok m
  len : r.es.length = n
  prm : (r.es.map Prod.fst ++ r.R).Perm R0
  up : (r.es.map Prod.snd).Pairwise (· ≤ ·)
  top : ∀ e ∈ r.es, 0 < e.2 ∧ e.2 ≤ m
  fst : r.zs.map Prod.fst = vs
  mn : 0 ≤ m
theorem sumZ_zero (vs : List Vr) (f : Vr × Rat → Rat) (h : ∀ v, f (v, 0) = 0) : sumZ f (vs.map fun v => (v, (0 : Rat))) = 0 := by
  induction vs with
  | nil => rfl
  | cons v vs ih => simp only [List.map_cons, sumZ, ih, h]; grind
theorem run0 (vs : List Vr) (R0 : List Int) (hn : R0.Nodup) (hs : ∀ c ∈ R0, ∃ v ∈ vs, apv v c = true) : Run vs R0 0 (rc0 vs R0) 0 := by
  refine ⟨⟨⟨fun z hz => ?_, fun d hd => ?_⟩, ?_, hn⟩, rfl, List.Perm.refl _, List.Pairwise.nil, fun e he => by simp [rc0] at he, ?_, by grind⟩
  · obtain ⟨v, _, rfl⟩ := List.mem_map.1 hz
    dsimp only; grind
  · obtain ⟨v, hv, ha⟩ := hs d hd
    have hS : SupZ d (rc0 vs R0).zs := ⟨(v, 0), List.mem_map.2 ⟨v, hv, rfl⟩, ha⟩
    refine ⟨hS, ?_⟩
    have h1 := sc_mul hS
    have h2 := sk_pos hS
    have h3 : ldZ d (rc0 vs R0).zs = 0 := sumZ_zero _ _ (fun v => by dsimp only; split <;> grind)
    rw [h3] at h1
    exact Rat.le_of_mul_le_mul_right (c := skZ d (rc0 vs R0).zs) (by grind) (by grind)
  · show sumZ _ _ = ((0 : Nat) : Rat)
    rw [show (rc0 vs R0).zs = vs.map fun v => (v, (0 : Rat)) from rfl, sumZ_zero _ _ (fun v => by dsimp only; grind)]; rfl
  · show (vs.map _).map _ = vs
    rw [List.map_map]; exact List.map_id' vs
theorem perm_erase {R : List Int} {k : Nat} (h : k < R.length) : (R.getD k 0 :: R.eraseIdx k).Perm R := by
  induction R generalizing k with
  | nil => simp at h
  | cons c R ih =>
    cases k with
    | zero => exact List.Perm.refl _
    | succ k =>
      have := ih (k := k) (by simpa using h)
      exact (List.Perm.swap _ _ _).trans (this.cons c)
theorem Run.pos {vs : List Vr} {R0 : List Int} {n : Nat} {r : Rc} {m : Rat} (h : Run vs R0 n r m) (hR : r.R ≠ []) : 0 < scZ r.zs r.best := by
  have hb := r.best_mem hR
  have hs := (h.ok.lev.2 _ hb).1
  have h1 := sc_mul hs
  have h2 := sk_pos hs
  have h3 := ld_nonneg (fun z hz => (h.ok.lev.1 z hz).1) r.best
  rcases Rat.le_iff_lt_or_eq.1 (Rat.le_trans h.mn (h.ok.m_le hR)) with h0 | h0
  · exact h0
  · rw [← h0] at h1; grind
theorem Run.next {vs : List Vr} {R0 : List Int} {n : Nat} {r : Rc} {m : Rat} (h : Run vs R0 n r m) (hR : r.R ≠ []) : Run vs R0 (n + 1) r.next (scZ r.zs r.best) := by
  have hm := h.ok.m_le hR
  have hp := h.pos hR
  refine ⟨h.ok.next hR, ?_, ?_, ?_, fun e he => ?_, ?_, by have := h.mn; grind⟩
  · show (r.es ++ [_]).length = _
    rw [List.length_append, h.len]; rfl
  · show ((r.es ++ [(r.best, _)]).map Prod.fst ++ r.R.eraseIdx _).Perm R0
    rw [List.map_append, List.append_assoc]
    refine List.Perm.trans (List.Perm.append_left _ ?_) h.prm
    exact perm_erase (bstI_best (scZ r.zs) r.R hR).1
  · show ((r.es ++ [(r.best, _)]).map Prod.snd).Pairwise _
    rw [List.map_append]
    refine List.pairwise_append.2 ⟨h.up, by simp, fun a ha b hb => ?_⟩
    obtain ⟨e, he, rfl⟩ := List.mem_map.1 ha
    have : b = scZ r.zs r.best := by simpa using hb
    have := (h.top e he).2
    grind
  · rcases List.mem_append.1 he with he | he
    · have := h.top e he; grind
    · obtain rfl := List.mem_singleton.1 he
      dsimp only; grind
  · show (elZ _ _ _).map _ = vs
    rw [elZ_fst, h.fst]
theorem Run.left {vs : List Vr} {R0 : List Int} {n : Nat} {r : Rc} {m : Rat} (h : Run vs R0 n r m) : n + r.R.length = R0.length := by
  have := h.prm.length_eq
  rw [List.length_append, List.length_map, h.len] at this; exact this
/-- The run, as far as there are candidates. -/
theorem run_some (vs : List Vr) (R0 : List Int) (hn : R0.Nodup) (hs : ∀ c ∈ R0, ∃ v ∈ vs, apv v c = true) (n : Nat) (h : n ≤ R0.length) : ∃ m, Run vs R0 n ((rc0 vs R0).run n) m := by
  induction n with
  | zero => exact ⟨0, run0 vs R0 hn hs⟩
  | succ n ih =>
    obtain ⟨m, hm⟩ := ih (by omega)
    have := hm.left
    exact ⟨_, hm.next (by intro e; rw [e] at this; simp at this; omega)⟩
/-- A group's loads are no more than it has members. -/
theorem grp_run (vs : List Vr) (R0 : List Int) (hn : R0.Nodup) (hs : ∀ c ∈ R0, ∃ v ∈ vs, apv v c = true) (G : Vr → Bool) (n : Nat) (h : n ≤ R0.length) :
    ldG G ((rc0 vs R0).run n).zs ≤ ((((rc0 vs R0).run n).es.filter fun e => vs.any fun v => G v && apv v e.1).length : Rat) := by
  induction n with
  | zero =>
    show sumZ _ (vs.map fun v => (v, (0 : Rat))) ≤ ((0 : Nat) : Rat)
    rw [sumZ_zero _ _ (fun v => by dsimp only; split <;> grind)]; exact Rat.le_refl
  | succ n ih =>
    have ih := ih (by omega)
    obtain ⟨m, hm⟩ := run_some vs R0 hn hs n (by omega)
    have hl := hm.left
    have hR : ((rc0 vs R0).run n).R ≠ [] := by intro e; rw [e] at hl; simp at hl; omega
    have h1 := ldG_el hm.ok hR G
    have hh : hits G ((rc0 vs R0).run n).zs ((rc0 vs R0).run n).best = vs.any fun v => G v && apv v ((rc0 vs R0).run n).best := by
      rw [hits_fst, hm.fst]
    rw [hh] at h1
    show ldG G ((rc0 vs R0).run n).next.zs ≤ (((((rc0 vs R0).run n).es ++ [_]).filter _).length : Rat)
    rw [List.filter_append, List.length_append]
    refine Rat.le_trans h1 ?_
    simp only [List.filter_cons, List.filter_nil]
    split
    · simp only [List.length_singleton, Rat.natCast_add]
      exact Rat.add_le_add_right.2 ih
    · simp only [List.length_nil, Rat.natCast_add]
      grind
/-- Stakes, together. -/
def stR (vs : List Vr) : Rat := ((vs.map Vr.st).sum : Nat)
theorem sumZ_st (zs : List (Vr × Rat)) (G : Vr → Bool) : sumZ (fun z => if G z.1 = true then (z.1.st : Rat) else 0) zs = stR ((zs.map Prod.fst).filter G) := by
  induction zs with
  | nil => rfl
  | cons z zs ih =>
    simp only [sumZ, ih, List.map_cons, List.filter_cons]
    split
    · unfold stR; simp only [List.map_cons, List.sum_cons, Rat.natCast_add]
    · grind
theorem fair_main (vs : List Vr) (R0 : List Int) (hn : R0.Nodup) (hs : ∀ c ∈ R0, ∃ v ∈ vs, apv v c = true) (most r : Nat) (hr0 : r ≤ most) (G : Vr → Bool) (c : Int) (hc : c ∈ R0)
    (hne : c ∉ ((rc0 vs R0).run (min most R0.length)).es.map Prod.fst) (hG : ∀ v ∈ vs, G v = true → apv v c = true) (hsome : ∃ v ∈ vs, G v = true)
    (hm : (((rc0 vs R0).run (min most R0.length)).es.filter fun e => vs.any fun v => G v && apv v e.1).length < r) (hdue : stR vs * r ≤ stR (vs.filter G) * most) : False := by
  obtain ⟨m, hk⟩ := run_some vs R0 hn hs (min most R0.length) (Nat.min_le_right _ _)
  have hcR : c ∈ ((rc0 vs R0).run (min most R0.length)).R := by
    rcases List.mem_append.1 (hk.prm.symm.subset hc) with h | h
    · exact absurd h hne
    · exact h
  have hlt : min most R0.length < R0.length := by have := hk.left; have := List.length_pos_of_mem hcR; omega
  have ek : min most R0.length = most := by omega
  rw [ek] at hk hcR hne hm
  obtain ⟨n, rfl⟩ : ∃ n, most = n + 1 := ⟨most - 1, by omega⟩
  obtain ⟨m', hn'⟩ := run_some vs R0 hn hs n (by omega)
  have hl' := hn'.left
  have hR : ((rc0 vs R0).run n).R ≠ [] := by intro e; rw [e] at hl'; simp at hl'; omega
  have hnx := hn'.next hR
  have hg0 := grp_run vs R0 hn hs G n (by omega)
  have hg1 := grp_run vs R0 hn hs G (n + 1) (by omega)
  generalize hρ : (rc0 vs R0).run n = ρ at *
  have hρ1 : (rc0 vs R0).run (n + 1) = ρ.next := by show ((rc0 vs R0).run n).next = _; rw [hρ]
  rw [hρ1] at hk hcR hne hm hg1
  have hcρ : c ∈ ρ.R := List.mem_of_mem_eraseIdx hcR
  have hM := ρ.best_le hR hcρ
  have hGz : ∀ z ∈ ρ.zs, G z.1 = true → apv z.1 c = true := fun z hz => hG z.1 (by rw [← hn'.fst]; exact List.mem_map_of_mem hz)
  have hsc := sc_le G (hn'.ok.lev.2 c hcρ).1 hGz (fun z hz => by have h1 := (hn'.ok.lev.1 z hz).2; have h2 := (hn'.ok.lev.2 c hcρ).2; grind)
  rw [sumZ_st, hn'.fst] at hsc
  generalize hMd : scZ ρ.zs ρ.best = M at *
  have hMp : 0 < M := by rw [← hMd]; exact hn'.pos hR
  -- members
  have hmem : ((ρ.es.filter fun e => vs.any fun v => G v && apv v e.1).length : Rat) + 1 ≤ (r : Rat) := by
    have : (ρ.es.filter fun e => vs.any fun v => G v && apv v e.1).length ≤ (ρ.next.es.filter fun e => vs.any fun v => G v && apv v e.1).length := by
      show _ ≤ ((ρ.es ++ [_]).filter _).length
      rw [List.filter_append, List.length_append]; omega
    have h2 : (ρ.es.filter fun e => vs.any fun v => G v && apv v e.1).length + 1 ≤ r := by omega
    exact_mod_cast h2
  have hmem1 : ((ρ.next.es.filter fun e => vs.any fun v => G v && apv v e.1).length : Rat) + 1 ≤ (r : Rat) := by exact_mod_cast hm
  have hSG1 : 1 ≤ stR (vs.filter G) := by
    obtain ⟨v, hv, hg⟩ := hsome
    have h1 := apv_st (hG v hv hg)
    have h2 : v.st ≤ ((vs.filter G).map Vr.st).sum := by
      have hmm : v.st ∈ (vs.filter G).map Vr.st := List.mem_map_of_mem (List.mem_filter.2 ⟨hv, hg⟩)
      generalize (vs.filter G).map Vr.st = L at hmm
      clear h1
      induction L with
      | nil => simp at hmm
      | cons a L ih =>
        rcases List.mem_cons.1 hmm with e | e
        · rw [← e]; simp
        · have := ih e; simp; omega
    unfold stR
    have h3 : 1 ≤ ((vs.filter G).map Vr.st).sum := by omega
    exact_mod_cast h3
  have hMS : M * stR (vs.filter G) ≤ (r : Rat) := by
    have := Rat.mul_le_mul_of_nonneg_right hM (show 0 ≤ stR (vs.filter G) by grind)
    grind
  -- all loads
  have hone := hnx.ok.one
  have hle1 : ∀ z ∈ ρ.next.zs, z.2 ≤ M := fun z hz => (hnx.ok.lev.1 z hz).2
  have hgap := sumZ_le (fun z => (if G z.1 = true then (z.1.st : Rat) * M else 0) + (z.1.st : Rat) * z.2) (fun z => (if G z.1 = true then (z.1.st : Rat) * z.2 else 0) + M * (z.1.st : Rat)) ρ.next.zs (fun z hz => by
    have hp : 0 ≤ (z.1.st : Rat) * (M - z.2) := Rat.mul_nonneg (st_nonneg _) (by have := hle1 z hz; grind)
    split <;> grind)
  rw [sumZ_add, sumZ_add, sumZ_mul, hone, hnx.len] at hgap
  have e1 : sumZ (fun z => if G z.1 = true then (z.1.st : Rat) * M else 0) ρ.next.zs = M * stR (vs.filter G) := by
    rw [← hnx.fst, ← sumZ_st, ← sumZ_mul]
    refine sumZ_congr _ _ _ fun z _ => ?_
    split <;> grind
  have e2 : sumZ (fun z => (z.1.st : Rat)) ρ.next.zs = stR vs := by
    have := sumZ_st ρ.next.zs (fun _ => true)
    simp only [if_true] at this
    rw [this, hnx.fst]
    congr 1
    exact List.filter_eq_self.2 (fun _ _ => rfl)
  rw [e1, e2] at hgap
  change M * stR (List.filter G vs) + ((n + 1 : Nat) : Rat) ≤ ldG G ρ.next.zs + M * stR vs at hgap
  have hlast : M * stR (List.filter G vs) + ((n + 1 : Nat) : Rat) + 1 ≤ (r : Rat) + M * stR vs := by grind
  have hqK : (r : Rat) ≤ ((n + 1 : Nat) : Rat) := by exact_mod_cast hr0
  have hr1' : 1 ≤ r := by omega
  have hr1 : (1 : Rat) ≤ (r : Rat) := by exact_mod_cast hr1'
  clear hr1'
  generalize ((n + 1 : Nat) : Rat) = K at *
  generalize stR (vs.filter G) = S at *
  generalize stR vs = T at *
  generalize (r : Rat) = q at *
  have a1 : M * T * q ≤ M * S * K := by have := Rat.mul_le_mul_of_nonneg_left hdue (show 0 ≤ M by grind); grind
  have a3 : (K + 1 - M * T) * q ≤ (q - M * S) * q := Rat.mul_le_mul_of_nonneg_right (by grind) (by grind)
  have a5 : (q - M * S) * K + q ≤ (q - M * S) * q := by grind
  have := Rat.mul_le_mul_of_nonneg_left hqK (show 0 ≤ q - M * S by grind)
  grind
/-- A fraction that is not negative, with a denominator that divides D. -/
def Den (D : Nat) (x : Rat) : Prop := 0 ≤ x ∧ ∃ N : Nat, x * (D : Rat) = (N : Rat)
section
variable {D E : Nat} {x y : Rat}
theorem Den.zero : Den D 0 := ⟨by grind, 0, by grind⟩
theorem Den.one : Den D 1 := ⟨by grind, D, by grind⟩
theorem Den.nat (n : Nat) : Den D (n : Rat) := ⟨st_nonneg _, n * D, by rw [Rat.natCast_mul]⟩
theorem Den.add (h : Den D x) (g : Den D y) : Den D (x + y) := by
  obtain ⟨h0, a, ha⟩ := h; obtain ⟨g0, b, hb⟩ := g
  exact ⟨by grind, a + b, by rw [Rat.natCast_add]; grind⟩
theorem Den.mul (h : Den D x) (n : Nat) : Den D ((n : Rat) * x) := by
  obtain ⟨h0, a, ha⟩ := h
  exact ⟨Rat.mul_nonneg (st_nonneg _) h0, n * a, by rw [Rat.natCast_mul]; grind⟩
theorem Den.more (h : Den D x) (k : Nat) : Den (D * k) x := by
  obtain ⟨h0, a, ha⟩ := h
  exact ⟨h0, a * k, by rw [Rat.natCast_mul, Rat.natCast_mul]; grind⟩
theorem Den.sub (h : Den D x) (g : Den D y) (hl : y ≤ x) : Den D (x - y) := by
  obtain ⟨h0, a, ha⟩ := h; obtain ⟨g0, b, hb⟩ := g
  have : (b : Rat) ≤ (a : Rat) := by
    rw [← ha, ← hb]; exact Rat.mul_le_mul_of_nonneg_right hl (st_nonneg _)
  have hba : b ≤ a := by exact_mod_cast this
  refine ⟨by grind, a - b, ?_⟩
  have : ((a - b : Nat) : Rat) + (b : Rat) = (a : Rat) := by rw [← Rat.natCast_add, Nat.sub_add_cancel hba]
  grind
theorem Den.div (h : Den D x) (k : Nat) (hk : 0 < k) : Den (D * k) (x / (k : Rat)) := by
  obtain ⟨h0, a, ha⟩ := h
  have hk' : (k : Rat) ≠ 0 := by exact_mod_cast (by omega : k ≠ 0)
  have hp : (0 : Rat) < (k : Rat) := by exact_mod_cast hk
  refine ⟨?_, a, ?_⟩
  · rw [Rat.div_def]; exact Rat.mul_nonneg h0 (Rat.le_of_lt (Rat.inv_pos.2 hp))
  · rw [Rat.natCast_mul, ← ha]
    have := Rat.div_mul_cancel hk' (a := x)
    grind
theorem ratOf (x : Rat) : x * (x.den : Rat) = (x.num : Rat) := by
  have h : (x.num : Rat) / (x.den : Rat) = x := by rw [← Rat.mkRat_eq_div]; exact Rat.mkRat_self x
  have hd : (x.den : Rat) ≠ 0 := by exact_mod_cast x.den_nz
  have h2 : (x.num : Rat) / (x.den : Rat) * (x.den : Rat) = (x.num : Rat) := Rat.div_mul_cancel hd
  rw [h] at h2; exact h2
theorem num_nn (h : 0 ≤ x) : ((x.num.toNat : Nat) : Int) = x.num := Int.toNat_of_nonneg (Rat.num_nonneg.2 h)
theorem Den.dvd (h : Den D x) : x.den ∣ D := by
  obtain ⟨h0, a, ha⟩ := h
  have h1 := ratOf x
  have h2 : (x.num : Rat) * (D : Rat) = (a : Rat) * (x.den : Rat) := by rw [← h1, ← ha]; grind
  have h3 : x.num * (D : Int) = (a : Int) * (x.den : Int) := by exact_mod_cast h2
  have h4 : x.den ∣ x.num.natAbs * D := by
    have := congrArg Int.natAbs h3
    rw [Int.natAbs_mul, Int.natAbs_mul, Int.natAbs_natCast, Int.natAbs_natCast, Int.natAbs_natCast] at this
    rw [this]; exact Nat.dvd_mul_left _ _
  exact (Nat.Coprime.symm x.reduced).dvd_of_dvd_mul_left h4
theorem Den.den_le (h : Den D x) (hD : 0 < D) : x.den ≤ D := Nat.le_of_dvd hD h.dvd
theorem Den.num_le (h : Den D x) (hD : 0 < D) (b : Nat) (hb : x ≤ (b : Rat)) : x.num.toNat ≤ b * D := by
  have h1 := ratOf x
  have h2 := h.den_le hD
  have h3 := num_nn h.1
  have h4 : (x.num : Rat) ≤ ((b * D : Nat) : Rat) := by
    rw [← h1, Rat.natCast_mul]
    have a1 : x * (x.den : Rat) ≤ x * (D : Rat) := Rat.mul_le_mul_of_nonneg_left (by exact_mod_cast h2) h.1
    have a2 : x * (D : Rat) ≤ (b : Rat) * (D : Rat) := Rat.mul_le_mul_of_nonneg_right hb (st_nonneg _)
    grind
  have h5 : x.num ≤ ((b * D : Nat) : Int) := by exact_mod_cast h4
  omega
end
/-- Far from too long. -/
def Sm (x : Rat) : Prop := 0 ≤ x ∧ x.num.toNat < pw 32 ∧ x.den < pw 32
theorem pw_lt {i j : Nat} (h : i < j) : pw i < pw j := by
  have h1 := pw_le (show i + 1 ≤ j from h)
  have h2 : pw (i + 1) = 4294967296 * pw i := rfl
  have := pw_pos i
  omega
theorem Den.sm {D : Nat} {x : Rat} (h : Den D x) (hD : 0 < D) (i j : Nat) (hd : D ≤ pw i) (b : Nat) (hb : x ≤ (b : Rat)) (hb2 : b ≤ pw j) (hij : j + i < 32) : Sm x := by
  have h1 := h.den_le hD
  have h2 := h.num_le hD b hb
  have h3 : b * D ≤ pw j * pw i := Nat.mul_le_mul hb2 hd
  rw [← pw_add] at h3
  have h4 := pw_lt hij
  have h5 : pw i < pw 32 := pw_lt (by omega)
  exact ⟨h.1, Nat.lt_of_le_of_lt (Nat.le_trans h2 h3) h4, Nat.lt_of_le_of_lt (Nat.le_trans h1 hd) h5⟩
theorem Sm.nat {n : Nat} (h : n < pw 32) : Sm (n : Rat) := ⟨st_nonneg _, by rw [Rat.num_natCast]; exact h, by rw [Rat.den_natCast]; exact pw_lt (i := 0) (by omega)⟩
theorem Sm.word {n : Nat} (h : n < 18446744073709551616) : Sm (n : Rat) := Sm.nat (by have : (18446744073709551616 : Nat) = pw 2 := rfl; have := pw_lt (i := 2) (j := 32) (by omega); omega)

/-! The sizes in an election. -/
theorem ldZ_den {D : Nat} (zs : List (Vr × Rat)) (h : ∀ z ∈ zs, Den D z.2) (c : Int) : Den D (ldZ c zs) := by
  unfold ldZ
  induction zs with
  | nil => exact Den.zero
  | cons z zs ih =>
    simp only [sumZ]
    refine Den.add ?_ (ih fun y hy => h y (by simp [hy]))
    split
    · exact (h z (by simp)).mul _
    · exact Den.zero
def skN (c : Int) (vs : List Vr) : Nat := ((vs.filter fun v => apv v c).map Vr.st).sum
theorem skZ_nat (c : Int) (zs : List (Vr × Rat)) : skZ c zs = (skN c (zs.map Prod.fst) : Nat) := by
  unfold skZ skN
  exact sumZ_st zs fun v => apv v c
theorem skN_le (c : Int) (vs : List Vr) : skN c vs ≤ (vs.map Vr.st).sum := by
  unfold skN
  induction vs with
  | nil => simp
  | cons v vs ih =>
    simp only [List.filter_cons]
    split <;> simp only [List.map_cons, List.sum_cons] <;> omega
theorem skN_pos {c : Int} {zs : List (Vr × Rat)} (h : SupZ c zs) : 0 < skN c (zs.map Prod.fst) := by
  have := sk_pos h
  rw [skZ_nat] at this
  have h1 : 1 ≤ skN c (zs.map Prod.fst) := by exact_mod_cast this
  omega
/-- What is known of a run's sizes. -/
structure Siz (n : Nat) (r : Rc) (D : Nat) : Prop where
  pos : 0 < D
  le : D ≤ pw (2 * n)
  ld : ∀ z ∈ r.zs, Den D z.2
  es : ∀ e ∈ r.es, Den D e.2 ∧ e.2 ≤ (n : Rat)
  ldn : ∀ z ∈ r.zs, z.2 ≤ (n : Rat)
theorem siz0 (vs : List Vr) (R0 : List Int) : Siz 0 (rc0 vs R0) 1 := by
  refine ⟨by omega, Nat.le_refl _, fun z hz => ?_, fun e he => by simp [rc0] at he, fun z hz => ?_⟩
  · obtain ⟨v, _, rfl⟩ := List.mem_map.1 hz
    exact Den.zero
  · obtain ⟨v, _, rfl⟩ := List.mem_map.1 hz
    exact Rat.le_refl
section
variable {vs : List Vr} {R0 : List Int} {n D : Nat} {r : Rc} {m : Rat}
theorem Siz.sc (hz : Siz n r D) (c : Int) (hs : SupZ c r.zs) : Den (D * skN c (r.zs.map Prod.fst)) (scZ r.zs c) := by
  unfold scZ
  rw [skZ_nat]
  exact (Den.one.add (ldZ_den _ hz.ld c)).div _ (skN_pos hs)
theorem Siz.ld_le (hz : Siz n r D) (c : Int) : ldZ c r.zs ≤ (n : Rat) * skZ c r.zs := by
  unfold ldZ skZ
  rw [← sumZ_mul]
  refine sumZ_le _ _ _ fun z h => ?_
  split
  · have := Rat.mul_le_mul_of_nonneg_left (hz.ldn z h) (st_nonneg z.1.st); grind
  · grind
theorem Siz.sc_le (hz : Siz n r D) (c : Int) (hs : SupZ c r.zs) : scZ r.zs c ≤ ((n + 1 : Nat) : Rat) := by
  have h1 := sc_mul hs
  have h2 := sk_pos hs
  have h3 := hz.ld_le c
  refine Rat.le_of_mul_le_mul_right (c := skZ c r.zs) ?_ (by grind)
  rw [h1, Rat.natCast_add]
  have : ((1 : Nat) : Rat) = 1 := rfl
  grind
theorem Siz.next (hz : Siz n r D) (h : Run vs R0 n r m) (hR : r.R ≠ []) (ht : (vs.map Vr.st).sum < 18446744073709551616) : Siz (n + 1) r.next (D * skN r.best vs) := by
  have hb := r.best_mem hR
  have hs := (h.ok.lev.2 _ hb).1
  have hk := skN_pos hs
  have hx := hz.sc _ hs
  have hl := hz.sc_le _ hs
  rw [h.fst] at hk hx
  have hn1 : (n : Rat) ≤ ((n + 1 : Nat) : Rat) := by exact_mod_cast Nat.le_succ n
  refine ⟨Nat.mul_pos hz.pos hk, ?_, fun z hm => ?_, fun e he => ?_, fun z hm => ?_⟩
  · have h1 : skN r.best vs ≤ pw 2 := by have := skN_le r.best vs; have : (18446744073709551616 : Nat) = pw 2 := rfl; omega
    calc D * skN r.best vs ≤ pw (2 * n) * pw 2 := Nat.mul_le_mul hz.le h1
      _ = pw (2 * (n + 1)) := by rw [← pw_add]; rfl
  · rcases elZ_mem hm with ⟨y, hy, rfl, _⟩ | ⟨hm, _⟩
    · exact hx
    · exact (hz.ld z hm).more _
  · rcases List.mem_append.1 he with he | he
    · exact ⟨(hz.es e he).1.more _, Rat.le_trans (hz.es e he).2 hn1⟩
    · obtain rfl := List.mem_singleton.1 he
      exact ⟨hx, hl⟩
  · rcases elZ_mem hm with ⟨y, hy, rfl, _⟩ | ⟨hm, _⟩
    · exact hl
    · exact Rat.le_trans (hz.ldn z hm) hn1
end
theorem siz_some (vs : List Vr) (R0 : List Int) (hn : R0.Nodup) (hs : ∀ c ∈ R0, ∃ v ∈ vs, apv v c = true) (ht : (vs.map Vr.st).sum < 18446744073709551616) (n : Nat) (h : n ≤ R0.length) : ∃ D, Siz n ((rc0 vs R0).run n) D := by
  induction n with
  | zero => exact ⟨1, siz0 vs R0⟩
  | succ n ih =>
    obtain ⟨D, hD⟩ := ih (by omega)
    obtain ⟨m, hm⟩ := run_some vs R0 hn hs n (by omega)
    have := hm.left
    exact ⟨_, hD.next hm (by intro e; rw [e] at this; simp at this; omega) ht⟩
/-! All stakes so many times as great. -/
def mulV (t : Nat) (v : Vr) : Vr := { v with st := v.st * t }
theorem apv_mul {t : Nat} (ht : 0 < t) (v : Vr) (c : Int) : apv (mulV t v) c = apv v c := by
  unfold apv mulV
  by_cases h : 0 < v.st
  · have : 0 < v.st * t := Nat.mul_pos h ht
    simp [h, this]
  · have : v.st = 0 := by omega
    simp [this]
def mulZ (t : Nat) (z : Vr × Rat) : Vr × Rat := (mulV t z.1, z.2 / (t : Rat))
theorem IsBest.div {f : Int → Rat} {R : List Int} {k : Nat} (h : IsBest f R k) {t : Rat} (ht : 0 < t) : IsBest (fun c => f c / t) R k := by
  obtain ⟨h1, h2, h3⟩ := h
  have e : ∀ a : Rat, a / t * t = a := fun a => Rat.div_mul_cancel (by grind)
  refine ⟨h1, fun j hj => Rat.le_of_mul_le_mul_right (c := t) ?_ ht, fun j hj => Rat.lt_of_mul_lt_mul_right (c := t) ?_ (Rat.le_of_lt ht)⟩
  · dsimp only; rw [e, e]; exact h2 j hj
  · dsimp only; rw [e, e]; exact h3 j hj
section
variable {t : Nat}
theorem sc_mulZ (ht : 0 < t) (zs : List (Vr × Rat)) (c : Int) (hs : SupZ c zs) : scZ (zs.map (mulZ t)) c = scZ zs c / (t : Rat) := by
  have ht' : (t : Rat) ≠ 0 := by exact_mod_cast (by omega : t ≠ 0)
  have e1 : ldZ c (zs.map (mulZ t)) = ldZ c zs := by
    unfold ldZ; rw [sumZ_map]; refine sumZ_congr _ _ _ fun z _ => ?_
    show (if apv (mulV t z.1) c = true then ((z.1.st * t : Nat) : Rat) * (z.2 / (t : Rat)) else 0) = _
    rw [apv_mul ht]
    split
    · have := Rat.div_mul_cancel ht' (a := z.2)
      rw [Rat.natCast_mul]; grind
    · rfl
  have e2 : skZ c (zs.map (mulZ t)) = (t : Rat) * skZ c zs := by
    unfold skZ; rw [sumZ_map, ← sumZ_mul]; refine sumZ_congr _ _ _ fun z _ => ?_
    show (if apv (mulV t z.1) c = true then ((z.1.st * t : Nat) : Rat) else 0) = _
    rw [apv_mul ht]
    split
    · rw [Rat.natCast_mul]; grind
    · grind
  unfold scZ
  rw [e1, e2]
  have := sk_pos hs
  have h1 : skZ c zs ≠ 0 := by grind
  have h2 : (t : Rat) * skZ c zs ≠ 0 := by intro e; rcases Rat.mul_eq_zero.1 e with e | e <;> contradiction
  grind
def Rc.mul (t : Nat) (r : Rc) : Rc := ⟨r.zs.map (mulZ t), r.R, r.es.map fun e => (e.1, e.2 / (t : Rat))⟩
theorem elZ_mul (ht : 0 < t) (zs : List (Vr × Rat)) (c : Int) (x : Rat) : elZ c (x / (t : Rat)) (zs.map (mulZ t)) = (elZ c x zs).map (mulZ t) := by
  unfold elZ
  rw [List.map_map, List.map_map]
  refine List.map_congr_left fun z _ => ?_
  show (if apv (mulV t z.1) c = true then (mulV t z.1, x / (t : Rat)) else mulZ t z) = mulZ t (if apv z.1 c = true then (z.1, x) else z)
  rw [apv_mul ht]
  split <;> rfl
theorem Rc.mul_next (ht : 0 < t) {r : Rc} {m : Rat} (h : r.Ok m) (hR : r.R ≠ []) : (r.mul t).next = r.next.mul t := by
  have ht' : (0 : Rat) < (t : Rat) := by exact_mod_cast ht
  have hsc : ∀ c ∈ r.R, scZ (r.mul t).zs c = scZ r.zs c / (t : Rat) := fun c hc => sc_mulZ ht _ _ (h.lev.2 c hc).1
  have e1 : bstI (scZ (r.mul t).zs) (r.mul t).R = bstI (scZ r.zs) r.R := by
    show bstI _ r.R = _
    rw [bstI_congr _ (fun c => scZ r.zs c / (t : Rat)) r.R hsc]
    exact ((bstI_best (scZ r.zs) r.R hR).div ht').eq
  have e2 : (r.mul t).best = r.best := by unfold Rc.best; rw [e1]; rfl
  have e3 := hsc _ (r.best_mem hR)
  unfold Rc.next
  rw [e2, e1, e3]
  show Rc.mk _ _ _ = Rc.mk _ _ _
  congr 1
  · exact elZ_mul ht _ _ _
  · show List.map _ _ ++ _ = List.map _ (_ ++ _)
    rw [List.map_append]; rfl
theorem run_mul (ht : 0 < t) (vs : List Vr) (R0 : List Int) (hn : R0.Nodup) (hs : ∀ c ∈ R0, ∃ v ∈ vs, apv v c = true) (n : Nat) (h : n ≤ R0.length) :
    (rc0 (vs.map (mulV t)) R0).run n = ((rc0 vs R0).run n).mul t := by
  induction n with
  | zero =>
    show rc0 _ _ = (rc0 _ _).mul t
    unfold rc0 Rc.mul
    simp only [List.map_map, List.map_nil]
    congr 1
    refine List.map_congr_left fun v _ => ?_
    show (mulV t v, (0 : Rat)) = (mulV t v, (0 : Rat) / (t : Rat))
    congr 1; rw [Rat.div_def, Rat.zero_mul]
  | succ n ih =>
    obtain ⟨m, hm⟩ := run_some vs R0 hn hs n (by omega)
    have := hm.left
    show ((rc0 _ _).run n).next = (((rc0 _ _).run n).next).mul t
    rw [ih (by omega)]
    exact Rc.mul_next ht hm.ok (by intro e; rw [e] at this; simp at this; omega)
end

/-! A voter more that approves none of these. -/
section
variable {u : Vr}
def Rc.idle (u : Vr) (r : Rc) : Rc := ⟨r.zs ++ [(u, 0)], r.R, r.es⟩
theorem sc_idle (zs : List (Vr × Rat)) (c : Int) (hu : ¬ apv u c = true) : scZ (zs ++ [(u, 0)]) c = scZ zs c := by
  unfold scZ ldZ skZ
  rw [sumZ_append, sumZ_append]
  simp only [sumZ, if_neg hu]
  congr 1 <;> grind
theorem Rc.idle_next {r : Rc} (hR : r.R ≠ []) (hu : ∀ c ∈ r.R, ¬ apv u c = true) : (r.idle u).next = r.next.idle u := by
  have e1 : bstI (scZ (r.idle u).zs) (r.idle u).R = bstI (scZ r.zs) r.R := bstI_congr _ _ r.R fun c hc => sc_idle _ _ (hu c hc)
  have e2 : (r.idle u).best = r.best := by unfold Rc.best; rw [e1]; rfl
  have hb := r.best_mem hR
  have e3 : scZ (r.idle u).zs r.best = scZ r.zs r.best := sc_idle _ _ (hu _ hb)
  unfold Rc.next
  rw [e2, e1, e3]
  show Rc.mk _ _ _ = Rc.mk _ _ _
  congr 1
  show elZ _ _ (_ ++ _) = elZ _ _ _ ++ _
  unfold elZ
  rw [List.map_append]
  simp only [List.map_cons, List.map_nil, if_neg (hu _ hb)]
theorem run_idle (vs : List Vr) (R0 : List Int) (hn : R0.Nodup) (hs : ∀ c ∈ R0, ∃ v ∈ vs, apv v c = true) (hu : ∀ c ∈ R0, ¬ apv u c = true) (n : Nat) (h : n ≤ R0.length) :
    (rc0 (vs ++ [u]) R0).run n = ((rc0 vs R0).run n).idle u := by
  induction n with
  | zero =>
    show rc0 _ _ = (rc0 _ _).idle u
    unfold rc0 Rc.idle
    simp only [List.map_append, List.map_cons, List.map_nil]
  | succ n ih =>
    obtain ⟨m, hm⟩ := run_some vs R0 hn hs n (by omega)
    have := hm.left
    show ((rc0 _ _).run n).next = (((rc0 _ _).run n).next).idle u
    rw [ih (by omega)]
    exact Rc.idle_next (by intro e; rw [e] at this; simp at this; omega) (fun c hc => hu c (hm.prm.subset (List.mem_append_right _ hc)))
end
/-! What a voter gives. -/
def edg (v : Vr) : List (Int × Rat) → Rat → List (Int × Rat)
  | [], _ => []
  | e :: es, l => if apv v e.1 = true then (e.1, e.2 - l) :: edg v es e.2 else edg v es l
/-- Its load in the end. -/
def fnl (v : Vr) : List (Int × Rat) → Rat → Rat
  | [], l => l
  | e :: es, l => if apv v e.1 = true then fnl v es e.2 else fnl v es l
theorem edg_append (v : Vr) (es fs : List (Int × Rat)) (l : Rat) : edg v (es ++ fs) l = edg v es l ++ edg v fs (fnl v es l) := by
  induction es generalizing l with
  | nil => rfl
  | cons e es ih =>
    simp only [List.cons_append, edg, fnl]
    split <;> simp [ih]
theorem fnl_append (v : Vr) (es fs : List (Int × Rat)) (l : Rat) : fnl v (es ++ fs) l = fnl v fs (fnl v es l) := by
  induction es generalizing l with
  | nil => rfl
  | cons e es ih =>
    simp only [List.cons_append, fnl]
    split <;> simp [ih]
def sumR : List Rat → Rat
  | [] => 0
  | x :: xs => x + sumR xs
theorem sumR_append (xs ys : List Rat) : sumR (xs ++ ys) = sumR xs + sumR ys := by
  induction xs with
  | nil => simp only [List.nil_append, sumR]; grind
  | cons x xs ih => simp only [List.cons_append, sumR, ih]; grind
theorem sumR_perm {xs ys : List Rat} (h : xs.Perm ys) : sumR xs = sumR ys := by
  induction h with
  | nil => rfl
  | cons x _ ih => simp only [sumR, ih]
  | swap x y l => simp only [sumR]; grind
  | trans _ _ h1 h2 => rw [h1, h2]
theorem edg_sum (v : Vr) (es : List (Int × Rat)) (l : Rat) : sumR ((edg v es l).map Prod.snd) = fnl v es l - l := by
  induction es generalizing l with
  | nil => simp only [edg, fnl, List.map_nil, sumR]; grind
  | cons e es ih =>
    simp only [edg, fnl]
    split
    · simp only [List.map_cons, sumR, ih]; grind
    · exact ih l
theorem edg_cand (v : Vr) (es : List (Int × Rat)) (l : Rat) : (edg v es l).map Prod.fst = (es.map Prod.fst).filter fun c => apv v c := by
  induction es generalizing l with
  | nil => rfl
  | cons e es ih =>
    simp only [edg, List.map_cons, List.filter_cons]
    split <;> simp [ih]
theorem edg_len (v : Vr) (es : List (Int × Rat)) (l : Rat) : (edg v es l).length ≤ es.length := by
  have := congrArg List.length (edg_cand v es l)
  rw [List.length_map] at this
  rw [this]
  exact Nat.le_trans (List.length_filter_le _ _) (by simp)
/-- Scores do not fall, none is below l. -/
def Ups (es : List (Int × Rat)) (l : Rat) : Prop := (es.map Prod.snd).Pairwise (· ≤ ·) ∧ ∀ e ∈ es, l ≤ e.2
theorem Ups.tail {e : Int × Rat} {es : List (Int × Rat)} {l : Rat} (h : Ups (e :: es) l) : l ≤ e.2 ∧ Ups es e.2 ∧ Ups es l := by
  obtain ⟨h1, h2⟩ := h
  rw [List.map_cons, List.pairwise_cons] at h1
  exact ⟨h2 e (by simp), ⟨h1.2, fun f hf => h1.1 _ (List.mem_map_of_mem hf)⟩, ⟨h1.2, fun f hf => h2 f (by simp [hf])⟩⟩
theorem edg_nonneg (v : Vr) (es : List (Int × Rat)) (l : Rat) (h : Ups es l) : (∀ x ∈ edg v es l, 0 ≤ x.2) ∧ l ≤ fnl v es l := by
  induction es generalizing l with
  | nil => exact ⟨fun x hx => by simp [edg] at hx, Rat.le_refl⟩
  | cons e es ih =>
    obtain ⟨h1, h2, h3⟩ := h.tail
    simp only [edg, fnl]
    split
    · have := ih e.2 h2
      refine ⟨fun x hx => ?_, by grind⟩
      rcases List.mem_cons.1 hx with e' | e'
      · subst e'; dsimp only; grind
      · exact this.1 x e'
    · exact ih l h3
theorem edg_den {D : Nat} (v : Vr) (es : List (Int × Rat)) (l : Rat) (h : Ups es l) (hd : ∀ e ∈ es, Den D e.2) (hl : Den D l) : (∀ x ∈ edg v es l, Den D x.2) ∧ Den D (fnl v es l) := by
  induction es generalizing l with
  | nil => exact ⟨fun x hx => by simp [edg] at hx, hl⟩
  | cons e es ih =>
    obtain ⟨h1, h2, h3⟩ := h.tail
    simp only [edg, fnl]
    split
    · have := ih e.2 h2 (fun f hf => hd f (by simp [hf])) (hd e (by simp))
      refine ⟨fun x hx => ?_, this.2⟩
      rcases List.mem_cons.1 hx with e' | e'
      · subst e'; exact (hd e (by simp)).sub hl h1
      · exact this.1 x e'
    · exact ih l h3 (fun f hf => hd f (by simp [hf])) hl
theorem fnl_nil (v : Vr) (es : List (Int × Rat)) (l : Rat) (h : edg v es l = []) : fnl v es l = l := by
  induction es generalizing l with
  | nil => rfl
  | cons f fs ih =>
    by_cases a : apv v f.1 = true
    · simp only [edg, if_pos a] at h; cases h
    · simp only [edg, fnl, if_neg a] at h ⊢; exact ih l h
/-- It is one of the scores, if it gives anything. -/
theorem fnl_mem (v : Vr) (es : List (Int × Rat)) (l : Rat) (h : edg v es l ≠ []) : ∃ e ∈ es, fnl v es l = e.2 := by
  induction es generalizing l with
  | nil => exact absurd rfl h
  | cons e es ih =>
    by_cases a : apv v e.1 = true
    · simp only [edg, fnl, if_pos a] at h ⊢
      by_cases hn : edg v es e.2 = []
      · exact ⟨e, by simp, fnl_nil v es e.2 hn⟩
      · obtain ⟨f, hf, h2⟩ := ih e.2 hn
        exact ⟨f, by simp [hf], h2⟩
    · simp only [edg, fnl, if_neg a] at h ⊢
      obtain ⟨f, hf, h2⟩ := ih l h
      exact ⟨f, by simp [hf], h2⟩
/-- What it gives to each, in the order in which they were elected. -/
def wts (v : Vr) (es : List (Int × Rat)) : List (Int × Rat) := (edg v es 0).map fun e => (e.1, (v.st : Rat) * e.2 / fnl v es 0)
/-- In ascending order of candidates. -/
def srtC (l : List (Int × Rat)) : List (Int × Rat) := l.mergeSort fun a b => decide (a.1 ≤ b.1)
def giv (v : Vr) (es : List (Int × Rat)) : List (Int × Rat) := srtC (wts v es)
theorem srtC_perm (l : List (Int × Rat)) : (srtC l).Perm l := List.mergeSort_perm _ _
theorem sumR_mul (k : Rat) (xs : List Rat) : sumR (xs.map fun x => k * x) = k * sumR xs := by
  induction xs with
  | nil => simp only [List.map_nil, sumR]; grind
  | cons x xs ih => simp only [List.map_cons, sumR, ih]; grind
theorem giv_sum (v : Vr) (es : List (Int × Rat)) (hp : ∀ e ∈ es, 0 < e.2) (h : giv v es ≠ []) : sumR ((giv v es).map Prod.snd) = (v.st : Rat) := by
  have h1 := sumR_perm ((srtC_perm (wts v es)).map Prod.snd)
  unfold giv
  rw [h1]
  have hne : edg v es 0 ≠ [] := by
    intro e
    apply h
    have : wts v es = [] := by unfold wts; rw [e]; rfl
    unfold giv; rw [this]
    exact (srtC_perm []).eq_nil
  obtain ⟨e, he, hf⟩ := fnl_mem v es 0 hne
  have hpos := hp e he
  rw [← hf] at hpos
  have h2 : (wts v es).map Prod.snd = ((edg v es 0).map Prod.snd).map fun x => ((v.st : Rat) / fnl v es 0) * x := by
    unfold wts
    rw [List.map_map, List.map_map]
    refine List.map_congr_left fun x _ => ?_
    show (v.st : Rat) * x.2 / fnl v es 0 = (v.st : Rat) / fnl v es 0 * x.2
    rw [Rat.div_def, Rat.div_def]; grind
  rw [h2, sumR_mul, edg_sum]
  have := Rat.div_mul_cancel (a := (v.st : Rat)) (b := fnl v es 0) (by grind)
  grind
end Go.Proofs.YtehekjlakegkpaaGreat
end
