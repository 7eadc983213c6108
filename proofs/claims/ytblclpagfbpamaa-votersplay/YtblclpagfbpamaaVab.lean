/-
  The mathematics of voters: voters in the order of all, what each call makes of them, each bag's own row. Plain lists; no program is in sight here; the conditions stand in each theorem.
-/
import Derived.Test.YtblclpagfbpamaaGbag
namespace Go.Proofs.Ytblclpagfbpamaa
open Go.RowKit
set_option linter.unusedVariables false

/-- A voter: its number, its stake, the bag that it is in. -/
structure Vt where
  id : Int
  st : Nat
  bag : Nat
/-- The voter of that number. -/
def fnd (L : List Vt) (i : Int) : Option Vt := L.find? fun x => decide (x.id = i)
/-- The last one of its bag. -/
def lastV (x : Vt) (L : List Vt) : List Vt := L.takeWhile (fun y => decide (x.bag ≤ y.bag)) ++ x :: L.dropWhile (fun y => decide (x.bag ≤ y.bag))
def delV (i : Int) (L : List Vt) : List Vt := L.filter fun x => decide (x.id ≠ i)
def updV (i : Int) (s : Nat) (L : List Vt) : List Vt := L.map fun x => if x.id = i then { x with st := s } else x
/-- Directly ahead of the voter o. -/
def insV (o : Int) (x : Vt) : List Vt → List Vt
  | [] => [x]
  | y :: ys => if y.id = o then x :: y :: ys else y :: insV o x ys
/-- One bag's row. -/
def rowV (b : Nat) (L : List Vt) : List Vt := L.filter fun x => decide (x.bag = b)

/-- Voters in order: each once, greater bags ahead, no bag beyond N. -/
structure VOk (N : Nat) (L : List Vt) : Prop where
  nd : (L.map Vt.id).Nodup
  desc : L.Pairwise fun a b => b.bag ≤ a.bag
  bnd : ∀ x ∈ L, x.bag ≤ N
  st : ∀ x ∈ L, x.st < 18446744073709551616
  wf : ∀ x ∈ L, (Lit.int .i64 x.id).wf = true

theorem fnd_some {L : List Vt} {i : Int} {x : Vt} (h : fnd L i = some x) : x ∈ L ∧ x.id = i := by
  unfold fnd at h
  exact ⟨List.mem_of_find?_eq_some h, by simpa using List.find?_some h⟩
theorem fnd_none {L : List Vt} {i : Int} (h : fnd L i = none) : ∀ x ∈ L, x.id ≠ i := by
  unfold fnd at h
  intro x hx
  simpa using List.find?_eq_none.1 h x hx
theorem fnd_eq {L : List Vt} (hn : (L.map Vt.id).Nodup) {x : Vt} (hx : x ∈ L) : fnd L x.id = some x := by
  induction L with
  | nil => cases hx
  | cons y ys ih =>
    unfold fnd
    rw [List.map_cons, List.nodup_cons] at hn
    rcases List.mem_cons.1 hx with rfl | hx
    · simp
    · rw [List.find?_cons_of_neg (by
        simp only [decide_eq_true_eq]
        exact fun e => hn.1 (e ▸ List.mem_map_of_mem hx))]
      exact ih hn.2 hx
theorem fnd_iff {L : List Vt} (hn : (L.map Vt.id).Nodup) {i : Int} {x : Vt} : fnd L i = some x ↔ x ∈ L ∧ x.id = i :=
  ⟨fnd_some, fun ⟨h1, h2⟩ => h2 ▸ fnd_eq hn h1⟩
theorem fnd_of_none {L : List Vt} {i : Int} (h : ∀ x ∈ L, x.id ≠ i) : fnd L i = none := by
  unfold fnd
  exact List.find?_eq_none.2 fun x hx => by simpa using h x hx
theorem fnd_perm {L K : List Vt} (hn : (L.map Vt.id).Nodup) (hp : L.Perm K) (i : Int) : fnd K i = fnd L i := by
  cases h : fnd L i with
  | none => exact fnd_of_none fun x hx => fnd_none h x (hp.mem_iff.2 hx)
  | some x =>
    obtain ⟨h1, h2⟩ := fnd_some h
    exact (fnd_iff ((hp.map _).nodup_iff.1 hn)).2 ⟨hp.mem_iff.1 h1, h2⟩

theorem lastV_perm (x : Vt) (L : List Vt) : (lastV x L).Perm (x :: L) := by
  unfold lastV
  have h1 : (L.takeWhile (fun y => decide (x.bag ≤ y.bag)) ++ L.dropWhile (fun y => decide (x.bag ≤ y.bag))) = L := List.takeWhile_append_dropWhile
  exact List.perm_middle.trans (by rw [h1])
theorem insV_perm (o : Int) (x : Vt) : ∀ L : List Vt, (insV o x L).Perm (x :: L)
  | [] => List.Perm.refl _
  | y :: ys => by
    unfold insV
    split
    · exact List.Perm.refl _
    · exact ((insV_perm o x ys).cons y).trans (List.Perm.swap x y ys)
theorem takeWhile_all {α : Type} {p : α → Bool} : ∀ {L : List α} {x : α}, x ∈ L.takeWhile p → p x = true
  | [], x, h => by cases h
  | y :: ys, x, h => by
    rw [List.takeWhile_cons] at h
    split at h
    · rcases List.mem_cons.1 h with rfl | h
      · assumption
      · exact takeWhile_all h
    · cases h
/-- In order, what follows the last one of a bag lies in lesser bags. -/
theorem drop_less {n : Nat} : ∀ {L : List Vt}, L.Pairwise (fun a b => b.bag ≤ a.bag) → ∀ y ∈ L.dropWhile (fun y => decide (n ≤ y.bag)), y.bag < n
  | [], _, y, h => by cases h
  | z :: zs, hp, y, h => by
    rw [List.dropWhile_cons] at h
    rw [List.pairwise_cons] at hp
    split at h
    · exact drop_less hp.2 y h
    · rename_i hz
      simp only [decide_eq_true_eq] at hz
      rcases List.mem_cons.1 h with rfl | h
      · omega
      · have := hp.1 y h; omega

theorem lastV_desc {L : List Vt} (x : Vt) (h : L.Pairwise fun a b => b.bag ≤ a.bag) : (lastV x L).Pairwise fun a b => b.bag ≤ a.bag := by
  unfold lastV
  have h1 : (L.takeWhile (fun y => decide (x.bag ≤ y.bag)) ++ L.dropWhile (fun y => decide (x.bag ≤ y.bag))) = L := List.takeWhile_append_dropWhile
  have h2 := drop_less (n := x.bag) h
  rw [← h1, List.pairwise_append] at h
  rw [List.pairwise_append, List.pairwise_cons]
  refine ⟨h.1, ⟨fun y hy => by have := h2 y hy; omega, h.2.1⟩, fun a ha b hb => ?_⟩
  rcases List.mem_cons.1 hb with rfl | hb
  · have := takeWhile_all ha; simpa using this
  · exact h.2.2 a ha b hb
theorem rowV_lastV {L : List Vt} (x : Vt) (h : L.Pairwise fun a b => b.bag ≤ a.bag) (b : Nat) : rowV b (lastV x L) = if b = x.bag then rowV b L ++ [x] else rowV b L := by
  have h1 : (L.takeWhile (fun y => decide (x.bag ≤ y.bag)) ++ L.dropWhile (fun y => decide (x.bag ≤ y.bag))) = L := List.takeWhile_append_dropWhile
  have h2 := drop_less (n := x.bag) h
  unfold lastV rowV
  generalize L.takeWhile (fun y => decide (x.bag ≤ y.bag)) = A at h1 ⊢
  generalize L.dropWhile (fun y => decide (x.bag ≤ y.bag)) = B at h1 h2 ⊢
  subst h1
  rw [List.filter_append, List.filter_append]
  split
  · rename_i e
    have h0 : (B.filter fun y => decide (y.bag = b)) = [] := List.filter_eq_nil_iff.2 fun y hy => by have := h2 y hy; simp; omega
    rw [List.filter_cons_of_pos (by simp [e]), h0]
    simp
  · rename_i e
    rw [List.filter_cons_of_neg (by simp; omega)]
theorem rowV_delV (i : Int) (b : Nat) (L : List Vt) : rowV b (delV i L) = delV i (rowV b L) := by
  unfold rowV delV; rw [List.filter_filter, List.filter_filter]; congr 1; funext x; rw [Bool.and_comm]
theorem rowV_updV (i : Int) (s b : Nat) (L : List Vt) : rowV b (updV i s L) = updV i s (rowV b L) := by
  unfold rowV updV
  rw [List.filter_map]
  congr 1
  refine List.filter_congr fun x _ => ?_
  simp only [Function.comp]
  split <;> rfl
theorem insV_not {o : Int} {x : Vt} : ∀ {L : List Vt}, (∀ y ∈ L, y.id ≠ o) → insV o x L = L ++ [x]
  | [], _ => rfl
  | y :: ys, h => by
    unfold insV
    rw [if_neg (h y (by simp)), insV_not (fun z hz => h z (by simp [hz]))]; rfl
theorem insV_mid {o : Int} {x y : Vt} : ∀ {xs ys : List Vt}, (∀ z ∈ xs, z.id ≠ o) → y.id = o → insV o x (xs ++ y :: ys) = xs ++ x :: y :: ys
  | [], ys, _, hy => by simp [insV, hy]
  | z :: xs, ys, hx, hy => by
    rw [List.cons_append, insV, if_neg (hx z (by simp)), insV_mid (fun u hu => hx u (by simp [hu])) hy]; rfl
/-- The list around a voter. -/
theorem split_at {L : List Vt} (hn : (L.map Vt.id).Nodup) {y : Vt} (hy : y ∈ L) : ∃ xs ys, L = xs ++ y :: ys ∧ (∀ z ∈ xs, z.id ≠ y.id) ∧ ∀ z ∈ ys, z.id ≠ y.id := by
  obtain ⟨xs, ys, rfl⟩ := List.append_of_mem hy
  rw [List.map_append, List.map_cons, List.nodup_append] at hn
  refine ⟨xs, ys, rfl, fun z hz e => hn.2.2 z.id (List.mem_map_of_mem hz) y.id (by simp) e, fun z hz e => ?_⟩
  have := (List.nodup_cons.1 hn.2.1).1
  exact this (e ▸ List.mem_map_of_mem hz)
theorem delV_mid {i : Int} {y : Vt} {xs ys : List Vt} (hx : ∀ z ∈ xs, z.id ≠ i) (hy : y.id = i) (hz : ∀ z ∈ ys, z.id ≠ i) : delV i (xs ++ y :: ys) = xs ++ ys := by
  unfold delV
  rw [List.filter_append, List.filter_cons_of_neg (by simp [hy]), List.filter_eq_self.2 (by simpa using hx), List.filter_eq_self.2 (by simpa using hz)]
theorem delV_not {i : Int} {L : List Vt} (h : ∀ z ∈ L, z.id ≠ i) : delV i L = L := by
  unfold delV; exact List.filter_eq_self.2 (by simpa using h)
theorem delV_perm {L : List Vt} (hn : (L.map Vt.id).Nodup) {y : Vt} (hy : y ∈ L) : L.Perm (y :: delV y.id L) := by
  obtain ⟨xs, ys, rfl, h1, h2⟩ := split_at hn hy
  rw [delV_mid h1 rfl h2]
  exact List.perm_middle
theorem insV_desc {o : Int} {x : Vt} : ∀ {L : List Vt}, L.Pairwise (fun a b => b.bag ≤ a.bag) → (∃ y ∈ L, y.id = o ∧ y.bag = x.bag) → (L.map Vt.id).Nodup → (insV o x L).Pairwise fun a b => b.bag ≤ a.bag := by
  rintro L h ⟨y, hy, ho, hb⟩ hn
  obtain ⟨xs, ys, rfl, h1, h2⟩ := split_at hn hy
  rw [insV_mid (ho ▸ h1) ho]
  rw [List.pairwise_append, List.pairwise_cons] at h
  rw [List.pairwise_append, List.pairwise_cons, List.pairwise_cons]
  refine ⟨h.1, ⟨fun z hz => ?_, h.2.1⟩, fun a ha c hc => ?_⟩
  · rcases List.mem_cons.1 hz with rfl | hz
    · omega
    · have := h.2.1.1 z hz; omega
  · rcases List.mem_cons.1 hc with rfl | hc
    · have := h.2.2 a ha y (by simp); omega
    · exact h.2.2 a ha c hc
theorem rowV_insV {o : Int} {x y : Vt} {L : List Vt} (hn : (L.map Vt.id).Nodup) (hy : y ∈ L) (ho : y.id = o) (hb : y.bag = x.bag) (b : Nat) : rowV b (insV o x L) = if b = x.bag then insV o x (rowV b L) else rowV b L := by
  obtain ⟨xs, ys, rfl, h1, h2⟩ := split_at hn hy
  rw [insV_mid (ho ▸ h1) ho]
  unfold rowV
  rw [List.filter_append, List.filter_append]
  split
  · rename_i e
    rw [List.filter_cons_of_pos (by simp [e]), List.filter_cons_of_pos (by simp [e, hb])]
    rw [insV_mid (fun z hz => ho ▸ h1 z (List.mem_filter.1 hz).1) ho]
  · rename_i e
    rw [List.filter_cons_of_neg (by simp; omega)]
theorem delV_desc {L : List Vt} (i : Int) (h : L.Pairwise fun a b => b.bag ≤ a.bag) : (delV i L).Pairwise fun a b => b.bag ≤ a.bag := h.filter _
theorem delV_nd {L : List Vt} (i : Int) (h : (L.map Vt.id).Nodup) : ((delV i L).map Vt.id).Nodup := h.sublist (List.filter_sublist.map _)
theorem delV_mem {i : Int} {L : List Vt} {x : Vt} : x ∈ delV i L ↔ x ∈ L ∧ x.id ≠ i := by unfold delV; simp
theorem updV_ids (i : Int) (s : Nat) (L : List Vt) : (updV i s L).map Vt.id = L.map Vt.id := by
  unfold updV
  rw [List.map_map]
  refine List.map_congr_left fun x _ => ?_
  simp only [Function.comp]
  split <;> rfl
theorem updV_len (i : Int) (s : Nat) (L : List Vt) : (updV i s L).length = L.length := by simp [updV]
theorem fnd_updV {L : List Vt} (i : Int) (s : Nat) (j : Int) : fnd (updV i s L) j = (fnd L j).map fun x => if x.id = i then { x with st := s } else x := by
  unfold fnd updV
  rw [List.find?_map]
  congr 2
  funext x
  simp only [Function.comp]
  split <;> rfl

/-! The order is kept by whatever is done. -/
theorem VOk.nil (N : Nat) : VOk N [] := ⟨by simp, List.Pairwise.nil, by simp, by simp, by simp⟩
theorem VOk.del {N : Nat} {L : List Vt} (h : VOk N L) (i : Int) : VOk N (delV i L) :=
  ⟨delV_nd i h.nd, delV_desc i h.desc, fun x hx => h.bnd x (delV_mem.1 hx).1, fun x hx => h.st x (delV_mem.1 hx).1, fun x hx => h.wf x (delV_mem.1 hx).1⟩
theorem VOk.last {N : Nat} {L : List Vt} (h : VOk N L) {x : Vt} (hx : ∀ y ∈ L, y.id ≠ x.id) (hb : x.bag ≤ N) (hs : x.st < 18446744073709551616) (hw : (Lit.int .i64 x.id).wf = true) : VOk N (lastV x L) := by
  have hp := lastV_perm x L
  have key : ∀ {q : Vt → Prop}, q x → (∀ y ∈ L, q y) → ∀ y ∈ lastV x L, q y := fun h1 h2 y hy => by
    rcases List.mem_cons.1 (hp.mem_iff.1 hy) with rfl | h
    · exact h1
    · exact h2 y h
  refine ⟨(hp.map _).nodup_iff.2 ?_, lastV_desc x h.desc, key hb h.bnd, key hs h.st, key hw h.wf⟩
  rw [List.map_cons, List.nodup_cons]
  exact ⟨fun hm => by obtain ⟨y, hy, e⟩ := List.mem_map.1 hm; exact hx y hy e, h.nd⟩
theorem VOk.upd {N : Nat} {L : List Vt} (h : VOk N L) (i : Int) {s : Nat} (hs : s < 18446744073709551616) : VOk N (updV i s L) := by
  have key : ∀ {q : Vt → Prop}, (∀ y ∈ L, q (if y.id = i then { y with st := s } else y)) → ∀ y ∈ updV i s L, q y := fun h2 y hy => by
    obtain ⟨z, hz, rfl⟩ := List.mem_map.1 hy
    exact h2 z hz
  refine ⟨by rw [updV_ids]; exact h.nd, ?_, key (fun y hy => by split <;> exact h.bnd y hy), key (fun y hy => by
    split
    · exact hs
    · exact h.st y hy), key (fun y hy => by split <;> exact h.wf y hy)⟩
  unfold updV
  rw [List.pairwise_map]
  refine h.desc.imp fun {a b} hab => ?_
  split <;> split <;> exact hab
theorem VOk.ins {N : Nat} {L : List Vt} (h : VOk N L) {o : Int} {x y : Vt} (hy : y ∈ L) (ho : y.id = o) (hb : y.bag = x.bag) (hx : ∀ y ∈ L, y.id ≠ x.id) (hs : x.st < 18446744073709551616) (hw : (Lit.int .i64 x.id).wf = true) : VOk N (insV o x L) := by
  have hp := insV_perm o x L
  have key : ∀ {q : Vt → Prop}, q x → (∀ y ∈ L, q y) → ∀ y ∈ insV o x L, q y := fun h1 h2 y hy => by
    rcases List.mem_cons.1 (hp.mem_iff.1 hy) with rfl | h
    · exact h1
    · exact h2 y h
  refine ⟨(hp.map _).nodup_iff.2 ?_, insV_desc h.desc ⟨y, hy, ho, hb⟩ h.nd, key (hb ▸ h.bnd y hy) h.bnd, key hs h.st, key hw h.wf⟩
  rw [List.map_cons, List.nodup_cons]
  exact ⟨fun hm => by obtain ⟨y, hy, e⟩ := List.mem_map.1 hm; exact hx y hy e, h.nd⟩

/-! All are the bags' rows, the greatest bag first. -/
def flatV : Nat → List Vt → List Vt
  | 0, _ => []
  | n + 1, L => rowV n L ++ flatV n L
theorem split_desc (n : Nat) : ∀ {L : List Vt}, L.Pairwise (fun a b => b.bag ≤ a.bag) → (L.filter fun x => decide (x.bag = n)) ++ (L.filter fun x => decide (x.bag < n)) = L.filter fun x => decide (x.bag < n + 1)
  | [], _ => rfl
  | y :: ys, h => by
    rw [List.pairwise_cons] at h
    have ih := split_desc n h.2
    rcases Nat.lt_trichotomy y.bag n with h1 | h1 | h1
    · have h0 : (ys.filter fun x => decide (x.bag = n)) = [] := List.filter_eq_nil_iff.2 fun z hz => by have := h.1 z hz; simp; omega
      rw [h0, List.nil_append] at ih
      rw [List.filter_cons_of_neg (by simp; omega), h0, List.filter_cons_of_pos (by simpa using h1), List.filter_cons_of_pos (by simp; omega), ih]; rfl
    · rw [List.filter_cons_of_pos (by simpa using h1), List.filter_cons_of_neg (by simp; omega), List.filter_cons_of_pos (by simp; omega), List.cons_append, ih]
    · rw [List.filter_cons_of_neg (by simp; omega), List.filter_cons_of_neg (by simp; omega), List.filter_cons_of_neg (by simp; omega), ih]
theorem flatV_less {n : Nat} {L : List Vt} (h : L.Pairwise fun a b => b.bag ≤ a.bag) : flatV n L = L.filter fun x => decide (x.bag < n) := by
  induction n with
  | zero => rw [List.filter_eq_nil_iff.2 (fun x _ => by simp)]; rfl
  | succ n ih => rw [flatV, ih]; exact split_desc n h
theorem flatV_all {N : Nat} {L : List Vt} (h : VOk N L) : flatV (N + 1) L = L := by
  rw [flatV_less h.desc]
  exact List.filter_eq_self.2 fun x hx => by have := h.bnd x hx; simp; omega

/-! What each call makes of voters and answers. -/
abbrev ErrArg : Int := 1
def insM (T : List Nat) (L : List Vt) (i : Int) (s : Nat) : List Vt × Int :=
  match fnd L i with
  | some _ => (L, 6)
  | none => (lastV ⟨i, s, bagN T s⟩ L, 0)
def remM (L : List Vt) (i : Int) : List Vt × Int :=
  match fnd L i with
  | some _ => (delV i L, 0)
  | none => (L, 5)
def updM (L : List Vt) (i : Int) (s : Nat) : List Vt × Int :=
  match fnd L i with
  | some _ => (updV i s L, 0)
  | none => (L, 5)
def rebM (T : List Nat) (L : List Vt) (i : Int) : List Vt × Int :=
  match fnd L i with
  | some x => if x.bag = bagN T x.st then (L, 10) else (lastV { x with bag := bagN T x.st } (delV i L), 0)
  | none => (L, 5)
def froM (L : List Vt) (i o : Int) : List Vt × Int :=
  match fnd L i, fnd L o with
  | some x, some y => if x.bag ≠ y.bag ∨ x.st ≤ y.st then (L, 10) else (insV o x (delV i L), 0)
  | _, _ => (L, 5)
theorem insM_ok {T : List Nat} {L : List Vt} (h : VOk T.length L) {i : Int} {s : Nat} (hs : s < 18446744073709551616) (hw : (Lit.int .i64 i).wf = true) : VOk T.length (insM T L i s).1 := by
  unfold insM
  cases hf : fnd L i with
  | some x => exact h
  | none => exact h.last (fnd_none hf) (bagN_le T s) hs hw
theorem remM_ok {N : Nat} {L : List Vt} (h : VOk N L) (i : Int) : VOk N (remM L i).1 := by
  unfold remM
  cases hf : fnd L i with
  | some x => exact h.del i
  | none => exact h
theorem updM_ok {N : Nat} {L : List Vt} (h : VOk N L) (i : Int) {s : Nat} (hs : s < 18446744073709551616) : VOk N (updM L i s).1 := by
  unfold updM
  cases hf : fnd L i with
  | some x => exact h.upd i hs
  | none => exact h
theorem rebM_ok {T : List Nat} {L : List Vt} (h : VOk T.length L) (i : Int) : VOk T.length (rebM T L i).1 := by
  unfold rebM
  cases hf : fnd L i with
  | some x =>
    obtain ⟨h1, h2⟩ := fnd_some hf
    dsimp only
    split
    · exact h
    · exact (h.del i).last (fun y hy => by rw [show ({ x with bag := bagN T x.st } : Vt).id = i from h2]; exact (delV_mem.1 hy).2) (bagN_le T _) (h.st x h1) (h.wf x h1)
  | none => exact h
theorem froM_ok {N : Nat} {L : List Vt} (h : VOk N L) (i o : Int) : VOk N (froM L i o).1 := by
  unfold froM
  cases hf : fnd L i with
  | none => exact h
  | some x =>
    cases hg : fnd L o with
    | none => exact h
    | some y =>
      obtain ⟨h1, h2⟩ := fnd_some hf
      obtain ⟨h3, h4⟩ := fnd_some hg
      dsimp only
      split
      · exact h
      · rename_i hn
        have hne : o ≠ i := fun e => hn (.inr (by
          have : x = y := by
            have := hf.symm.trans (e ▸ hg)
            injection this
          rw [this]; exact Nat.le_refl _))
        exact (h.del i).ins (y := y) (delV_mem.2 ⟨h3, by rw [h4]; exact hne⟩) h4 (by
          have : ¬ (x.bag ≠ y.bag) := fun e => hn (.inl e)
          omega) (fun z hz => by rw [h2]; exact (delV_mem.1 hz).2) (h.st x h1) (h.wf x h1)
end Go.Proofs.Ytblclpagfbpamaa
