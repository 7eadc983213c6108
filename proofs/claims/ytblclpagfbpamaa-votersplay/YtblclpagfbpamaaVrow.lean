/-
  What the rows and the map of voters become where a voter is put in, taken out, moved or given another stake; plain lists, and voters in memory. The conditions stand in each theorem.
-/
import Derived.Test.YtblclpagfbpamaaVmem
namespace Go.Proofs.Ytblclpagfbpamaa
open Go.RowKit
set_option linter.unusedVariables false

theorem nodup_inj {α β : Type} {f : α → β} : ∀ {l : List α}, (l.map f).Nodup → ∀ x ∈ l, ∀ y ∈ l, f x = f y → x = y
  | [], _, x, hx, _, _, _ => by cases hx
  | z :: zs, h, x, hx, y, hy, e => by
    rw [List.map_cons, List.nodup_cons] at h
    rcases List.mem_cons.1 hx with hx' | hx' <;> rcases List.mem_cons.1 hy with hy' | hy'
    · rw [hx', hy']
    · exact absurd (by rw [← hx', e]; exact List.mem_map_of_mem hy') h.1
    · exact absurd (by rw [← hy', ← e]; exact List.mem_map_of_mem hx') h.1
    · exact nodup_inj h.2 x hx' y hy' e

section
variable {hd : Int → Int} {L : List Vt}
theorem rowsOf_upd (i : Int) (s : Nat) : rowsOf hd (updV i s L) = rowsOf hd L := by
  funext b
  unfold rowsOf
  rw [rowV_updV]
  unfold updV
  rw [List.map_map]
  refine List.map_congr_left fun x _ => ?_
  simp only [Function.comp]
  split <;> rfl
theorem f3_upd {i : Int} {s : Nat} {x : Vt} (h : fnd L i = some x) (j : Int) : f3 hd (updV i s L) j = upd (f3 hd L) i (some (s, x.bag, hd i)) j := by
  unfold f3
  rw [fnd_updV]
  by_cases e : j = i
  · subst e
    rw [upd_same, h]
    simp [(fnd_some h).2]
  · rw [upd_other _ _ e]
    cases hj : fnd L j with
    | none => rfl
    | some y =>
      have := (fnd_some hj).2
      simp [this, e]
theorem f3_del {i : Int} (hn : (L.map Vt.id).Nodup) (j : Int) : f3 hd (delV i L) j = upd (f3 hd L) i none j := by
  unfold f3
  by_cases e : j = i
  · subst e
    rw [upd_same, fnd_of_none (fun y hy => (delV_mem.1 hy).2)]; rfl
  · rw [upd_other _ _ e]
    cases hj : fnd L j with
    | none => rw [fnd_of_none (fun y hy => fnd_none hj y (delV_mem.1 hy).1)]
    | some y =>
      obtain ⟨h1, h2⟩ := fnd_some hj
      rw [(fnd_iff (delV_nd i hn)).2 ⟨delV_mem.2 ⟨h1, by rw [h2]; exact e⟩, h2⟩]
theorem f3_cons {x : Vt} {K : List Vt} {g : Int} (hn : (K.map Vt.id).Nodup) (hp : K.Perm (x :: L)) (j : Int) : f3 (upd hd x.id g) K j = upd (f3 hd L) x.id (some (x.st, x.bag, g)) j := by
  unfold f3
  rw [fnd_perm ((hp.map _).nodup_iff.1 hn) hp.symm]
  unfold fnd
  by_cases e : j = x.id
  · subst e
    rw [upd_same, upd_same]; simp
  · rw [upd_other _ _ e, upd_other _ _ e, List.find?_cons_of_neg (by simpa using fun h => e h.symm)]
theorem f3_perm {K : List Vt} (hn : (L.map Vt.id).Nodup) (hp : L.Perm K) (j : Int) : f3 hd K j = f3 hd L j := by
  unfold f3; rw [fnd_perm hn hp]

theorem rowsOf_len (b : Nat) : (rowsOf hd L b).length = (rowV b L).length := by simp [rowsOf]
theorem rowsOf_last {x : Vt} {g : Int} (hd1 : L.Pairwise fun a b => b.bag ≤ a.bag) (hx : ∀ y ∈ L, y.id ≠ x.id) (b : Nat) : rowsOf (upd hd x.id g) (lastV x L) b = updR (rowsOf hd L) x.bag (rowsOf hd L x.bag ++ [(g, x.id)]) b := by
  have key : ∀ b, (rowV b L).map (fun y => (upd hd x.id g y.id, y.id)) = rowsOf hd L b := fun b => by
    refine List.map_congr_left fun y hy => ?_
    rw [upd_other _ _ (hx y (List.mem_filter.1 hy).1)]
  unfold rowsOf updR
  rw [rowV_lastV x hd1]
  by_cases e : b = x.bag
  · subst e
    rw [if_pos rfl, if_pos rfl, List.map_append, key]
    simp [rowsOf, upd_same]
  · rw [if_neg e, if_neg e]
    exact key b
/-- In one row no two voters have the same handle. -/
def Hinj (hd : Int → Int) (L : List Vt) : Prop := ∀ b, ∀ x ∈ rowV b L, ∀ y ∈ rowV b L, hd x.id = hd y.id → x.id = y.id
theorem delR_row {b : Nat} {i : Int} (hi : Hinj hd L) (hm : ∃ x ∈ rowV b L, x.id = i) : delR (hd i) (rowsOf hd L b) = rowsOf hd (delV i L) b := by
  obtain ⟨x, hx, rfl⟩ := hm
  unfold rowsOf delR
  rw [rowV_delV]
  unfold delV
  rw [List.filter_map]
  congr 1
  refine List.filter_congr fun y hy => ?_
  simp only [Function.comp, decide_eq_decide]
  exact not_congr ⟨fun e => hi b y hy x hx e, fun e => by rw [e]⟩
theorem rowsOf_del {i : Int} {x : Vt} (hn : (L.map Vt.id).Nodup) (hi : Hinj hd L) (hx : fnd L i = some x) (b : Nat) : rowsOf hd (delV i L) b = updR (rowsOf hd L) x.bag (delR (hd i) (rowsOf hd L x.bag)) b := by
  obtain ⟨h1, h2⟩ := fnd_some hx
  unfold updR
  by_cases e : b = x.bag
  · rw [if_pos e, e, delR_row hi ⟨x, List.mem_filter.2 ⟨h1, by simp⟩, h2⟩]
  · rw [if_neg e]
    unfold rowsOf
    rw [rowV_delV, delV_not]
    intro z hz e2
    obtain ⟨h3, h4⟩ := List.mem_filter.1 hz
    have h5 := (fnd_iff hn).2 ⟨h3, e2⟩
    rw [hx] at h5
    cases h5
    simp at h4
    exact e h4.symm
theorem insV_map {o : Int} {x : Vt} : ∀ {K : List Vt}, (∀ y ∈ K, hd y.id = hd o → y.id = o) → (insV o x K).map (fun y => (hd y.id, y.id)) = insB (hd o) (hd x.id, x.id) (K.map fun y => (hd y.id, y.id))
  | [], _ => rfl
  | y :: ys, h => by
    unfold insV
    rw [List.map_cons, insB]
    by_cases e : y.id = o
    · rw [if_pos e, if_pos (by rw [e])]; rfl
    · rw [if_neg e, if_neg (fun e2 => e (h y (by simp) e2)), List.map_cons, insV_map (fun z hz => h z (by simp [hz]))]
theorem Hinj.del {i : Int} (h : Hinj hd L) : Hinj hd (delV i L) := fun b x hx y hy e => by
  rw [rowV_delV] at hx hy
  exact h b x (delV_mem.1 hx).1 y (delV_mem.1 hy).1 e
theorem rowsOf_ins {o : Int} {x y : Vt} (hn : (L.map Vt.id).Nodup) (hi : Hinj hd L) (hy : y ∈ L) (ho : y.id = o) (hb : y.bag = x.bag) (b : Nat) :
    rowsOf hd (insV o x L) b = updR (rowsOf hd L) x.bag (insB (hd o) (hd x.id, x.id) (rowsOf hd L x.bag)) b := by
  unfold rowsOf updR
  rw [rowV_insV hn hy ho hb]
  by_cases e : b = x.bag
  · rw [if_pos e, if_pos e, e]
    refine insV_map fun z hz e2 => ?_
    have := hi x.bag z hz y (List.mem_filter.2 ⟨hy, by simp [hb]⟩) (by rw [e2, ho])
    rw [this, ho]
  · rw [if_neg e, if_neg e]
theorem updR_updR {R : Nat → List (Int × Int)} {b : Nat} {r q : List (Int × Int)} : updR (updR R b r) b q = updR R b q := by funext k; unfold updR; split <;> rfl
theorem updR_same {R : Nat → List (Int × Int)} {b : Nat} {r : List (Int × Int)} : updR R b r b = r := by simp [updR]
end

section
variable {base : Nat} {w : World} {s : VS} {hd : Int → Int} {T : List Nat} {L : List Vt} {G : Nat}
theorem Vl.eq {R R' : Nat → List (Int × Int)} {f f' : Int → Option V3} {n n' : Nat} (h : Vl base w s T R f n) (hR : ∀ b, R' b = R b) (hf : ∀ i, f' i = f i) (hn : n' = n) : Vl base w s T R' f' n' := by
  have h1 : R' = R := funext hR
  have h2 : f' = f := funext hf
  rw [h1, h2, hn]; exact h
/-- In one row no two voters have the same handle. -/
theorem Vg.inj (h : Vg base w s hd T L G) : Hinj hd L := by
  intro b x hx y hy e
  have hne : L ≠ [] := fun e2 => by rw [e2] at hx; cases hx
  have hnb : s.nb = T.length + 1 := by
    rcases h.ful with ⟨_, _, h0⟩ | ⟨h1, _⟩
    · exact absurd h0 hne
    · exact h1
  have hb : b < s.nb := by
    have := h.ok.bnd x (List.mem_filter.1 hx).1
    have h2 := (List.mem_filter.1 hx).2
    simp at h2
    omega
  have hr := h.lay.row b hb
  have hnd := (h.lay.chn b hb).ch.nd
  have h3 : (s.ch b).hs = (rowV b L).map fun x => hd x.id := by
    have : (s.ch b).row.map (·.1) = (s.ch b).hs := by simp [ChS.row, Function.comp_def]
    rw [← this, hr]
    simp [rowsOf, Function.comp_def]
  rw [h3] at hnd
  rw [nodup_inj hnd x hx y hy e]
/-- Where there is a voter its bag has a row, and its handle is one of that row's. -/
theorem Vg.bag (h : Vg base w s hd T L G) {i : Int} {x : Vt} (hx : fnd L i = some x) : x.bag < s.nb ∧ hd i ∈ (s.ch x.bag).hs ∧ s.nb = T.length + 1 ∧ ∃ m, s.m = some m := by
  obtain ⟨h1, h2⟩ := fnd_some hx
  have hne : L ≠ [] := fun e2 => by rw [e2] at h1; cases h1
  have hnb : s.nb = T.length + 1 ∧ ∃ k, s.m = some k := by
    rcases h.ful with ⟨_, _, h0⟩ | h1
    · exact absurd h0 hne
    · exact h1
  have hb : x.bag < s.nb := by
    have := h.ok.bnd x h1
    omega
  refine ⟨hb, ?_, hnb⟩
  have hr := h.lay.row x.bag hb
  have : (hd i, i) ∈ (s.ch x.bag).row := by
    rw [hr]
    exact List.mem_map.2 ⟨x, List.mem_filter.2 ⟨h1, by simp⟩, by rw [h2]⟩
  obtain ⟨y, hy, e⟩ := List.mem_map.1 this
  injection e with e1 e2
  exact e1 ▸ hy
theorem Vg.vl (h : Vg base w s hd T L G) {i : Int} {x : Vt} (hx : fnd L i = some x) : (s.ch x.bag).vl (hd i) = i := by
  obtain ⟨hb, hm, _⟩ := h.bag hx
  obtain ⟨h1, h2⟩ := fnd_some hx
  have hr := h.lay.row x.bag hb
  have h3 : (hd i, (s.ch x.bag).vl (hd i)) ∈ rowsOf hd L x.bag := by
    rw [← hr]; exact List.mem_map.2 ⟨_, hm, rfl⟩
  obtain ⟨y, hy, e⟩ := List.mem_map.1 h3
  injection e with e1 e2
  have := h.inj x.bag y hy x (List.mem_filter.2 ⟨h1, by simp⟩) (by rw [e1, h2])
  rw [← e2, this, h2]
end
end Go.Proofs.Ytblclpagfbpamaa
