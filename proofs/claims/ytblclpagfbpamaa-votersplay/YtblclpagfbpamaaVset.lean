/-
  What moving each voter makes of voters, and a row of numbers of the call's own. The conditions stand in each theorem.
-/
import Derived.Test.YtblclpagfbpamaaVtake
import Derived.Test.YtblclpagfbpamaaVwake
import Derived.Test.YtblclpagfbpamaaVargs
namespace Go.Proofs.Ytblclpagfbpamaa
open Go.RowKit
set_option linter.unusedVariables false

/-- Each one of these numbers lies where it belongs. -/
def Setd (T : List Nat) (L : List Vt) (D : List Int) : Prop := ∀ x ∈ L, x.id ∈ D → x.bag = bagN T x.st
theorem rebM_perm {T : List Nat} {L : List Vt} (h : VOk T.length L) (i : Int) : ((rebM T L i).1.map Vt.id).Perm (L.map Vt.id) := by
  unfold rebM
  cases hf : fnd L i with
  | none => exact List.Perm.refl _
  | some x =>
    obtain ⟨h1, h2⟩ := fnd_some hf
    subst h2
    dsimp only
    split
    · exact List.Perm.refl _
    · refine ((lastV_perm _ _).map Vt.id).trans ?_
      exact (((delV_perm h.nd h1).map Vt.id).symm)
theorem rebM_len {T : List Nat} {L : List Vt} (h : VOk T.length L) (i : Int) : (rebM T L i).1.length = L.length := by
  have := (rebM_perm h i).length_eq
  simpa using this
theorem rebM_setd {T : List Nat} {L : List Vt} (h : VOk T.length L) {D : List Int} (hd : Setd T L D) (i : Int) : Setd T (rebM T L i).1 (i :: D) := by
  unfold rebM
  cases hf : fnd L i with
  | none =>
    intro x hx hi
    rcases List.mem_cons.1 hi with hi | hi
    · exact absurd hi (fnd_none hf x hx)
    · exact hd x hx hi
  | some y =>
    obtain ⟨h1, h2⟩ := fnd_some hf
    dsimp only
    split
    · rename_i hb
      intro x hx hi
      rcases List.mem_cons.1 hi with hi | hi
      · have := fnd_eq h.nd hx
        rw [hi, hf] at this
        injection this with this
        rw [← this]; exact hb
      · exact hd x hx hi
    · intro x hx hi
      rcases List.mem_cons.1 ((lastV_perm _ _).mem_iff.1 hx) with rfl | hx
      · rfl
      · obtain ⟨hx1, hx2⟩ := delV_mem.1 hx
        rcases List.mem_cons.1 hi with hi | hi
        · exact absurd hi hx2
        · exact hd x hx1 hi
theorem insM_len {T : List Nat} {L : List Vt} (i : Int) (s : Nat) : (insM T L i s).1.length ≤ L.length + 1 := by
  unfold insM
  cases hf : fnd L i with
  | some x => simp
  | none => simp [(lastV_perm _ L).length_eq]
theorem remM_len {L : List Vt} (i : Int) : (remM L i).1.length ≤ L.length := by
  unfold remM
  cases hf : fnd L i with
  | some x => exact List.length_filter_le _ _
  | none => exact Nat.le_refl _
theorem updM_len {L : List Vt} (i : Int) (s : Nat) : (updM L i s).1.length = L.length := by
  unfold updM
  cases hf : fnd L i with
  | some x => exact updV_len _ _ _
  | none => rfl
theorem froM_len {L : List Vt} (i o : Int) : (froM L i o).1.length ≤ L.length + 1 := by
  unfold froM
  cases hf : fnd L i with
  | none => simp
  | some x =>
    cases hg : fnd L o with
    | none => simp
    | some y =>
      dsimp only
      split
      · simp
      · rw [(insV_perm _ _ _).length_eq, List.length_cons]
        have : (delV i L).length ≤ L.length := List.length_filter_le _ _
        omega
theorem froM_len2 {N : Nat} {L : List Vt} (h : VOk N L) (i o : Int) : (froM L i o).1.length = L.length := by
  unfold froM
  cases hf : fnd L i with
  | none => rfl
  | some x =>
    cases hg : fnd L o with
    | none => rfl
    | some y =>
      obtain ⟨h1, h2⟩ := fnd_some hf
      subst h2
      dsimp only
      split
      · rfl
      · rw [(insV_perm _ _ _).length_eq, List.length_cons]
        have := (delV_perm h.nd h1).length_eq
        simp at this
        omega

/-- A row of numbers of the call's own. -/
def Ir (w : World) (base : Nat) (A : Option Addr) (n c : Nat) (ids : List Int) : Prop := w.ownsRow base 3 1 (.slice A n c) n (ics ids) ∧ ids.length = n
theorem Ir.tw {w w' : World} {base : Nat} {A : Option Addr} {n c : Nat} {ids : List Int} (h : Ir w base A n c ids) (ht : Tw isV w w') : Ir w' base A n c ids :=
  ⟨own_keep h.1 (fun g hg => by
    obtain ⟨cur, hk⟩ := own_kb h.1 hg
    refine ht.block g hk.lt (fun hv => ?_)
    rcases (KB.isV_iff hk).1 hv with h | h | h | h <;> cases h), h.2⟩
theorem Ir.at_ {w : World} {base : Nat} {A : Option Addr} {n c : Nat} {ids : List Int} (h : Ir w base A n c ids) {i : Nat} (hi : i < n) : ∃ g x, A = some ⟨g, 0, none⟩ ∧ n ≤ c ∧ c ≤ maxLen ∧ ids[i]? = some x ∧ w.cell? ⟨g, i, none⟩ = some (.int .i64 x) := by
  obtain ⟨h1, h2⟩ := h
  rcases own_forms h1 with ⟨_, h0, _⟩ | ⟨g, cap, hv, _, hc, hm, _, cur, hcur, hz, hcs⟩
  · omega
  · cases hv
    obtain ⟨x, hx⟩ : ∃ x, ids[i]? = some x := ⟨_, List.getElem?_eq_getElem (by omega)⟩
    refine ⟨g, x, rfl, hc, hm, hx, ?_⟩
    rw [(show KB w g _ cur from hcur).cell i]
    have h3 : (cur.toList.take (n * 1))[i]? = some (.int .i64 x) := by rw [hcs]; simp [ics, hx]
    rw [List.getElem?_take_of_lt (by omega)] at h3
    simpa using h3
theorem bagA_eq {N : Nat} {L : List Vt} (h : VOk N L) {x : Vt} (hx : x ∈ L) : bagA L x.id = x.bag := by unfold bagA; rw [fnd_eq h.nd hx]; rfl
theorem stA_eq {N : Nat} {L : List Vt} (h : VOk N L) {x : Vt} (hx : x ∈ L) : stA L x.id = x.st := by unfold stA; rw [fnd_eq h.nd hx]; rfl
theorem hasA_eq {N : Nat} {L : List Vt} (h : VOk N L) {x : Vt} (hx : x ∈ L) : hasA L x.id = true := by unfold hasA; rw [fnd_eq h.nd hx]; rfl
theorem rebM_set {T : List Nat} {L : List Vt} (h : VOk T.length L) {x : Vt} (hx : x ∈ L) (hb : x.bag = bagN T x.st) : rebM T L x.id = (L, 10) := by
  unfold rebM; rw [fnd_eq h.nd hx]; dsimp only; rw [if_pos hb]
end Go.Proofs.Ytblclpagfbpamaa
