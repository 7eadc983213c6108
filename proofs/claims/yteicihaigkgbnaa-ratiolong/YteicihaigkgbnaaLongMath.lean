/-
  Plain mathematics of the number that RatioLong makes: limbs that are all ones but the least, which is odd. No program is in sight here; no conditions but those that each theorem names.
-/
import Derived.Test.YteicihaigkgbnaaRatMath
import Derived.Laws.BitsAllLaws
import Derived.Deep.LoopGhost
namespace Go.Proofs.Yteicihaigkgbnaa
open Go.RowKit

/-- i limbs of ones, then zeros: k limbs in all. -/
def fil (k i : Nat) : List Nat := List.replicate i 4294967295 ++ zeros (k - i)
theorem fil_len {k i : Nat} (h : i ≤ k) : (fil k i).length = k := by unfold fil; rw [List.length_append, List.length_replicate, zeros_len]; omega
theorem fil_zero (k : Nat) : fil k 0 = zeros k := by unfold fil; simp
theorem fil_lim (k i : Nat) : Lim (fil k i) := fun x hx => by
  unfold fil zeros at hx
  rw [List.mem_append, List.mem_replicate, List.mem_replicate] at hx
  omega
theorem fil_set {k i : Nat} (h : i < k) : (fil k i).set i 4294967295 = fil k (i + 1) := by
  refine ext_el (by rw [List.length_set, fil_len (by omega), fil_len (by omega)]) fun j hj => ?_
  rw [List.length_set, fil_len (by omega)] at hj
  have hel : ∀ m, m ≤ k → el (fil k m) j = if j < m then 4294967295 else 0 := fun m hm => by
    unfold fil
    split
    · rw [el_append_left _ _ _ (by rw [List.length_replicate]; assumption), el_get _ _ (by rw [List.length_replicate]; assumption)]; simp
    · rw [el_append_right _ _ _ (by rw [List.length_replicate]; omega)]; unfold zeros; rw [el_replicate]
  by_cases e : i = j
  · subst e
    rw [el_set_same _ _ _ (by rw [fil_len (by omega)]; exact h), hel _ (by omega), if_pos (by omega)]
  · rw [el_set_other _ _ _ _ e, hel _ (by omega), hel _ (by omega)]
    by_cases h1 : j < i
    · rw [if_pos h1, if_pos (by omega)]
    · rw [if_neg h1, if_neg (by omega)]
/-- The number's limbs. -/
def big (k v : Nat) : List Nat := v :: List.replicate (k - 1) 4294967295
theorem fil_big {k v : Nat} (h : 0 < k) : (fil k k).set 0 v = big k v := by
  unfold fil big zeros
  obtain ⟨j, rfl⟩ : ∃ j, k = j + 1 := ⟨k - 1, by omega⟩
  simp [List.replicate_succ]
theorem big_len {k v : Nat} (h : 0 < k) : (big k v).length = k := by unfold big; rw [List.length_cons, List.length_replicate]; omega
theorem big_lim {k v : Nat} (hv : v < 4294967296) : Lim (big k v) := by
  refine Lim_cons hv fun x hx => ?_
  rw [(List.mem_replicate.1 hx).2]; omega
theorem val_ones (m : Nat) : val (List.replicate m 4294967295) + 1 = pw m := by
  induction m with
  | zero => rfl
  | succ m ih => rw [List.replicate_succ, val, pw_succ]; omega
theorem val_big {k v : Nat} (h : 0 < k) : val (big k v) + 4294967296 = v + pw k := by
  obtain ⟨j, rfl⟩ : ∃ j, k = j + 1 := ⟨k - 1, by omega⟩
  have := val_ones j
  unfold big
  rw [val, pw_succ, Nat.add_sub_cancel]
  omega
theorem big_nrm {k v : Nat} (h : 1 < k) : Nrm (big k v) := by
  right
  rw [big_len (by omega)]
  obtain ⟨j, rfl⟩ : ∃ j, k = j + 2 := ⟨k - 2, by omega⟩
  unfold big
  show el (v :: List.replicate (j + 1) 4294967295) (j + 1) ≠ 0
  rw [el_cons_succ, el_get _ _ (by rw [List.length_replicate]; omega)]
  simp
theorem digs_big {k v : Nat} (h : 1 < k) (hv : v < 4294967296) : digs (val (big k v)) = big k v := digs_val (big_lim hv) (big_nrm h)
theorem or_odd (x : Nat) : (x ||| 1) % 2 = 1 := by simp
theorem or_lt {x : Nat} (h : x < 4294967296) : (x ||| 1) < 4294967296 := Nat.or_lt_two_pow (n := 32) h (by omega)
theorem big_odd {k v : Nat} (hv : v % 2 = 1) : val (big k v) % 2 = 1 := by unfold big; rw [val]; omega
theorem gcd_odd_two {M : Nat} (h : M % 2 = 1) : Nat.gcd M 2 = 1 := by
  rw [Nat.gcd_comm, Nat.gcd_rec, h]; rfl
/-- The square has twice as many limbs. -/
theorem big_sq {k v M : Nat} (h : 2 < k) (hM : val (big k v) = M) : 2 * k ≤ (digs (M * M)).length := by
  rcases Nat.lt_or_ge (digs (M * M)).length (2 * k) with hlt | hge
  · exfalso
    have h1 : M * M < pw (2 * k - 1) := (len_digs_iff _ _).1 (by omega)
    have h2 := val_big (k := k) (v := v) (by omega)
    rw [hM] at h2
    obtain ⟨j, rfl⟩ : ∃ j, k = j + 3 := ⟨k - 3, by omega⟩
    have e1 : pw (j + 3) = 4294967296 * pw (j + 2) := rfl
    have e2 : pw (j + 2) = 4294967296 * pw (j + 1) := rfl
    have e4 := pw_pos (j + 1)
    have h3 : pw (j + 2) * 2 ≤ M := by omega
    have e5 : pw (2 * (j + 3) - 1) = 4294967296 * (pw (j + 2) * pw (j + 2)) := by
      rw [show 2 * (j + 3) - 1 = (j + 2) + (j + 2) + 1 by omega, pw_succ, pw_add]
    have h4 : M ≥ 65536 * pw (j + 2) := by omega
    have h5 : (65536 * pw (j + 2)) * (65536 * pw (j + 2)) ≤ M * M := Nat.mul_le_mul h4 h4
    have h6 : (65536 * pw (j + 2)) * (65536 * pw (j + 2)) = 4294967296 * (pw (j + 2) * pw (j + 2)) := by grind
    omega
  · exact hge
theorem big_pos {k v M : Nat} (h : 2 < k) (hM : val (big k v) = M) : 4 < M := by
  have h2 := val_big (k := k) (v := v) (by omega)
  obtain ⟨j, rfl⟩ : ∃ j, k = j + 3 := ⟨k - 3, by omega⟩
  have e1 : pw (j + 3) = 4294967296 * pw (j + 2) := rfl
  have e2 : pw (j + 2) = 4294967296 * pw (j + 1) := rfl
  have e4 := pw_pos (j + 1)
  omega
end Go.Proofs.Yteicihaigkgbnaa
