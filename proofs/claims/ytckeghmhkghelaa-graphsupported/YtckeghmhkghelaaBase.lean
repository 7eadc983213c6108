/-
  Plain mathematics of naturals as lists of limbs below 2^32, the least one first: the value of a list, the list of a number, and that trimming a list gives the list of its value. No program is in sight here; no conditions but those that each theorem names.
-/
namespace Go.Proofs.Ytckeghmhkghelaa

/-- The limb at place j, or 0. -/
def el (xs : List Nat) (j : Nat) : Nat := xs.getD j 0
/-- 2^(32 k). -/
def pw : Nat → Nat
  | 0 => 1
  | k + 1 => 4294967296 * pw k
/-- The number that a list of limbs stands for. -/
def val : List Nat → Nat
  | [] => 0
  | x :: xs => x + 4294967296 * val xs
/-- Each limb is below 2^32. -/
def Lim (xs : List Nat) : Prop := ∀ x ∈ xs, x < 4294967296
/-- The last limb is not 0. -/
def Nrm (xs : List Nat) : Prop := xs = [] ∨ el xs (xs.length - 1) ≠ 0
/-- The limbs of a number. -/
def digs (n : Nat) : List Nat := if h : n = 0 then [] else n % 4294967296 :: digs (n / 4294967296)
termination_by n
decreasing_by omega

theorem el_cons_zero (x : Nat) (xs : List Nat) : el (x :: xs) 0 = x := rfl
theorem el_cons_succ (x : Nat) (xs : List Nat) (j : Nat) : el (x :: xs) (j + 1) = el xs j := rfl
theorem el_nil (j : Nat) : el [] j = 0 := rfl
theorem el_ge (xs : List Nat) (j : Nat) (h : xs.length ≤ j) : el xs j = 0 := by
  unfold el; rw [List.getD_eq_getElem?_getD, List.getElem?_eq_none h]; rfl
theorem el_get (xs : List Nat) (j : Nat) (h : j < xs.length) : el xs j = xs[j] := by
  unfold el; rw [List.getD_eq_getElem?_getD, List.getElem?_eq_getElem h]; rfl
theorem el_lt {xs : List Nat} (h : Lim xs) (j : Nat) : el xs j < 4294967296 := by
  rcases Nat.lt_or_ge j xs.length with hj | hj
  · rw [el_get xs j hj]; exact h _ (List.getElem_mem hj)
  · rw [el_ge xs j hj]; omega
theorem el_take (xs : List Nat) (k j : Nat) (h : j < k) : el (xs.take k) j = el xs j := by
  unfold el; rw [List.getD_eq_getElem?_getD, List.getD_eq_getElem?_getD, List.getElem?_take]; simp [h]
theorem el_drop (xs : List Nat) (k j : Nat) : el (xs.drop k) j = el xs (k + j) := by
  unfold el; rw [List.getD_eq_getElem?_getD, List.getD_eq_getElem?_getD, List.getElem?_drop]
theorem el_set_same (xs : List Nat) (i x : Nat) (h : i < xs.length) : el (xs.set i x) i = x := by
  rw [el_get _ _ (by simpa using h)]; simp
theorem el_set_other (xs : List Nat) (i j x : Nat) (h : i ≠ j) : el (xs.set i x) j = el xs j := by
  unfold el; rw [List.getD_eq_getElem?_getD, List.getD_eq_getElem?_getD, List.getElem?_set]; simp [h]
theorem el_replicate (n j : Nat) : el (List.replicate n 0) j = 0 := by
  unfold el; rw [List.getD_eq_getElem?_getD, List.getElem?_replicate]; split <;> rfl
theorem el_append_left (xs ys : List Nat) (j : Nat) (h : j < xs.length) : el (xs ++ ys) j = el xs j := by
  unfold el; rw [List.getD_eq_getElem?_getD, List.getD_eq_getElem?_getD, List.getElem?_append_left h]
theorem el_append_right (xs ys : List Nat) (j : Nat) (h : xs.length ≤ j) : el (xs ++ ys) j = el ys (j - xs.length) := by
  unfold el; rw [List.getD_eq_getElem?_getD, List.getD_eq_getElem?_getD, List.getElem?_append_right h]
theorem ext_el {xs ys : List Nat} (hl : xs.length = ys.length) (h : ∀ j, j < xs.length → el xs j = el ys j) : xs = ys := by
  refine List.ext_getElem hl fun j h1 h2 => ?_
  have := h j h1
  rwa [el_get xs j h1, el_get ys j h2] at this

theorem Lim_nil : Lim [] := fun _ h => by cases h
theorem Lim_cons {x : Nat} {xs : List Nat} (h : x < 4294967296) (hs : Lim xs) : Lim (x :: xs) := fun y hy => by
  rcases List.mem_cons.1 hy with rfl | hy
  · exact h
  · exact hs y hy
theorem Lim_head {x : Nat} {xs : List Nat} (h : Lim (x :: xs)) : x < 4294967296 := h x (List.mem_cons_self ..)
theorem Lim_tail {x : Nat} {xs : List Nat} (h : Lim (x :: xs)) : Lim xs := fun y hy => h y (List.mem_cons_of_mem _ hy)
theorem Lim_take {xs : List Nat} (h : Lim xs) (k : Nat) : Lim (xs.take k) := fun x hx => h x (List.mem_of_mem_take hx)
theorem Lim_drop {xs : List Nat} (h : Lim xs) (k : Nat) : Lim (xs.drop k) := fun x hx => h x (List.mem_of_mem_drop hx)
theorem Lim_append {xs ys : List Nat} (h : Lim xs) (k : Lim ys) : Lim (xs ++ ys) := fun x hx => by
  rcases List.mem_append.1 hx with hx | hx
  · exact h x hx
  · exact k x hx
theorem Lim_set {xs : List Nat} (h : Lim xs) (i x : Nat) (hx : x < 4294967296) : Lim (xs.set i x) := fun y hy => by
  rcases List.mem_or_eq_of_mem_set hy with hy | rfl
  · exact h y hy
  · exact hx
theorem Lim_replicate (n : Nat) : Lim (List.replicate n 0) := fun x hx => by
  rw [(List.mem_replicate.1 hx).2]; omega

theorem pw_pos (k : Nat) : 0 < pw k := by
  induction k with
  | zero => decide
  | succ k ih => unfold pw; omega
theorem pw_succ (k : Nat) : pw (k + 1) = 4294967296 * pw k := rfl
theorem pw_add (i j : Nat) : pw (i + j) = pw i * pw j := by
  induction i with
  | zero => simp [pw]
  | succ i ih => rw [Nat.succ_add, pw_succ, pw_succ, ih, Nat.mul_assoc]
theorem pw_le {i j : Nat} (h : i ≤ j) : pw i ≤ pw j := by
  obtain ⟨d, rfl⟩ := Nat.le.dest h
  rw [pw_add]; exact Nat.le_mul_of_pos_right _ (pw_pos d)
theorem pw_two (k : Nat) : pw k = 2 ^ (32 * k) := by
  induction k with
  | zero => rfl
  | succ k ih => rw [pw_succ, ih, Nat.mul_add, Nat.pow_add]; omega

theorem val_append (xs ys : List Nat) : val (xs ++ ys) = val xs + pw xs.length * val ys := by
  induction xs with
  | nil => simp [val, pw]
  | cons x xs ih =>
    simp only [List.cons_append, val, List.length_cons, pw_succ, ih, Nat.mul_add, Nat.mul_assoc]; omega
theorem val_lt {xs : List Nat} (h : Lim xs) : val xs < pw xs.length := by
  induction xs with
  | nil => decide
  | cons x xs ih =>
    have h1 := ih (Lim_tail h)
    have h2 := Lim_head h
    simp only [val, List.length_cons, pw_succ]; omega
theorem val_replicate (n : Nat) : val (List.replicate n 0) = 0 := by
  induction n with
  | zero => rfl
  | succ n ih => simp [List.replicate_succ, val, ih]
theorem val_take_succ (xs : List Nat) (k : Nat) (h : k < xs.length) : val (xs.take (k + 1)) = val (xs.take k) + pw k * el xs k := by
  rw [List.take_succ_eq_append_getElem h, val_append, el_get xs k h]
  simp [val, List.length_take, Nat.min_eq_left (Nat.le_of_lt h)]
theorem val_take_drop (xs : List Nat) (k : Nat) (h : k ≤ xs.length) : val xs = val (xs.take k) + pw k * val (xs.drop k) := by
  have := val_append (xs.take k) (xs.drop k)
  rwa [List.take_append_drop, List.length_take, Nat.min_eq_left h] at this
theorem val_drop (xs : List Nat) (k : Nat) (h : k < xs.length) : val (xs.drop k) = el xs k + 4294967296 * val (xs.drop (k + 1)) := by
  rw [List.drop_eq_getElem_cons h, el_get xs k h]; rfl
theorem val_take_ge (xs : List Nat) (k : Nat) (h : xs.length ≤ k) : val (xs.take k) = val xs := by rw [List.take_of_length_le h]

/-- So many zeros. -/
def zeros (n : Nat) : List Nat := List.replicate n 0
theorem zeros_len (n : Nat) : (zeros n).length = n := by simp [zeros]
theorem val_zeros_ (n : Nat) : val (zeros n) = 0 := val_replicate n
theorem Lim_zeros (n : Nat) : Lim (zeros n) := Lim_replicate n
theorem el_zeros (n j : Nat) : el (zeros n) j = 0 := el_replicate n j
theorem val_take_step (xs : List Nat) (k : Nat) : val (xs.take (k + 1)) = val (xs.take k) + pw k * el xs k := by
  rcases Nat.lt_or_ge k xs.length with h | h
  · exact val_take_succ xs k h
  · rw [el_ge xs k h, val_take_ge xs (k + 1) (by omega), val_take_ge xs k h]; omega
theorem take_set (xs : List Nat) (k x : Nat) : (xs.set k x).take k = xs.take k := by
  apply ext_el
  · simp
  · intro j hj
    simp only [List.length_take, List.length_set] at hj
    rw [el_take _ _ _ (by omega), el_take _ _ _ (by omega), el_set_other _ _ _ _ (by omega)]
theorem val_take_set (xs : List Nat) (k x : Nat) (h : k < xs.length) : val ((xs.set k x).take (k + 1)) = val (xs.take k) + pw k * x := by
  rw [val_take_step, take_set, el_set_same _ _ _ h]
/-- A limb is laid at place k, what is above it is carried. -/
theorem carry_step (rs : List Nat) (k s : Nat) (h : k < rs.length) : val ((rs.set k (s % 4294967296)).take (k + 1)) + pw (k + 1) * (s / 4294967296) = val (rs.take k) + pw k * s := by
  rw [val_take_set rs k _ h, pw_succ, Nat.mul_comm 4294967296, Nat.mul_assoc, Nat.add_assoc, ← Nat.mul_add]
  congr 2; omega

theorem digs_zero : digs 0 = [] := by unfold digs; simp
theorem digs_pos {n : Nat} (h : n ≠ 0) : digs n = n % 4294967296 :: digs (n / 4294967296) := by rw [digs]; simp [h]
theorem val_digs (n : Nat) : val (digs n) = n := by
  induction n using Nat.strongRecOn with
  | _ n ih =>
    by_cases h : n = 0
    · subst h; rw [digs_zero]; rfl
    · rw [digs_pos h]; simp only [val]; rw [ih _ (by omega)]; omega
theorem Lim_digs (n : Nat) : Lim (digs n) := by
  induction n using Nat.strongRecOn with
  | _ n ih =>
    by_cases h : n = 0
    · subst h; rw [digs_zero]; exact Lim_nil
    · rw [digs_pos h]; exact Lim_cons (by omega) (ih _ (by omega))
theorem digs_ne {n : Nat} (h : n ≠ 0) : digs n ≠ [] := by rw [digs_pos h]; simp
theorem Nrm_cons {x : Nat} {xs : List Nat} (h : Nrm xs) (hx : xs = [] → x ≠ 0) : Nrm (x :: xs) := by
  right
  rcases h with h | h
  · subst h; exact hx rfl
  · cases xs with
    | nil => exact hx rfl
    | cons y ys => simpa [el_cons_succ] using h
theorem Nrm_tail {x : Nat} {xs : List Nat} (h : Nrm (x :: xs)) : Nrm xs := by
  rcases h with h | h
  · cases h
  · cases xs with
    | nil => left; rfl
    | cons y ys => right; simpa [el_cons_succ] using h
theorem Nrm_digs (n : Nat) : Nrm (digs n) := by
  induction n using Nat.strongRecOn with
  | _ n ih =>
    by_cases h : n = 0
    · subst h; rw [digs_zero]; left; rfl
    · rw [digs_pos h]
      refine Nrm_cons (ih _ (by omega)) fun e => ?_
      have : n / 4294967296 = 0 := by
        rcases Nat.eq_zero_or_pos (n / 4294967296) with h0 | h0
        · exact h0
        · exact absurd e (digs_ne (by omega))
      omega
theorem digs_cons {x m : Nat} (hx : x < 4294967296) (h : m = 0 → x ≠ 0) : digs (x + 4294967296 * m) = x :: digs m := by
  have hne : x + 4294967296 * m ≠ 0 := by
    rcases Nat.eq_zero_or_pos m with h0 | h0
    · have := h h0; omega
    · omega
  rw [digs_pos hne]
  congr 1
  · omega
  · congr 1; omega
theorem val_eq_zero {xs : List Nat} (h : val xs = 0) (hn : Nrm xs) : xs = [] := by
  induction xs with
  | nil => rfl
  | cons x xs ih =>
    simp only [val] at h
    have h1 := ih (by omega) (Nrm_tail hn)
    subst h1
    rcases hn with hn | hn
    · exact hn
    · exact absurd (show x = 0 by omega) hn
theorem digs_val {xs : List Nat} (h : Lim xs) (hn : Nrm xs) : digs (val xs) = xs := by
  induction xs with
  | nil => exact digs_zero
  | cons x xs ih =>
    simp only [val]
    rw [digs_cons (Lim_head h), ih (Lim_tail h) (Nrm_tail hn)]
    intro h0
    have := val_eq_zero h0 (Nrm_tail hn)
    subst this
    rcases hn with hn | hn
    · cases hn
    · exact hn
theorem Nrm_take {xs : List Nat} {k : Nat} (hk : k ≤ xs.length) (h : k = 0 ∨ el xs (k - 1) ≠ 0) : Nrm (xs.take k) := by
  rcases h with h | h
  · subst h; left; simp
  · rcases Nat.eq_zero_or_pos k with h0 | h0
    · subst h0; left; simp
    · right
      rw [List.length_take, Nat.min_eq_left hk, el_take _ _ _ (by omega)]; exact h
theorem val_zeros (xs : List Nat) (h : ∀ j, el xs j = 0) : val xs = 0 := by
  induction xs with
  | nil => rfl
  | cons x xs ih =>
    have h0 : x = 0 := h 0
    have h1 := ih fun j => h (j + 1)
    simp only [val]; omega
/-- What trimming leaves is the list of the value. -/
theorem take_trim {xs : List Nat} (hl : Lim xs) {k : Nat} (hk : k ≤ xs.length) (hz : ∀ j, k ≤ j → el xs j = 0) (h : k = 0 ∨ el xs (k - 1) ≠ 0) : xs.take k = digs (val xs) := by
  rw [val_take_drop xs k hk, val_zeros (xs.drop k) fun j => by rw [el_drop]; exact hz _ (by omega), Nat.mul_zero, Nat.add_zero]
  exact (digs_val (Lim_take hl k) (Nrm_take hk h)).symm
theorem Nrm_iff_digs {xs : List Nat} (h : Lim xs) : Nrm xs ↔ digs (val xs) = xs := ⟨digs_val h, fun e => e ▸ Nrm_digs _⟩

theorem len_digs_lt {n k : Nat} (h : n < pw k) : (digs n).length ≤ k := by
  induction k generalizing n with
  | zero =>
    have : n = 0 := by simp only [pw] at h; omega
    subst this; rw [digs_zero]; simp
  | succ k ih =>
    by_cases h0 : n = 0
    · subst h0; rw [digs_zero]; simp
    · rw [digs_pos h0, List.length_cons]
      have := ih (n := n / 4294967296) (by rw [pw_succ] at h; omega)
      omega
theorem lt_pw_len (n : Nat) : n < pw (digs n).length := by
  have := val_lt (Lim_digs n); rwa [val_digs] at this
theorem len_digs_iff (n k : Nat) : (digs n).length ≤ k ↔ n < pw k := ⟨fun h => Nat.lt_of_lt_of_le (lt_pw_len n) (pw_le h), len_digs_lt⟩
theorem len_digs_mono {m n : Nat} (h : m ≤ n) : (digs m).length ≤ (digs n).length := (len_digs_iff _ _).2 (Nat.lt_of_le_of_lt h (lt_pw_len n))
theorem digs_inj {m n : Nat} (h : digs m = digs n) : m = n := by rw [← val_digs m, h, val_digs]
theorem len_digs_eq_zero {n : Nat} : (digs n).length = 0 ↔ n = 0 := by
  constructor
  · intro h
    have h1 := lt_pw_len n
    rw [h] at h1; simp only [pw] at h1; omega
  · intro h; subst h; rw [digs_zero]; rfl
/-- Of two naturals the one with more limbs is greater. -/
theorem val_lt_of_len {xs ys : List Nat} (hx : Lim xs) (hy : Lim ys) (ny : Nrm ys) (h : xs.length < ys.length) : val xs < val ys := by
  have e := digs_val hy ny
  rcases Nat.lt_or_ge (val xs) (val ys) with h1 | h1
  · exact h1
  · have h2 := len_digs_mono h1
    rw [e] at h2
    have h3 := len_digs_lt (val_lt hx)
    omega
/-- Of two lists alike from place i + 1 on the one that is less at place i is less. -/
theorem val_lt_at {xs ys : List Nat} (hx : Lim xs) (hl : xs.length = ys.length) {i : Nat} (hi : i < xs.length) (he : xs.drop (i + 1) = ys.drop (i + 1)) (h : el xs i < el ys i) : val xs < val ys := by
  rw [val_take_drop xs (i + 1) (by omega), val_take_drop ys (i + 1) (by omega), he, val_take_succ xs i hi, val_take_succ ys i (by omega)]
  have h1 := val_lt (Lim_take hx i)
  rw [List.length_take, Nat.min_eq_left (by omega)] at h1
  have h2 : pw i * (el xs i + 1) ≤ pw i * el ys i := Nat.mul_le_mul_left _ (by omega)
  rw [Nat.mul_add] at h2
  omega
theorem drop_eq_step {xs ys : List Nat} (hl : xs.length = ys.length) {i : Nat} (hi : i < xs.length) (he : xs.drop (i + 1) = ys.drop (i + 1)) (h : el xs i = el ys i) : xs.drop i = ys.drop i := by
  rw [List.drop_eq_getElem_cons hi, List.drop_eq_getElem_cons (show i < ys.length by omega), he, ← el_get xs i hi, ← el_get ys i (by omega), h]
end Go.Proofs.Ytckeghmhkghelaa
