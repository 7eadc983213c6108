/-
  Plain mathematics of naturals as lists of limbs below 2^32, the least one first: the value of a list, the list of a number, and that trimming a list gives the list of its value. No program is in sight here; no conditions but those that each theorem names.
  Plain mathematics of the bytes of a number (one, two, four, or a byte and four to eight): the bytes, their number, and that they are read back. No program is in sight here; no conditions but those that each theorem names.
-/
section
namespace Go.Proofs.YtehekjlakegkpaaGreat

/-- The limb at place j, or 0. -/
def el (xs : List Nat) (j : Nat) : Nat := xs.getD j 0
/-- 2^(32 k). -/
def pw : Nat → Nat
  | 0 => 1
  | k + 1 => 4294967296 * pw k
/-- The number that a list of limbs stands for. -/
def val : List Nat → Nat
  | [] => 0
  | x :: xs => x + 4294967296 * val xs
/-- Each limb is below 2^32. -/
def Lim (xs : List Nat) : Prop := ∀ x ∈ xs, x < 4294967296
/-- The last limb is not 0. -/
def Nrm (xs : List Nat) : Prop := xs = [] ∨ el xs (xs.length - 1) ≠ 0
/-- The limbs of a number. -/
def digs (n : Nat) : List Nat := if h : n = 0 then [] else n % 4294967296 :: digs (n / 4294967296)
termination_by n
decreasing_by omega

theorem el_cons_zero (x : Nat) (xs : List Nat) : el (x :: xs) 0 = x := rfl
theorem el_cons_succ (x : Nat) (xs : List Nat) (j : Nat) : el (x :: xs) (j + 1) = el xs j := rfl
theorem el_nil (j : Nat) : el [] j = 0 := rfl
theorem el_ge (xs : List Nat) (j : Nat) (h : xs.length ≤ j) : el xs j = 0 := by
  unfold el; rw [List.getD_eq_getElem?_getD, List.getElem?_eq_none h]; rfl
theorem el_get (xs : List Nat) (j : Nat) (h : j < xs.length) : el xs j = xs[j] := by
  unfold el; rw [List.getD_eq_getElem?_getD, List.getElem?_eq_getElem h]; rfl
theorem el_lt {xs : List Nat} (h : Lim xs) (j : Nat) : el xs j < 4294967296 := by
  rcases Nat.lt_or_ge j xs.length with hj | hj
  · rw [el_get xs j hj]; exact h _ (List.getElem_mem hj)
  · rw [el_ge xs j hj]; omega
theorem el_take (xs : List Nat) (k j : Nat) (h : j < k) : el (xs.take k) j = el xs j := by
  unfold el; rw [List.getD_eq_getElem?_getD, List.getD_eq_getElem?_getD, List.getElem?_take]; simp [h]
theorem el_drop (xs : List Nat) (k j : Nat) : el (xs.drop k) j = el xs (k + j) := by
  unfold el; rw [List.getD_eq_getElem?_getD, List.getD_eq_getElem?_getD, List.getElem?_drop]
theorem el_set_same (xs : List Nat) (i x : Nat) (h : i < xs.length) : el (xs.set i x) i = x := by
  rw [el_get _ _ (by simpa using h)]; simp
theorem el_set_other (xs : List Nat) (i j x : Nat) (h : i ≠ j) : el (xs.set i x) j = el xs j := by
  unfold el; rw [List.getD_eq_getElem?_getD, List.getD_eq_getElem?_getD, List.getElem?_set]; simp [h]
theorem el_replicate (n j : Nat) : el (List.replicate n 0) j = 0 := by
  unfold el; rw [List.getD_eq_getElem?_getD, List.getElem?_replicate]; split <;> rfl
theorem el_append_left (xs ys : List Nat) (j : Nat) (h : j < xs.length) : el (xs ++ ys) j = el xs j := by
  unfold el; rw [List.getD_eq_getElem?_getD, List.getD_eq_getElem?_getD, List.getElem?_append_left h]
theorem el_append_right (xs ys : List Nat) (j : Nat) (h : xs.length ≤ j) : el (xs ++ ys) j = el ys (j - xs.length) := by
  unfold el; rw [List.getD_eq_getElem?_getD, List.getD_eq_getElem?_getD, List.getElem?_append_right h]
theorem ext_el {xs ys : List Nat} (hl : xs.length = ys.length) (h : ∀ j, j < xs.length → el xs j = el ys j) : xs = ys := by
  refine List.ext_getElem hl fun j h1 h2 => ?_
  have := h j h1
  rwa [el_get xs j h1, el_get ys j h2] at this

theorem Lim_nil : Lim [] := fun _ h => by cases h
theorem Lim_cons {x : Nat} {xs : List Nat} (h : x < 4294967296) (hs : Lim xs) : Lim (x :: xs) := fun y hy => by
  rcases List.mem_cons.1 hy with rfl | hy
  · exact h
  · exact hs y hy
theorem Lim_head {x : Nat} {xs : List Nat} (h : Lim (x :: xs)) : x < 4294967296 := h x (List.mem_cons_self ..)
theorem Lim_tail {x : Nat} {xs : List Nat} (h : Lim (x :: xs)) : Lim xs := fun y hy => h y (List.mem_cons_of_mem _ hy)
theorem Lim_take {xs : List Nat} (h : Lim xs) (k : Nat) : Lim (xs.take k) := fun x hx => h x (List.mem_of_mem_take hx)
theorem Lim_drop {xs : List Nat} (h : Lim xs) (k : Nat) : Lim (xs.drop k) := fun x hx => h x (List.mem_of_mem_drop hx)
theorem Lim_append {xs ys : List Nat} (h : Lim xs) (k : Lim ys) : Lim (xs ++ ys) := fun x hx => by
  rcases List.mem_append.1 hx with hx | hx
  · exact h x hx
  · exact k x hx
theorem Lim_set {xs : List Nat} (h : Lim xs) (i x : Nat) (hx : x < 4294967296) : Lim (xs.set i x) := fun y hy => by
  rcases List.mem_or_eq_of_mem_set hy with hy | rfl
  · exact h y hy
  · exact hx
theorem Lim_replicate (n : Nat) : Lim (List.replicate n 0) := fun x hx => by
  rw [(List.mem_replicate.1 hx).2]; omega

theorem pw_pos (k : Nat) : 0 < pw k := by
  induction k with
  | zero => decide
  | succ k ih => unfold pw; omega
theorem pw_succ (k : Nat) : pw (k + 1) = 4294967296 * pw k := rfl
theorem pw_add (i j : Nat) : pw (i + j) = pw i * pw j := by
  induction i with
  | zero => simp [pw]
  | succ i ih => rw [Nat.succ_add, pw_succ, pw_succ, ih, Nat.mul_assoc]
theorem pw_le {i j : Nat} (h : i ≤ j) : pw i ≤ pw j := by
  obtain ⟨d, rfl⟩ := Nat.le.dest h
  rw [pw_add]; exact Nat.le_mul_of_pos_right _ (pw_pos d)
theorem pw_two (k : Nat) : pw k = 2 ^ (32 * k) := by
  induction k with
  | zero => rfl
  | succ k ih => rw [pw_succ, ih, Nat.mul_add, Nat.pow_add]; omega

theorem val_append (xs ys : List Nat) : val (xs ++ ys) = val xs + pw xs.length * val ys := by
  induction xs with
  | nil => simp [val, pw]
  | cons x xs ih =>
    simp only [List.cons_append, val, List.length_cons, pw_succ, ih, Nat.mul_add, Nat.mul_assoc]; omega
theorem val_lt {xs : List Nat} (h : Lim xs) : val xs < pw xs.length := by
  induction xs with
  | nil => decide
  | cons x xs ih =>
    have h1 := ih (Lim_tail h)
    have h2 := Lim_head h
    simp only [val, List.length_cons, pw_succ]; omega
theorem val_replicate (n : Nat) : val (List.replicate n 0) = 0 := by
  induction n with
  | zero => rfl
  | succ n ih => simp [List.replicate_succ, val, ih]
theorem val_take_succ (xs : List Nat) (k : Nat) (h : k < xs.length) : val (xs.take (k + 1)) = val (xs.take k) + pw k * el xs k := by
  rw [List.take_succ_eq_append_getElem h, val_append, el_get xs k h]
  simp [val, List.length_take, Nat.min_eq_left (Nat.le_of_lt h)]
theorem val_take_drop (xs : List Nat) (k : Nat) (h : k ≤ xs.length) : val xs = val (xs.take k) + pw k * val (xs.drop k) := by
  have := val_append (xs.take k) (xs.drop k)
  rwa [List.take_append_drop, List.length_take, Nat.min_eq_left h] at this
theorem val_drop (xs : List Nat) (k : Nat) (h : k < xs.length) : val (xs.drop k) = el xs k + 4294967296 * val (xs.drop (k + 1)) := by
  rw [List.drop_eq_getElem_cons h, el_get xs k h]; rfl
theorem val_take_ge (xs : List Nat) (k : Nat) (h : xs.length ≤ k) : val (xs.take k) = val xs := by rw [List.take_of_length_le h]

/-- So many zeros. -/
def zeros (n : Nat) : List Nat := List.replicate n 0
theorem zeros_len (n : Nat) : (zeros n).length = n := by simp [zeros]
theorem val_zeros_ (n : Nat) : val (zeros n) = 0 := val_replicate n
theorem Lim_zeros (n : Nat) : Lim (zeros n) := Lim_replicate n
theorem el_zeros (n j : Nat) : el (zeros n) j = 0 := el_replicate n j
theorem val_take_step (xs : List Nat) (k : Nat) : val (xs.take (k + 1)) = val (xs.take k) + pw k * el xs k := by
  rcases Nat.lt_or_ge k xs.length with h | h
  · exact val_take_succ xs k h
  · rw [el_ge xs k h, val_take_ge xs (k + 1) (by omega), val_take_ge xs k h]; omega
theorem take_set (xs : List Nat) (k x : Nat) : (xs.set k x).take k = xs.take k := by
  apply ext_el
  · simp
  · intro j hj
    simp only [List.length_take, List.length_set] at hj
    rw [el_take _ _ _ (by omega), el_take _ _ _ (by omega), el_set_other _ _ _ _ (by omega)]
theorem val_take_set (xs : List Nat) (k x : Nat) (h : k < xs.length) : val ((xs.set k x).take (k + 1)) = val (xs.take k) + pw k * x := by
  rw [val_take_step, take_set, el_set_same _ _ _ h]
/-- A limb is laid at place k, what is above it is carried. -/
theorem carry_step (rs : List Nat) (k s : Nat) (h : k < rs.length) : val ((rs.set k (s % 4294967296)).take (k + 1)) + pw (k + 1) * (s / 4294967296) = val (rs.take k) + pw k * s := by
  rw [val_take_set rs k _ h, pw_succ, Nat.mul_comm 4294967296, Nat.mul_assoc, Nat.add_assoc, ← Nat.mul_add]
  congr 2; omega

theorem digs_zero : digs 0 = [] := by unfold digs; simp
theorem digs_pos {n : Nat} (h : n ≠ 0) : digs n = n % 4294967296 :: digs (n / 4294967296) := by rw [digs]; simp [h]
theorem val_digs (n : Nat) : val (digs n) = n := by
  induction n using Nat.strongRecOn with
  | _ n ih =>
    by_cases h : n = 0
    · subst h; rw [digs_zero]; rfl
    · rw [digs_pos h]; simp only [val]; rw [ih _ (by omega)]; omega
theorem Lim_digs (n : Nat) : Lim (digs n) := by
  induction n using Nat.strongRecOn with
  | _ n ih =>
    by_cases h : n = 0
    · subst h; rw [digs_zero]; exact Lim_nil
    · rw [digs_pos h]; exact Lim_cons (by omega) (ih _ (by omega))
theorem digs_ne {n : Nat} (h : n ≠ 0) : digs n ≠ [] := by rw [digs_pos h]; simp
theorem Nrm_cons {x : Nat} {xs : List Nat} (h : Nrm xs) (hx : xs = [] → x ≠ 0) : Nrm (x :: xs) := by
  right
  rcases h with h | h
  · subst h; exact hx rfl
  · cases xs with
    | nil => exact hx rfl
    | cons y ys => simpa [el_cons_succ] using h
theorem Nrm_tail {x : Nat} {xs : List Nat} (h : Nrm (x :: xs)) : Nrm xs := by
  rcases h with h | h
  · cases h
  · cases xs with
    | nil => left; rfl
    | cons y ys => right; simpa [el_cons_succ] using h
theorem Nrm_digs (n : Nat) : Nrm (digs n) := by
  induction n using Nat.strongRecOn with
  | _ n ih =>
    by_cases h : n = 0
    · subst h; rw [digs_zero]; left; rfl
    · rw [digs_pos h]
      refine Nrm_cons (ih _ (by omega)) fun e => ?_
      have : n / 4294967296 = 0 := by
        rcases Nat.eq_zero_or_pos (n / 4294967296) with h0 | h0
        · exact h0
        · exact absurd e (digs_ne (by omega))
      omega
theorem digs_cons {x m : Nat} (hx : x < 4294967296) (h : m = 0 → x ≠ 0) : digs (x + 4294967296 * m) = x :: digs m := by
  have hne : x + 4294967296 * m ≠ 0 := by
    rcases Nat.eq_zero_or_pos m with h0 | h0
    · have := h h0; omega
    · omega
  rw [digs_pos hne]
  congr 1
  · omega
  · congr 1; omega
theorem val_eq_zero {xs : List Nat} (h : val xs = 0) (hn : Nrm xs) : xs = [] := by
  induction xs with
  | nil => rfl
  | cons x xs ih =>
    simp only [val] at h
    have h1 := ih (by omega) (Nrm_tail hn)
    subst h1
    rcases hn with hn | hn
    · exact hn
    · exact absurd (show x = 0 by omega) hn
theorem digs_val {xs : List Nat} (h : Lim xs) (hn : Nrm xs) : digs (val xs) = xs := by
  induction xs with
  | nil => exact digs_zero
  | cons x xs ih =>
    simp only [val]
    rw [digs_cons (Lim_head h), ih (Lim_tail h) (Nrm_tail hn)]
    intro h0
    have := val_eq_zero h0 (Nrm_tail hn)
    subst this
    rcases hn with hn | hn
    · cases hn
    · exact hn
theorem Nrm_take {xs : List Nat} {k : Nat} (hk : k ≤ xs.length) (h : k = 0 ∨ el xs (k - 1) ≠ 0) : Nrm (xs.take k) := by
  rcases h with h | h
  · subst h; left; simp
  · rcases Nat.eq_zero_or_pos k with h0 | h0
    · subst h0; left; simp
    · right
      rw [List.length_take, Nat.min_eq_left hk, el_take _ _ _ (by omega)]; exact h
theorem val_zeros (xs : List Nat) (h : ∀ j, el xs j = 0) : val xs = 0 := by
  induction xs with
  | nil => rfl
  | cons x xs ih =>
    have h0 : x = 0 := h 0
    have h1 := ih fun j => h (j + 1)
    simp only [val]; omega
/-- What trimming leaves is the list of the value. -/
theorem take_trim {xs : List Nat} (hl : Lim xs) {k : Nat} (hk : k ≤ xs.length) (hz : ∀ j, k ≤ j → el xs j = 0) (h : k = 0 ∨ el xs (k - 1) ≠ 0) : xs.take k = digs (val xs) := by
  rw [val_take_drop xs k hk, val_zeros (xs.drop k) fun j => by rw [el_drop]; exact hz _ (by omega), Nat.mul_zero, Nat.add_zero]
  exact (digs_val (Lim_take hl k) (Nrm_take hk h)).symm
theorem Nrm_iff_digs {xs : List Nat} (h : Lim xs) : Nrm xs ↔ digs (val xs) = xs := ⟨digs_val h, fun e => e ▸ Nrm_digs _⟩

theorem len_digs_lt {n k : Nat} (h : n < pw k) : (digs n).length ≤ k := by
  induction k generalizing n with
  | zero =>
    have : n = 0 := by simp only [pw] at h; omega
    subst this; rw [digs_zero]; simp
  | succ k ih =>
    by_cases h0 : n = 0
    · subst h0; rw [digs_zero]; simp
    · rw [digs_pos h0, List.length_cons]
      have := ih (n := n / 4294967296) (by rw [pw_succ] at h; omega)
      omega
theorem lt_pw_len (n : Nat) : n < pw (digs n).length := by
  have := val_lt (Lim_digs n); rwa [val_digs] at this
theorem len_digs_iff (n k : Nat) : (digs n).length ≤ k ↔ n < pw k := ⟨fun h => Nat.lt_of_lt_of_le (lt_pw_len n) (pw_le h), len_digs_lt⟩
theorem len_digs_mono {m n : Nat} (h : m ≤ n) : (digs m).length ≤ (digs n).length := (len_digs_iff _ _).2 (Nat.lt_of_le_of_lt h (lt_pw_len n))
theorem digs_inj {m n : Nat} (h : digs m = digs n) : m = n := by rw [← val_digs m, h, val_digs]
theorem len_digs_eq_zero {n : Nat} : (digs n).length = 0 ↔ n = 0 := by
  constructor
  · intro h
    have h1 := lt_pw_len n
    rw [h] at h1; simp only [pw] at h1; omega
  · intro h; subst h; rw [digs_zero]; rfl
/-- Of two naturals the one with more limbs is greater. -/
theorem val_lt_of_len {xs ys : List Nat} (hx : Lim xs) (hy : Lim ys) (ny : Nrm ys) (h : xs.length < ys.length) : val xs < val ys := by
  have e := digs_val hy ny
  rcases Nat.lt_or_ge (val xs) (val ys) with h1 | h1
  · exact h1
  · have h2 := len_digs_mono h1
    rw [e] at h2
    have h3 := len_digs_lt (val_lt hx)
    omega
/-- Of two lists alike from place i + 1 on the one that is less at place i is less. -/
theorem val_lt_at {xs ys : List Nat} (hx : Lim xs) (hl : xs.length = ys.length) {i : Nat} (hi : i < xs.length) (he : xs.drop (i + 1) = ys.drop (i + 1)) (h : el xs i < el ys i) : val xs < val ys := by
  rw [val_take_drop xs (i + 1) (by omega), val_take_drop ys (i + 1) (by omega), he, val_take_succ xs i hi, val_take_succ ys i (by omega)]
  have h1 := val_lt (Lim_take hx i)
  rw [List.length_take, Nat.min_eq_left (by omega)] at h1
  have h2 : pw i * (el xs i + 1) ≤ pw i * el ys i := Nat.mul_le_mul_left _ (by omega)
  rw [Nat.mul_add] at h2
  omega
theorem drop_eq_step {xs ys : List Nat} (hl : xs.length = ys.length) {i : Nat} (hi : i < xs.length) (he : xs.drop (i + 1) = ys.drop (i + 1)) (h : el xs i = el ys i) : xs.drop i = ys.drop i := by
  rw [List.drop_eq_getElem_cons hi, List.drop_eq_getElem_cons (show i < ys.length by omega), he, ← el_get xs i hi, ← el_get ys i (by omega), h]
end Go.Proofs.YtehekjlakegkpaaGreat
end
section
namespace Go.Proofs.YtehekjlakegkpaaGreat

/-- Each is below M. -/
def Bl (M : Nat) (xs : List Nat) : Prop := ∀ x ∈ xs, x < M
/-- 256^k. -/
def pb : Nat → Nat
  | 0 => 1
  | k + 1 => 256 * pb k
/-- The k lowest bytes, the lowest first. -/
def lb : Nat → Nat → List Nat
  | 0, _ => []
  | k + 1, n => n % 256 :: lb k (n / 256)
/-- The number that bytes stand for, the lowest first. -/
def lev : List Nat → Nat
  | [] => 0
  | x :: xs => x + 256 * lev xs
/-- How many bytes a number of at least 2^30 has of its own. -/
def bn (n : Nat) : Nat := if n < 4294967296 then 4 else if n < 1099511627776 then 5 else if n < 281474976710656 then 6 else if n < 72057594037927936 then 7 else 8
/-- How many bytes a number has. -/
def sz (n : Nat) : Nat := if n < 64 then 1 else if n < 16384 then 2 else if n < 1073741824 then 4 else 1 + bn n
/-- The bytes of a number. -/
def nb (n : Nat) : List Nat := if n < 64 then [4 * n] else if n < 16384 then lb 2 (4 * n + 1) else if n < 1073741824 then lb 4 (4 * n + 2) else (4 * (bn n - 4) + 3) :: lb (bn n) n
/-- How many bytes the first one states. -/
def st (x : Nat) : Nat := if x % 4 = 0 then 1 else if x % 4 = 1 then 2 else if x % 4 = 2 then 4 else 5 + x / 4
/-- The number that bytes represent. -/
def num (bs : List Nat) : Nat := if el bs 0 % 4 = 3 then lev (bs.drop 1) else lev bs / 4
/-- What is taken: the number, how many bytes, the error. -/
def tk (bs : List Nat) : Nat × Nat × Nat :=
  if bs.length = 0 then (0, 0, 5) else if 9 < st (el bs 0) then (0, 0, 2) else if bs.length < st (el bs 0) then (0, 0, 5) else
    if sz (num (bs.take (st (el bs 0)))) = st (el bs 0) then (num (bs.take (st (el bs 0))), st (el bs 0), 0) else (0, 0, 2)

theorem Bl_nil (M : Nat) : Bl M [] := fun _ h => by cases h
theorem Bl_cons {M x : Nat} {xs : List Nat} (h : x < M) (hs : Bl M xs) : Bl M (x :: xs) := fun y hy => by
  rcases List.mem_cons.1 hy with rfl | hy
  · exact h
  · exact hs y hy
theorem Bl_head {M x : Nat} {xs : List Nat} (h : Bl M (x :: xs)) : x < M := h x (List.mem_cons_self ..)
theorem Bl_tail {M x : Nat} {xs : List Nat} (h : Bl M (x :: xs)) : Bl M xs := fun y hy => h y (List.mem_cons_of_mem _ hy)
theorem Bl_take {M : Nat} {xs : List Nat} (h : Bl M xs) (k : Nat) : Bl M (xs.take k) := fun x hx => h x (List.mem_of_mem_take hx)
theorem Bl_drop {M : Nat} {xs : List Nat} (h : Bl M xs) (k : Nat) : Bl M (xs.drop k) := fun x hx => h x (List.mem_of_mem_drop hx)
theorem Bl_append {M : Nat} {xs ys : List Nat} (h : Bl M xs) (k : Bl M ys) : Bl M (xs ++ ys) := fun x hx => by
  rcases List.mem_append.1 hx with hx | hx
  · exact h x hx
  · exact k x hx
theorem Bl_el {M : Nat} {xs : List Nat} (h : Bl M xs) (hM : 0 < M) (j : Nat) : el xs j < M := by
  rcases Nat.lt_or_ge j xs.length with hj | hj
  · rw [el_get xs j hj]; exact h _ (List.getElem_mem hj)
  · rw [el_ge xs j hj]; exact hM

theorem pb_pos (k : Nat) : 0 < pb k := by
  induction k with
  | zero => decide
  | succ k ih => unfold pb; omega
theorem pb_succ (k : Nat) : pb (k + 1) = 256 * pb k := rfl
theorem pb_two (k : Nat) : pb k = 2 ^ (8 * k) := by
  induction k with
  | zero => rfl
  | succ k ih => rw [pb_succ, ih, Nat.mul_add, Nat.pow_add]; omega
theorem lb_len (k n : Nat) : (lb k n).length = k := by
  induction k generalizing n with
  | zero => rfl
  | succ k ih => rw [lb, List.length_cons, ih]
theorem lb_bl (k n : Nat) : Bl 256 (lb k n) := by
  induction k generalizing n with
  | zero => exact Bl_nil _
  | succ k ih => rw [lb]; exact Bl_cons (Nat.mod_lt _ (by omega)) (ih _)
theorem lb_succ (k n : Nat) : lb (k + 1) n = lb k n ++ [n / pb k % 256] := by
  induction k generalizing n with
  | zero => simp [lb, pb]
  | succ k ih =>
    rw [lb, ih, lb, List.cons_append, pb_succ, Nat.div_div_eq_div_mul]
theorem lev_lb (k n : Nat) : lev (lb k n) = n % pb k := by
  induction k generalizing n with
  | zero => simp [lb, lev, pb, Nat.mod_one]
  | succ k ih => rw [lb, lev, ih, pb_succ, Nat.mod_mul]
theorem lb_lev {xs : List Nat} (h : Bl 256 xs) : lb xs.length (lev xs) = xs := by
  induction xs with
  | nil => rfl
  | cons x xs ih =>
    have hx := Bl_head h
    rw [List.length_cons, lb, lev, show (x + 256 * lev xs) % 256 = x by omega, show (x + 256 * lev xs) / 256 = lev xs by omega, ih (Bl_tail h)]
theorem lev_lt {xs : List Nat} (h : Bl 256 xs) : lev xs < pb xs.length := by
  induction xs with
  | nil => decide
  | cons x xs ih =>
    have h1 := ih (Bl_tail h)
    have h2 := Bl_head h
    simp only [lev, List.length_cons, pb_succ]; omega
theorem lev_append (xs ys : List Nat) : lev (xs ++ ys) = lev xs + pb xs.length * lev ys := by
  induction xs with
  | nil => simp [lev, pb]
  | cons x xs ih =>
    simp only [List.cons_append, lev, List.length_cons, pb_succ, ih, Nat.mul_add, Nat.mul_assoc]; omega
theorem lev_take_succ (xs : List Nat) (k : Nat) (h : k < xs.length) : lev (xs.take (k + 1)) = lev (xs.take k) + pb k * el xs k := by
  rw [List.take_succ_eq_append_getElem h, lev_append, el_get xs k h]
  simp [lev, List.length_take, Nat.min_eq_left (Nat.le_of_lt h)]
theorem lev_drop (xs : List Nat) (k : Nat) (h : k < xs.length) : lev (xs.drop k) = el xs k + 256 * lev (xs.drop (k + 1)) := by
  rw [List.drop_eq_getElem_cons h, el_get xs k h]; rfl

theorem bn_ge (n : Nat) : 4 ≤ bn n := by unfold bn; repeat' split
                                         all_goals omega
theorem bn_le (n : Nat) : bn n ≤ 8 := by unfold bn; repeat' split
                                         all_goals omega
theorem bn_lt {n : Nat} (h : n < 18446744073709551616) : n < pb (bn n) := by
  unfold bn
  repeat' split
  all_goals simp only [pb]; omega
theorem bn_low {n : Nat} (h : 1073741824 ≤ n) : pb (bn n - 1) ≤ n := by
  unfold bn
  repeat' split
  all_goals simp only [pb]; omega
theorem pb_le {i j : Nat} (h : i ≤ j) : pb i ≤ pb j := by
  rw [pb_two, pb_two]; exact Nat.pow_le_pow_right (by omega) (by omega)
theorem bn_of {n k : Nat} (h : 1073741824 ≤ n) (hk : k ≤ bn n) (hz : n / pb k = 0) : k = bn n := by
  have h1 := bn_low h
  have h2 : n < pb k := by
    rcases Nat.lt_or_ge n (pb k) with h | h
    · exact h
    · have := Nat.div_pos h (pb_pos k); omega
  rcases Nat.lt_or_ge k (bn n) with h3 | h3
  · have := pb_le (show k ≤ bn n - 1 by omega); omega
  · omega
theorem bn_more {n k : Nat} (h : n < 18446744073709551616) (hz : n / pb k ≠ 0) : k < bn n := by
  have h1 := bn_lt h
  rcases Nat.lt_or_ge k (bn n) with h3 | h3
  · exact h3
  · exact absurd (Nat.div_eq_of_lt (Nat.lt_of_lt_of_le h1 (pb_le h3))) hz
theorem sz_ge (n : Nat) : 1 ≤ sz n := by unfold sz; repeat' split
                                         all_goals omega
theorem sz_le (n : Nat) : sz n ≤ 9 := by
  have := bn_le n
  unfold sz; repeat' split
  all_goals omega
theorem sz_mono {m n : Nat} (h : m ≤ n) : sz m ≤ sz n := by
  unfold sz bn
  repeat' split
  all_goals omega
theorem nb_len (n : Nat) : (nb n).length = sz n := by
  unfold nb sz
  repeat' split
  all_goals simp [lb_len]
  omega
theorem nb_bl (n : Nat) : Bl 256 (nb n) := by
  have := bn_le n
  unfold nb
  repeat' split
  · exact Bl_cons (by omega) (Bl_nil _)
  · exact lb_bl _ _
  · exact lb_bl _ _
  · exact Bl_cons (by omega) (lb_bl _ _)
theorem st_nb (n : Nat) : st (el (nb n) 0) = sz n := by
  have h4 := bn_ge n
  unfold nb sz
  by_cases h1 : n < 64
  · rw [if_pos h1, if_pos h1, el_cons_zero]; unfold st; rw [if_pos (by omega)]
  · rw [if_neg h1, if_neg h1]
    by_cases h2 : n < 16384
    · rw [if_pos h2, if_pos h2, lb, el_cons_zero]; unfold st; rw [if_neg (by omega), if_pos (by omega)]
    · rw [if_neg h2, if_neg h2]
      by_cases h3 : n < 1073741824
      · rw [if_pos h3, if_pos h3, lb, el_cons_zero]; unfold st; rw [if_neg (by omega), if_neg (by omega), if_pos (by omega)]
      · rw [if_neg h3, if_neg h3, el_cons_zero]; unfold st; rw [if_neg (by omega), if_neg (by omega), if_neg (by omega)]; omega
theorem num_nb {n : Nat} (h : n < 18446744073709551616) : num (nb n) = n := by
  have h4 := bn_ge n
  have hl := bn_lt h
  unfold nb num
  by_cases h1 : n < 64
  · rw [if_pos h1, el_cons_zero, if_neg (by omega)]; simp only [lev]; omega
  · rw [if_neg h1]
    by_cases h2 : n < 16384
    · rw [if_pos h2, if_neg (by rw [lb, el_cons_zero]; omega), lev_lb, Nat.mod_eq_of_lt (by simp only [pb]; omega)]; omega
    · rw [if_neg h2]
      by_cases h3 : n < 1073741824
      · rw [if_pos h3, if_neg (by rw [lb, el_cons_zero]; omega), lev_lb, Nat.mod_eq_of_lt (by simp only [pb]; omega)]; omega
      · rw [if_neg h3, el_cons_zero, if_pos (by omega), List.drop_succ_cons, List.drop_zero, lev_lb, Nat.mod_eq_of_lt hl]
theorem tk_nil (bs : List Nat) (h : bs.length = 0) : tk bs = (0, 0, 5) := by unfold tk; rw [if_pos h]
theorem tk_big (bs : List Nat) (h : bs.length ≠ 0) (h9 : 9 < st (el bs 0)) : tk bs = (0, 0, 2) := by unfold tk; rw [if_neg h, if_pos h9]
theorem tk_short (bs : List Nat) (h : bs.length ≠ 0) (h9 : st (el bs 0) ≤ 9) (hs : bs.length < st (el bs 0)) : tk bs = (0, 0, 5) := by unfold tk; rw [if_neg h, if_neg (by omega), if_pos hs]
theorem tk_form (bs : List Nat) (h : bs.length ≠ 0) (h9 : st (el bs 0) ≤ 9) (hs : st (el bs 0) ≤ bs.length) (hf : sz (num (bs.take (st (el bs 0)))) ≠ st (el bs 0)) : tk bs = (0, 0, 2) := by
  unfold tk; rw [if_neg h, if_neg (by omega), if_neg (by omega), if_neg hf]
theorem tk_yes (bs : List Nat) (h : bs.length ≠ 0) (h9 : st (el bs 0) ≤ 9) (hs : st (el bs 0) ≤ bs.length) (hf : sz (num (bs.take (st (el bs 0)))) = st (el bs 0)) : tk bs = (num (bs.take (st (el bs 0))), st (el bs 0), 0) := by
  unfold tk; rw [if_neg h, if_neg (by omega), if_neg (by omega), if_pos hf]
/-- What was written is taken, whatever stands behind it. -/
theorem tk_nb {n : Nat} (h : n < 18446744073709551616) (bs : List Nat) : tk (nb n ++ bs) = (n, sz n, 0) := by
  have h1 := nb_len n
  have h2 := sz_ge n
  have h3 := sz_le n
  have he : el (nb n ++ bs) 0 = el (nb n) 0 := el_append_left _ _ _ (by omega)
  have ht : (nb n ++ bs).take (st (el (nb n ++ bs) 0)) = nb n := by rw [he, st_nb, ← h1]; exact List.take_left
  have := tk_yes (nb n ++ bs) (by rw [List.length_append]; omega) (by rw [he, st_nb]; exact h3) (by rw [he, st_nb, List.length_append]; omega) (by rw [ht, he, st_nb, num_nb h])
  rw [this, ht, he, st_nb, num_nb h]
/-- Cut off anywhere a number isn't there. -/
theorem tk_cut (n c : Nat) (h : c < sz n) : tk ((nb n).take c) = (0, 0, 5) := by
  have h1 := nb_len n
  have h3 := sz_le n
  have hl : ((nb n).take c).length = c := by rw [List.length_take]; omega
  by_cases h0 : c = 0
  · exact tk_nil _ (by omega)
  · have he : el ((nb n).take c) 0 = el (nb n) 0 := el_take _ _ _ (by omega)
    exact tk_short _ (by omega) (by rw [he, st_nb]; exact h3) (by rw [he, st_nb]; omega)
theorem nb_inj {m n : Nat} (hm : m < 18446744073709551616) (hn : n < 18446744073709551616) (h : nb m = nb n) : m = n := by rw [← num_nb hm, h, num_nb hn]
/-- Bytes of the right number are the number's. -/
theorem nb_num {bs : List Nat} (hb : Bl 256 bs) (hl : bs.length = st (el bs 0)) (h9 : st (el bs 0) ≤ 9) : nb (num bs) = bs ↔ sz (num bs) = bs.length := by
  constructor
  · intro h; rw [← nb_len, h]
  · intro h
    have hlt := lev_lt hb
    have hrt := lb_lev hb
    unfold num at h ⊢
    unfold st at hl h9
    cases bs with
    | nil => simp [el_nil] at hl
    | cons x xs =>
      have hx := Bl_head hb
      have hxs := Bl_tail hb
      rw [el_cons_zero] at hl h9 h ⊢
      have hx4 : x % 4 < 4 := Nat.mod_lt _ (by omega)
      by_cases m3 : x % 4 = 3
      · rw [if_pos m3] at h ⊢
        rw [if_neg (by omega), if_neg (by omega), if_neg (by omega)] at hl h9
        rw [List.drop_succ_cons, List.drop_zero] at h ⊢
        have hsl : xs.length = 4 + x / 4 := by rw [List.length_cons] at hl; omega
        rw [List.length_cons] at h
        have hlev := lb_lev hxs
        generalize lev xs = v at *
        have hv : ¬ v < 64 ∧ ¬ v < 16384 ∧ ¬ v < 1073741824 ∧ bn v = xs.length := by
          unfold sz at h
          by_cases k1 : v < 64
          · rw [if_pos k1] at h; omega
          · rw [if_neg k1] at h
            by_cases k2 : v < 16384
            · rw [if_pos k2] at h; omega
            · rw [if_neg k2] at h
              by_cases k3 : v < 1073741824
              · rw [if_pos k3] at h; omega
              · rw [if_neg k3] at h; exact ⟨k1, k2, k3, by omega⟩
        obtain ⟨k1, k2, k3, k4⟩ := hv
        unfold nb
        rw [if_neg k1, if_neg k2, if_neg k3, k4, hlev]
        congr 1; omega
      · rw [if_neg m3] at h ⊢
        have h4 := bn_ge (lev (x :: xs) / 4)
        have hm4 : lev (x :: xs) % 4 = x % 4 := by simp only [lev]; omega
        generalize lev (x :: xs) = v at *
        have hvv : 4 * (v / 4) + x % 4 = v := by omega
        rcases (show x % 4 = 0 ∨ x % 4 = 1 ∨ x % 4 = 2 by omega) with m0 | m0 | m0
        · rw [if_pos m0] at hl
          rw [hl] at h hrt hlt
          simp only [pb] at hlt
          have k1 : v / 4 < 64 := by omega
          unfold nb
          rw [if_pos k1, ← hrt]
          simp only [lb]
          congr 1; omega
        · rw [if_neg (by omega), if_pos m0] at hl
          rw [hl] at h hrt
          unfold sz at h
          have k1 : ¬ v / 4 < 64 := fun k => by rw [if_pos k] at h; omega
          rw [if_neg k1] at h
          have k2 : v / 4 < 16384 := by
            rcases Nat.lt_or_ge (v / 4) 16384 with k | k
            · exact k
            · rw [if_neg (by omega)] at h
              split at h <;> omega
          unfold nb
          rw [if_neg k1, if_pos k2, show 4 * (v / 4) + 1 = v by omega]
          exact hrt
        · rw [if_neg (by omega), if_neg (by omega), if_pos m0] at hl
          rw [hl] at h hrt
          unfold sz at h
          have k1 : ¬ v / 4 < 64 := fun k => by rw [if_pos k] at h; omega
          rw [if_neg k1] at h
          have k2 : ¬ v / 4 < 16384 := fun k => by rw [if_pos k] at h; omega
          rw [if_neg k2] at h
          have k3 : v / 4 < 1073741824 := by
            rcases Nat.lt_or_ge (v / 4) 1073741824 with k | k
            · exact k
            · rw [if_neg (by omega)] at h
              omega
          unfold nb
          rw [if_neg k1, if_neg k2, if_pos k3, show 4 * (v / 4) + 2 = v by omega]
          exact hrt
theorem st_ge (x : Nat) : 1 ≤ st x := by unfold st; repeat' split
                                         all_goals omega
/-- The number of at most nine bytes, of which nine begin with the form of many. -/
theorem num_lt' {bs : List Nat} (hb : Bl 256 bs) (h9 : bs.length ≤ 9) (h8 : el bs 0 % 4 ≠ 3 → bs.length ≤ 8) : num bs < 18446744073709551616 := by
  have hmono : ∀ k, k ≤ 8 → pb k ≤ 18446744073709551616 := fun k hk => by
    rw [pb_two]
    exact Nat.le_trans (Nat.pow_le_pow_right (by omega) (show 8 * k ≤ 64 by omega)) (by decide)
  unfold num
  split
  · have h1 := lev_lt (Bl_drop hb 1)
    rw [List.length_drop] at h1
    exact Nat.lt_of_lt_of_le h1 (hmono _ (by omega))
  · rename_i hne
    have h1 := lev_lt hb
    have := hmono _ (h8 hne)
    omega
theorem st_eight {x : Nat} (hne : x % 4 ≠ 3) : st x ≤ 8 := by
  have hx4 : x % 4 < 4 := Nat.mod_lt _ (by omega)
  unfold st; repeat' split
  all_goals omega
theorem num_st {bs : List Nat} (hb : Bl 256 bs) (h9 : st (el bs 0) ≤ 9) : num (bs.take (st (el bs 0))) < 18446744073709551616 := by
  have hg := st_ge (el bs 0)
  have hl : (bs.take (st (el bs 0))).length ≤ st (el bs 0) := by rw [List.length_take]; omega
  refine num_lt' (Bl_take hb _) (by omega) fun hne => ?_
  rw [el_take _ _ _ (by omega)] at hne
  have := st_eight hne
  omega
theorem tk_n (bs : List Nat) (hb : Bl 256 bs) : (tk bs).1 < 18446744073709551616 := by
  unfold tk
  repeat' split
  · decide
  · decide
  · decide
  · exact num_st hb (by omega)
  · decide
/-- What is taken lies within. -/
theorem tk_k (bs : List Nat) : (tk bs).2.1 ≤ bs.length ∧ ((tk bs).2.2 = 0 → 1 ≤ (tk bs).2.1) ∧ (tk bs).2.2 ≤ 5 ∧ (tk bs).2.1 ≤ 9 := by
  have hg := st_ge (el bs 0)
  by_cases h : bs.length = 0
  · rw [tk_nil bs h]; simp
  · by_cases h9 : 9 < st (el bs 0)
    · rw [tk_big bs h h9]; simp
    · by_cases hs : bs.length < st (el bs 0)
      · rw [tk_short bs h (by omega) hs]; simp
      · by_cases hf : sz (num (bs.take (st (el bs 0)))) = st (el bs 0)
        · rw [tk_yes bs h (by omega) (by omega) hf]
          refine ⟨?_, fun _ => ?_, ?_, ?_⟩
          all_goals simp
          all_goals omega
        · rw [tk_form bs h (by omega) (by omega) hf]; simp

/-- Lists: the rounds of taking. -/
def tls : Nat → List Nat → Nat → List Nat → List Nat × Nat × Nat
  | 0, _, at_, acc => (acc, at_, 0)
  | c + 1, bs, at_, acc => if (tk (bs.drop at_)).2.2 = 0 then tls c bs (at_ + (tk (bs.drop at_)).2.1) (acc ++ [(tk (bs.drop at_)).1]) else ([], 0, (tk (bs.drop at_)).2.2)
/-- What is taken as a list: the list, how many bytes, the error. -/
def tl (bs : List Nat) (most : Int) : List Nat × Nat × Nat :=
  if (tk bs).2.2 ≠ 0 then ([], 0, (tk bs).2.2) else if most < 0 ∨ most < ((tk bs).1 : Int) then ([], 0, 4) else tls (tk bs).1 bs (tk bs).2.1 []
/-- The bytes of numbers, one behind another. -/
def cat : List Nat → List Nat
  | [] => []
  | x :: xs => nb x ++ cat xs
/-- The bytes of a list. -/
def nl (xs : List Nat) : List Nat := nb xs.length ++ cat xs
theorem tls_step {c : Nat} {bs : List Nat} {at_ : Nat} {acc : List Nat} (h : (tk (bs.drop at_)).2.2 = 0) : tls (c + 1) bs at_ acc = tls c bs (at_ + (tk (bs.drop at_)).2.1) (acc ++ [(tk (bs.drop at_)).1]) := by
  rw [tls, if_pos h]
theorem tls_stop {c : Nat} {bs : List Nat} {at_ : Nat} {acc : List Nat} (h : (tk (bs.drop at_)).2.2 ≠ 0) : tls (c + 1) bs at_ acc = ([], 0, (tk (bs.drop at_)).2.2) := by
  rw [tls, if_neg h]
theorem cat_append (xs ys : List Nat) : cat (xs ++ ys) = cat xs ++ cat ys := by
  induction xs with
  | nil => rfl
  | cons x xs ih => rw [List.cons_append, cat, cat, ih, List.append_assoc]
theorem cat_bl (xs : List Nat) : Bl 256 (cat xs) := by
  induction xs with
  | nil => exact Bl_nil _
  | cons x xs ih => exact Bl_append (nb_bl x) ih
theorem cat_len (xs : List Nat) : (cat xs).length ≤ 9 * xs.length := by
  induction xs with
  | nil => simp [cat]
  | cons x xs ih =>
    have := sz_le x
    rw [cat, List.length_append, nb_len, List.length_cons]; omega
theorem cat_take_succ (xs : List Nat) (k : Nat) (h : k < xs.length) : cat (xs.take (k + 1)) = cat (xs.take k) ++ nb (el xs k) := by
  rw [List.take_succ_eq_append_getElem h, cat_append, el_get xs k h]
  simp [cat]
theorem cat_take_len (xs : List Nat) (k : Nat) : (cat (xs.take k)).length ≤ 9 * k := by
  have := cat_len (xs.take k)
  rw [List.length_take] at this; omega
theorem nl_bl (xs : List Nat) : Bl 256 (nl xs) := Bl_append (nb_bl _) (cat_bl _)
theorem nl_len (xs : List Nat) : (nl xs).length ≤ 9 + 9 * xs.length := by
  have := cat_len xs
  have := sz_le xs.length
  unfold nl
  rw [List.length_append, nb_len]; omega
theorem tls_cat (xs pre acc : List Nat) (h : Bl 18446744073709551616 xs) : tls xs.length (pre ++ cat xs) pre.length acc = (acc ++ xs, (pre ++ cat xs).length, 0) := by
  induction xs generalizing pre acc with
  | nil => simp [tls, cat]
  | cons x xs ih =>
    have ht : tk ((pre ++ cat (x :: xs)).drop pre.length) = (x, sz x, 0) := by
      rw [List.drop_left, cat]; exact tk_nb (Bl_head h) _
    rw [List.length_cons, tls_step (by rw [ht]), ht]
    have e : pre ++ cat (x :: xs) = (pre ++ nb x) ++ cat xs := by rw [cat, List.append_assoc]
    have e2 : pre.length + sz x = (pre ++ nb x).length := by rw [List.length_append, nb_len]
    show tls xs.length (pre ++ cat (x :: xs)) (pre.length + sz x) (acc ++ [x]) = _
    rw [e, e2, ih _ _ (Bl_tail h)]
    simp
/-- A list that was written is taken as it was, if it isn't too long. -/
theorem tl_nl (xs : List Nat) (most : Int) (hn : xs.length < 18446744073709551616) (h : Bl 18446744073709551616 xs) :
    tl (nl xs) most = if most < (xs.length : Int) then ([], 0, 4) else (xs, (nl xs).length, 0) := by
  have ht : tk (nl xs) = (xs.length, sz xs.length, 0) := tk_nb hn _
  unfold tl
  rw [ht, if_neg (by simp)]
  show (if most < 0 ∨ most < ((xs.length : Nat) : Int) then _ else _) = _
  by_cases hm : most < (xs.length : Int)
  · rw [if_pos (.inr hm), if_pos hm]
  · rw [if_neg (by omega), if_neg hm]
    show tls xs.length (nl xs) (sz xs.length) [] = _
    have := tls_cat xs (nb xs.length) [] h
    rw [nb_len] at this
    exact this
end Go.Proofs.YtehekjlakegkpaaGreat
end
