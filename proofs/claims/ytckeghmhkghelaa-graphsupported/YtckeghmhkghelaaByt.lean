/-
  Plain mathematics of the bytes of a number (one, two, four, or a byte and four to eight): the bytes, their number, and that they are read back. No program is in sight here; no conditions but those that each theorem names.
-/
import Derived.Test.YtckeghmhkghelaaBase
namespace Go.Proofs.Ytckeghmhkghelaa

/-- Each is below M. -/
def Bl (M : Nat) (xs : List Nat) : Prop := ∀ x ∈ xs, x < M
/-- 256^k. -/
def pb : Nat → Nat
  | 0 => 1
  | k + 1 => 256 * pb k
/-- The k lowest bytes, the lowest first. -/
def lb : Nat → Nat → List Nat
  | 0, _ => []
  | k + 1, n => n % 256 :: lb k (n / 256)
/-- The number that bytes stand for, the lowest first. -/
def lev : List Nat → Nat
  | [] => 0
  | x :: xs => x + 256 * lev xs
/-- How many bytes a number of at least 2^30 has of its own. -/
def bn (n : Nat) : Nat := if n < 4294967296 then 4 else if n < 1099511627776 then 5 else if n < 281474976710656 then 6 else if n < 72057594037927936 then 7 else 8
/-- How many bytes a number has. -/
def sz (n : Nat) : Nat := if n < 64 then 1 else if n < 16384 then 2 else if n < 1073741824 then 4 else 1 + bn n
/-- The bytes of a number. -/
def nb (n : Nat) : List Nat := if n < 64 then [4 * n] else if n < 16384 then lb 2 (4 * n + 1) else if n < 1073741824 then lb 4 (4 * n + 2) else (4 * (bn n - 4) + 3) :: lb (bn n) n
/-- How many bytes the first one states. -/
def st (x : Nat) : Nat := if x % 4 = 0 then 1 else if x % 4 = 1 then 2 else if x % 4 = 2 then 4 else 5 + x / 4
/-- The number that bytes represent. -/
def num (bs : List Nat) : Nat := if el bs 0 % 4 = 3 then lev (bs.drop 1) else lev bs / 4
/-- What is taken: the number, how many bytes, the error. -/
def tk (bs : List Nat) : Nat × Nat × Nat :=
  if bs.length = 0 then (0, 0, 5) else if 9 < st (el bs 0) then (0, 0, 2) else if bs.length < st (el bs 0) then (0, 0, 5) else
    if sz (num (bs.take (st (el bs 0)))) = st (el bs 0) then (num (bs.take (st (el bs 0))), st (el bs 0), 0) else (0, 0, 2)

theorem Bl_nil (M : Nat) : Bl M [] := fun _ h => by cases h
theorem Bl_cons {M x : Nat} {xs : List Nat} (h : x < M) (hs : Bl M xs) : Bl M (x :: xs) := fun y hy => by
  rcases List.mem_cons.1 hy with rfl | hy
  · exact h
  · exact hs y hy
theorem Bl_head {M x : Nat} {xs : List Nat} (h : Bl M (x :: xs)) : x < M := h x (List.mem_cons_self ..)
theorem Bl_tail {M x : Nat} {xs : List Nat} (h : Bl M (x :: xs)) : Bl M xs := fun y hy => h y (List.mem_cons_of_mem _ hy)
theorem Bl_take {M : Nat} {xs : List Nat} (h : Bl M xs) (k : Nat) : Bl M (xs.take k) := fun x hx => h x (List.mem_of_mem_take hx)
theorem Bl_drop {M : Nat} {xs : List Nat} (h : Bl M xs) (k : Nat) : Bl M (xs.drop k) := fun x hx => h x (List.mem_of_mem_drop hx)
theorem Bl_append {M : Nat} {xs ys : List Nat} (h : Bl M xs) (k : Bl M ys) : Bl M (xs ++ ys) := fun x hx => by
  rcases List.mem_append.1 hx with hx | hx
  · exact h x hx
  · exact k x hx
theorem Bl_el {M : Nat} {xs : List Nat} (h : Bl M xs) (hM : 0 < M) (j : Nat) : el xs j < M := by
  rcases Nat.lt_or_ge j xs.length with hj | hj
  · rw [el_get xs j hj]; exact h _ (List.getElem_mem hj)
  · rw [el_ge xs j hj]; exact hM

theorem pb_pos (k : Nat) : 0 < pb k := by
  induction k with
  | zero => decide
  | succ k ih => unfold pb; omega
theorem pb_succ (k : Nat) : pb (k + 1) = 256 * pb k := rfl
theorem pb_two (k : Nat) : pb k = 2 ^ (8 * k) := by
  induction k with
  | zero => rfl
  | succ k ih => rw [pb_succ, ih, Nat.mul_add, Nat.pow_add]; omega
theorem lb_len (k n : Nat) : (lb k n).length = k := by
  induction k generalizing n with
  | zero => rfl
  | succ k ih => rw [lb, List.length_cons, ih]
theorem lb_bl (k n : Nat) : Bl 256 (lb k n) := by
  induction k generalizing n with
  | zero => exact Bl_nil _
  | succ k ih => rw [lb]; exact Bl_cons (Nat.mod_lt _ (by omega)) (ih _)
theorem lb_succ (k n : Nat) : lb (k + 1) n = lb k n ++ [n / pb k % 256] := by
  induction k generalizing n with
  | zero => simp [lb, pb]
  | succ k ih =>
    rw [lb, ih, lb, List.cons_append, pb_succ, Nat.div_div_eq_div_mul]
theorem lev_lb (k n : Nat) : lev (lb k n) = n % pb k := by
  induction k generalizing n with
  | zero => simp [lb, lev, pb, Nat.mod_one]
  | succ k ih => rw [lb, lev, ih, pb_succ, Nat.mod_mul]
theorem lb_lev {xs : List Nat} (h : Bl 256 xs) : lb xs.length (lev xs) = xs := by
  induction xs with
  | nil => rfl
  | cons x xs ih =>
    have hx := Bl_head h
    rw [List.length_cons, lb, lev, show (x + 256 * lev xs) % 256 = x by omega, show (x + 256 * lev xs) / 256 = lev xs by omega, ih (Bl_tail h)]
theorem lev_lt {xs : List Nat} (h : Bl 256 xs) : lev xs < pb xs.length := by
  induction xs with
  | nil => decide
  | cons x xs ih =>
    have h1 := ih (Bl_tail h)
    have h2 := Bl_head h
    simp only [lev, List.length_cons, pb_succ]; omega
theorem lev_append (xs ys : List Nat) : lev (xs ++ ys) = lev xs + pb xs.length * lev ys := by
  induction xs with
  | nil => simp [lev, pb]
  | cons x xs ih =>
    simp only [List.cons_append, lev, List.length_cons, pb_succ, ih, Nat.mul_add, Nat.mul_assoc]; omega
theorem lev_take_succ (xs : List Nat) (k : Nat) (h : k < xs.length) : lev (xs.take (k + 1)) = lev (xs.take k) + pb k * el xs k := by
  rw [List.take_succ_eq_append_getElem h, lev_append, el_get xs k h]
  simp [lev, List.length_take, Nat.min_eq_left (Nat.le_of_lt h)]
theorem lev_drop (xs : List Nat) (k : Nat) (h : k < xs.length) : lev (xs.drop k) = el xs k + 256 * lev (xs.drop (k + 1)) := by
  rw [List.drop_eq_getElem_cons h, el_get xs k h]; rfl

theorem bn_ge (n : Nat) : 4 ≤ bn n := by unfold bn; repeat' split
                                         all_goals omega
theorem bn_le (n : Nat) : bn n ≤ 8 := by unfold bn; repeat' split
                                         all_goals omega
theorem bn_lt {n : Nat} (h : n < 18446744073709551616) : n < pb (bn n) := by
  unfold bn
  repeat' split
  all_goals simp only [pb]; omega
theorem bn_low {n : Nat} (h : 1073741824 ≤ n) : pb (bn n - 1) ≤ n := by
  unfold bn
  repeat' split
  all_goals simp only [pb]; omega
theorem pb_le {i j : Nat} (h : i ≤ j) : pb i ≤ pb j := by
  rw [pb_two, pb_two]; exact Nat.pow_le_pow_right (by omega) (by omega)
theorem bn_of {n k : Nat} (h : 1073741824 ≤ n) (hk : k ≤ bn n) (hz : n / pb k = 0) : k = bn n := by
  have h1 := bn_low h
  have h2 : n < pb k := by
    rcases Nat.lt_or_ge n (pb k) with h | h
    · exact h
    · have := Nat.div_pos h (pb_pos k); omega
  rcases Nat.lt_or_ge k (bn n) with h3 | h3
  · have := pb_le (show k ≤ bn n - 1 by omega); omega
  · omega
theorem bn_more {n k : Nat} (h : n < 18446744073709551616) (hz : n / pb k ≠ 0) : k < bn n := by
  have h1 := bn_lt h
  rcases Nat.lt_or_ge k (bn n) with h3 | h3
  · exact h3
  · exact absurd (Nat.div_eq_of_lt (Nat.lt_of_lt_of_le h1 (pb_le h3))) hz
theorem sz_ge (n : Nat) : 1 ≤ sz n := by unfold sz; repeat' split
                                         all_goals omega
theorem sz_le (n : Nat) : sz n ≤ 9 := by
  have := bn_le n
  unfold sz; repeat' split
  all_goals omega
theorem sz_mono {m n : Nat} (h : m ≤ n) : sz m ≤ sz n := by
  unfold sz bn
  repeat' split
  all_goals omega
theorem nb_len (n : Nat) : (nb n).length = sz n := by
  unfold nb sz
  repeat' split
  all_goals simp [lb_len]
  omega
theorem nb_bl (n : Nat) : Bl 256 (nb n) := by
  have := bn_le n
  unfold nb
  repeat' split
  · exact Bl_cons (by omega) (Bl_nil _)
  · exact lb_bl _ _
  · exact lb_bl _ _
  · exact Bl_cons (by omega) (lb_bl _ _)
theorem st_nb (n : Nat) : st (el (nb n) 0) = sz n := by
  have h4 := bn_ge n
  unfold nb sz
  by_cases h1 : n < 64
  · rw [if_pos h1, if_pos h1, el_cons_zero]; unfold st; rw [if_pos (by omega)]
  · rw [if_neg h1, if_neg h1]
    by_cases h2 : n < 16384
    · rw [if_pos h2, if_pos h2, lb, el_cons_zero]; unfold st; rw [if_neg (by omega), if_pos (by omega)]
    · rw [if_neg h2, if_neg h2]
      by_cases h3 : n < 1073741824
      · rw [if_pos h3, if_pos h3, lb, el_cons_zero]; unfold st; rw [if_neg (by omega), if_neg (by omega), if_pos (by omega)]
      · rw [if_neg h3, if_neg h3, el_cons_zero]; unfold st; rw [if_neg (by omega), if_neg (by omega), if_neg (by omega)]; omega
theorem num_nb {n : Nat} (h : n < 18446744073709551616) : num (nb n) = n := by
  have h4 := bn_ge n
  have hl := bn_lt h
  unfold nb num
  by_cases h1 : n < 64
  · rw [if_pos h1, el_cons_zero, if_neg (by omega)]; simp only [lev]; omega
  · rw [if_neg h1]
    by_cases h2 : n < 16384
    · rw [if_pos h2, if_neg (by rw [lb, el_cons_zero]; omega), lev_lb, Nat.mod_eq_of_lt (by simp only [pb]; omega)]; omega
    · rw [if_neg h2]
      by_cases h3 : n < 1073741824
      · rw [if_pos h3, if_neg (by rw [lb, el_cons_zero]; omega), lev_lb, Nat.mod_eq_of_lt (by simp only [pb]; omega)]; omega
      · rw [if_neg h3, el_cons_zero, if_pos (by omega), List.drop_succ_cons, List.drop_zero, lev_lb, Nat.mod_eq_of_lt hl]
theorem tk_nil (bs : List Nat) (h : bs.length = 0) : tk bs = (0, 0, 5) := by unfold tk; rw [if_pos h]
theorem tk_big (bs : List Nat) (h : bs.length ≠ 0) (h9 : 9 < st (el bs 0)) : tk bs = (0, 0, 2) := by unfold tk; rw [if_neg h, if_pos h9]
theorem tk_short (bs : List Nat) (h : bs.length ≠ 0) (h9 : st (el bs 0) ≤ 9) (hs : bs.length < st (el bs 0)) : tk bs = (0, 0, 5) := by unfold tk; rw [if_neg h, if_neg (by omega), if_pos hs]
theorem tk_form (bs : List Nat) (h : bs.length ≠ 0) (h9 : st (el bs 0) ≤ 9) (hs : st (el bs 0) ≤ bs.length) (hf : sz (num (bs.take (st (el bs 0)))) ≠ st (el bs 0)) : tk bs = (0, 0, 2) := by
  unfold tk; rw [if_neg h, if_neg (by omega), if_neg (by omega), if_neg hf]
theorem tk_yes (bs : List Nat) (h : bs.length ≠ 0) (h9 : st (el bs 0) ≤ 9) (hs : st (el bs 0) ≤ bs.length) (hf : sz (num (bs.take (st (el bs 0)))) = st (el bs 0)) : tk bs = (num (bs.take (st (el bs 0))), st (el bs 0), 0) := by
  unfold tk; rw [if_neg h, if_neg (by omega), if_neg (by omega), if_pos hf]
/-- What was written is taken, whatever stands behind it. -/
theorem tk_nb {n : Nat} (h : n < 18446744073709551616) (bs : List Nat) : tk (nb n ++ bs) = (n, sz n, 0) := by
  have h1 := nb_len n
  have h2 := sz_ge n
  have h3 := sz_le n
  have he : el (nb n ++ bs) 0 = el (nb n) 0 := el_append_left _ _ _ (by omega)
  have ht : (nb n ++ bs).take (st (el (nb n ++ bs) 0)) = nb n := by rw [he, st_nb, ← h1]; exact List.take_left
  have := tk_yes (nb n ++ bs) (by rw [List.length_append]; omega) (by rw [he, st_nb]; exact h3) (by rw [he, st_nb, List.length_append]; omega) (by rw [ht, he, st_nb, num_nb h])
  rw [this, ht, he, st_nb, num_nb h]
/-- Cut off anywhere a number isn't there. -/
theorem tk_cut (n c : Nat) (h : c < sz n) : tk ((nb n).take c) = (0, 0, 5) := by
  have h1 := nb_len n
  have h3 := sz_le n
  have hl : ((nb n).take c).length = c := by rw [List.length_take]; omega
  by_cases h0 : c = 0
  · exact tk_nil _ (by omega)
  · have he : el ((nb n).take c) 0 = el (nb n) 0 := el_take _ _ _ (by omega)
    exact tk_short _ (by omega) (by rw [he, st_nb]; exact h3) (by rw [he, st_nb]; omega)
theorem nb_inj {m n : Nat} (hm : m < 18446744073709551616) (hn : n < 18446744073709551616) (h : nb m = nb n) : m = n := by rw [← num_nb hm, h, num_nb hn]
/-- Bytes of the right number are the number's. -/
theorem nb_num {bs : List Nat} (hb : Bl 256 bs) (hl : bs.length = st (el bs 0)) (h9 : st (el bs 0) ≤ 9) : nb (num bs) = bs ↔ sz (num bs) = bs.length := by
  constructor
  · intro h; rw [← nb_len, h]
  · intro h
    have hlt := lev_lt hb
    have hrt := lb_lev hb
    unfold num at h ⊢
    unfold st at hl h9
    cases bs with
    | nil => simp [el_nil] at hl
    | cons x xs =>
      have hx := Bl_head hb
      have hxs := Bl_tail hb
      rw [el_cons_zero] at hl h9 h ⊢
      have hx4 : x % 4 < 4 := Nat.mod_lt _ (by omega)
      by_cases m3 : x % 4 = 3
      · rw [if_pos m3] at h ⊢
        rw [if_neg (by omega), if_neg (by omega), if_neg (by omega)] at hl h9
        rw [List.drop_succ_cons, List.drop_zero] at h ⊢
        have hsl : xs.length = 4 + x / 4 := by rw [List.length_cons] at hl; omega
        rw [List.length_cons] at h
        have hlev := lb_lev hxs
        generalize lev xs = v at *
        have hv : ¬ v < 64 ∧ ¬ v < 16384 ∧ ¬ v < 1073741824 ∧ bn v = xs.length := by
          unfold sz at h
          by_cases k1 : v < 64
          · rw [if_pos k1] at h; omega
          · rw [if_neg k1] at h
            by_cases k2 : v < 16384
            · rw [if_pos k2] at h; omega
            · rw [if_neg k2] at h
              by_cases k3 : v < 1073741824
              · rw [if_pos k3] at h; omega
              · rw [if_neg k3] at h; exact ⟨k1, k2, k3, by omega⟩
        obtain ⟨k1, k2, k3, k4⟩ := hv
        unfold nb
        rw [if_neg k1, if_neg k2, if_neg k3, k4, hlev]
        congr 1; omega
      · rw [if_neg m3] at h ⊢
        have h4 := bn_ge (lev (x :: xs) / 4)
        have hm4 : lev (x :: xs) % 4 = x % 4 := by simp only [lev]; omega
        generalize lev (x :: xs) = v at *
        have hvv : 4 * (v / 4) + x % 4 = v := by omega
        rcases (show x % 4 = 0 ∨ x % 4 = 1 ∨ x % 4 = 2 by omega) with m0 | m0 | m0
        · rw [if_pos m0] at hl
          rw [hl] at h hrt hlt
          simp only [pb] at hlt
          have k1 : v / 4 < 64 := by omega
          unfold nb
          rw [if_pos k1, ← hrt]
          simp only [lb]
          congr 1; omega
        · rw [if_neg (by omega), if_pos m0] at hl
          rw [hl] at h hrt
          unfold sz at h
          have k1 : ¬ v / 4 < 64 := fun k => by rw [if_pos k] at h; omega
          rw [if_neg k1] at h
          have k2 : v / 4 < 16384 := by
            rcases Nat.lt_or_ge (v / 4) 16384 with k | k
            · exact k
            · rw [if_neg (by omega)] at h
              split at h <;> omega
          unfold nb
          rw [if_neg k1, if_pos k2, show 4 * (v / 4) + 1 = v by omega]
          exact hrt
        · rw [if_neg (by omega), if_neg (by omega), if_pos m0] at hl
          rw [hl] at h hrt
          unfold sz at h
          have k1 : ¬ v / 4 < 64 := fun k => by rw [if_pos k] at h; omega
          rw [if_neg k1] at h
          have k2 : ¬ v / 4 < 16384 := fun k => by rw [if_pos k] at h; omega
          rw [if_neg k2] at h
          have k3 : v / 4 < 1073741824 := by
            rcases Nat.lt_or_ge (v / 4) 1073741824 with k | k
            · exact k
            · rw [if_neg (by omega)] at h
              omega
          unfold nb
          rw [if_neg k1, if_neg k2, if_pos k3, show 4 * (v / 4) + 2 = v by omega]
          exact hrt
theorem st_ge (x : Nat) : 1 ≤ st x := by unfold st; repeat' split
                                         all_goals omega
/-- The number of at most nine bytes, of which nine begin with the form of many. -/
theorem num_lt' {bs : List Nat} (hb : Bl 256 bs) (h9 : bs.length ≤ 9) (h8 : el bs 0 % 4 ≠ 3 → bs.length ≤ 8) : num bs < 18446744073709551616 := by
  have hmono : ∀ k, k ≤ 8 → pb k ≤ 18446744073709551616 := fun k hk => by
    rw [pb_two]
    exact Nat.le_trans (Nat.pow_le_pow_right (by omega) (show 8 * k ≤ 64 by omega)) (by decide)
  unfold num
  split
  · have h1 := lev_lt (Bl_drop hb 1)
    rw [List.length_drop] at h1
    exact Nat.lt_of_lt_of_le h1 (hmono _ (by omega))
  · rename_i hne
    have h1 := lev_lt hb
    have := hmono _ (h8 hne)
    omega
theorem st_eight {x : Nat} (hne : x % 4 ≠ 3) : st x ≤ 8 := by
  have hx4 : x % 4 < 4 := Nat.mod_lt _ (by omega)
  unfold st; repeat' split
  all_goals omega
theorem num_st {bs : List Nat} (hb : Bl 256 bs) (h9 : st (el bs 0) ≤ 9) : num (bs.take (st (el bs 0))) < 18446744073709551616 := by
  have hg := st_ge (el bs 0)
  have hl : (bs.take (st (el bs 0))).length ≤ st (el bs 0) := by rw [List.length_take]; omega
  refine num_lt' (Bl_take hb _) (by omega) fun hne => ?_
  rw [el_take _ _ _ (by omega)] at hne
  have := st_eight hne
  omega
theorem tk_n (bs : List Nat) (hb : Bl 256 bs) : (tk bs).1 < 18446744073709551616 := by
  unfold tk
  repeat' split
  · decide
  · decide
  · decide
  · exact num_st hb (by omega)
  · decide
/-- What is taken lies within. -/
theorem tk_k (bs : List Nat) : (tk bs).2.1 ≤ bs.length ∧ ((tk bs).2.2 = 0 → 1 ≤ (tk bs).2.1) ∧ (tk bs).2.2 ≤ 5 ∧ (tk bs).2.1 ≤ 9 := by
  have hg := st_ge (el bs 0)
  by_cases h : bs.length = 0
  · rw [tk_nil bs h]; simp
  · by_cases h9 : 9 < st (el bs 0)
    · rw [tk_big bs h h9]; simp
    · by_cases hs : bs.length < st (el bs 0)
      · rw [tk_short bs h (by omega) hs]; simp
      · by_cases hf : sz (num (bs.take (st (el bs 0)))) = st (el bs 0)
        · rw [tk_yes bs h (by omega) (by omega) hf]
          refine ⟨?_, fun _ => ?_, ?_, ?_⟩
          all_goals simp
          all_goals omega
        · rw [tk_form bs h (by omega) (by omega) hf]; simp

/-- Lists: the rounds of taking. -/
def tls : Nat → List Nat → Nat → List Nat → List Nat × Nat × Nat
  | 0, _, at_, acc => (acc, at_, 0)
  | c + 1, bs, at_, acc => if (tk (bs.drop at_)).2.2 = 0 then tls c bs (at_ + (tk (bs.drop at_)).2.1) (acc ++ [(tk (bs.drop at_)).1]) else ([], 0, (tk (bs.drop at_)).2.2)
/-- What is taken as a list: the list, how many bytes, the error. -/
def tl (bs : List Nat) (most : Int) : List Nat × Nat × Nat :=
  if (tk bs).2.2 ≠ 0 then ([], 0, (tk bs).2.2) else if most < 0 ∨ most < ((tk bs).1 : Int) then ([], 0, 4) else tls (tk bs).1 bs (tk bs).2.1 []
/-- The bytes of numbers, one behind another. -/
def cat : List Nat → List Nat
  | [] => []
  | x :: xs => nb x ++ cat xs
/-- The bytes of a list. -/
def nl (xs : List Nat) : List Nat := nb xs.length ++ cat xs
theorem tls_step {c : Nat} {bs : List Nat} {at_ : Nat} {acc : List Nat} (h : (tk (bs.drop at_)).2.2 = 0) : tls (c + 1) bs at_ acc = tls c bs (at_ + (tk (bs.drop at_)).2.1) (acc ++ [(tk (bs.drop at_)).1]) := by
  rw [tls, if_pos h]
theorem tls_stop {c : Nat} {bs : List Nat} {at_ : Nat} {acc : List Nat} (h : (tk (bs.drop at_)).2.2 ≠ 0) : tls (c + 1) bs at_ acc = ([], 0, (tk (bs.drop at_)).2.2) := by
  rw [tls, if_neg h]
theorem cat_append (xs ys : List Nat) : cat (xs ++ ys) = cat xs ++ cat ys := by
  induction xs with
  | nil => rfl
  | cons x xs ih => rw [List.cons_append, cat, cat, ih, List.append_assoc]
theorem cat_bl (xs : List Nat) : Bl 256 (cat xs) := by
  induction xs with
  | nil => exact Bl_nil _
  | cons x xs ih => exact Bl_append (nb_bl x) ih
theorem cat_len (xs : List Nat) : (cat xs).length ≤ 9 * xs.length := by
  induction xs with
  | nil => simp [cat]
  | cons x xs ih =>
    have := sz_le x
    rw [cat, List.length_append, nb_len, List.length_cons]; omega
theorem cat_take_succ (xs : List Nat) (k : Nat) (h : k < xs.length) : cat (xs.take (k + 1)) = cat (xs.take k) ++ nb (el xs k) := by
  rw [List.take_succ_eq_append_getElem h, cat_append, el_get xs k h]
  simp [cat]
theorem cat_take_len (xs : List Nat) (k : Nat) : (cat (xs.take k)).length ≤ 9 * k := by
  have := cat_len (xs.take k)
  rw [List.length_take] at this; omega
theorem nl_bl (xs : List Nat) : Bl 256 (nl xs) := Bl_append (nb_bl _) (cat_bl _)
theorem nl_len (xs : List Nat) : (nl xs).length ≤ 9 + 9 * xs.length := by
  have := cat_len xs
  have := sz_le xs.length
  unfold nl
  rw [List.length_append, nb_len]; omega
theorem tls_cat (xs pre acc : List Nat) (h : Bl 18446744073709551616 xs) : tls xs.length (pre ++ cat xs) pre.length acc = (acc ++ xs, (pre ++ cat xs).length, 0) := by
  induction xs generalizing pre acc with
  | nil => simp [tls, cat]
  | cons x xs ih =>
    have ht : tk ((pre ++ cat (x :: xs)).drop pre.length) = (x, sz x, 0) := by
      rw [List.drop_left, cat]; exact tk_nb (Bl_head h) _
    rw [List.length_cons, tls_step (by rw [ht]), ht]
    have e : pre ++ cat (x :: xs) = (pre ++ nb x) ++ cat xs := by rw [cat, List.append_assoc]
    have e2 : pre.length + sz x = (pre ++ nb x).length := by rw [List.length_append, nb_len]
    show tls xs.length (pre ++ cat (x :: xs)) (pre.length + sz x) (acc ++ [x]) = _
    rw [e, e2, ih _ _ (Bl_tail h)]
    simp
/-- A list that was written is taken as it was, if it isn't too long. -/
theorem tl_nl (xs : List Nat) (most : Int) (hn : xs.length < 18446744073709551616) (h : Bl 18446744073709551616 xs) :
    tl (nl xs) most = if most < (xs.length : Int) then ([], 0, 4) else (xs, (nl xs).length, 0) := by
  have ht : tk (nl xs) = (xs.length, sz xs.length, 0) := tk_nb hn _
  unfold tl
  rw [ht, if_neg (by simp)]
  show (if most < 0 ∨ most < ((xs.length : Nat) : Int) then _ else _) = _
  by_cases hm : most < (xs.length : Int)
  · rw [if_pos (.inr hm), if_pos hm]
  · rw [if_neg (by omega), if_neg hm]
    show tls xs.length (nl xs) (sz xs.length) [] = _
    have := tls_cat xs (nb xs.length) [] h
    rw [nb_len] at this
    exact this
end Go.Proofs.Ytckeghmhkghelaa
