/-
  Plain mathematics of ledgers: accounts, chunks, the treasury and the pot; what each call makes of them and answers. No program is in sight here.
-/
import Derived.Test.YtblclpagfbpamaaYsum
namespace Go.Proofs.Ytblclpagfbpamaa

/-- A chunk: its amount and its era. -/
abbrev Ck := Nat × Int
/-- What one account has. -/
structure Ac where
  f : Nat
  b : Nat
  d : Nat
  ch : List Ck
/-- All accounts, the treasury, the pot. -/
structure Ab where
  a : List Ac
  t : Nat
  p : Nat

/-- What chunks hold together. -/
def cht (ch : List Ck) : Nat := tot (ch.map (·.1))
theorem cht_nil : cht [] = 0 := rfl
theorem cht_cons (c : Ck) (cs : List Ck) : cht (c :: cs) = c.1 + cht cs := rfl
theorem cht_append (xs ys : List Ck) : cht (xs ++ ys) = cht xs + cht ys := by unfold cht; rw [List.map_append, tot_append]
/-- What an account has. -/
def Ac.all (x : Ac) : Nat := x.f + x.b + x.d + cht x.ch
def acT (a : List Ac) : Nat := tot (a.map Ac.all)
theorem acT_append (xs ys : List Ac) : acT (xs ++ ys) = acT xs + acT ys := by unfold acT; rw [List.map_append, tot_append]
theorem acT_cons (x : Ac) (xs : List Ac) : acT (x :: xs) = x.all + acT xs := rfl
/-- All there is. -/
def Ab.tot (s : Ab) : Nat := s.t + s.p + acT s.a
/-- Chunks in order: eras rise, none is empty, at most eight. -/
structure chOk (ch : List Ck) : Prop where
  up : ch.Pairwise (fun x y => x.2 < y.2)
  pos : ∀ c ∈ ch, 0 < c.1
  len : ch.length ≤ 8
  wf : ∀ c ∈ ch, (Lit.int .i64 c.2).wf = true
structure Ab.ok (s : Ab) : Prop where
  tot : s.tot < 18446744073709551616
  len : s.a.length ≤ 32
  ch : ∀ x ∈ s.a, chOk x.ch

theorem chOk_nil : chOk [] := ⟨List.Pairwise.nil, by simp, by simp, by simp⟩
theorem acT_set {a : List Ac} {i : Nat} {x : Ac} (y : Ac) (h : a[i]? = some x) : acT (a.set i y) + x.all = acT a + y.all := by
  induction a generalizing i with
  | nil => simp at h
  | cons z zs ih =>
    cases i with
    | zero => simp at h; subst h; simp only [List.set_cons_zero, acT_cons]; omega
    | succ i => have := ih (i := i) (by simpa using h); simp only [List.set_cons_succ, acT_cons]; omega
theorem all_le {a : List Ac} {i : Nat} {x : Ac} (h : a[i]? = some x) : x.all ≤ acT a := by
  induction a generalizing i with
  | nil => simp at h
  | cons z zs ih =>
    cases i with
    | zero => simp at h; subst h; rw [acT_cons]; omega
    | succ i => have := ih (i := i) (by simpa using h); rw [acT_cons]; omega
theorem all_two {a : List Ac} {i j : Nat} {x y : Ac} (h : a[i]? = some x) (k : a[j]? = some y) (hij : i ≠ j) : x.all + y.all ≤ acT a := by
  induction a generalizing i j with
  | nil => simp at h
  | cons z zs ih =>
    cases i with
    | zero =>
      cases j with
      | zero => omega
      | succ j => simp at h; subst h; have := all_le (a := zs) (i := j) (by simpa using k); rw [acT_cons]; omega
    | succ i =>
      cases j with
      | zero => simp at k; subst k; have := all_le (a := zs) (i := i) (by simpa using h); rw [acT_cons]; omega
      | succ j => have := ih (i := i) (j := j) (by simpa using h) (by simpa using k) (by omega); rw [acT_cons]; omega

/-- The account of that number, if there is one. -/
def Ab.ac (s : Ab) (i : Int) : Option Ac := if 0 ≤ i then s.a[i.toNat]? else none
theorem Ab.ac_some {s : Ab} {i : Int} {x : Ac} (h : s.ac i = some x) : 0 ≤ i ∧ i < s.a.length ∧ s.a[i.toNat]? = some x := by
  unfold Ab.ac at h
  split at h
  · rename_i h0
    have := (List.getElem?_eq_some_iff.1 h).1
    exact ⟨h0, by omega, h⟩
  · cases h
theorem Ab.ac_none {s : Ab} {i : Int} (h : s.ac i = none) : i < 0 ∨ (s.a.length : Int) ≤ i := by
  unfold Ab.ac at h
  split at h
  · rw [List.getElem?_eq_none_iff] at h; omega
  · omega
theorem Ab.ac_nat {s : Ab} {i : Nat} : s.ac (i : Int) = s.a[i]? := by unfold Ab.ac; rw [if_pos (by omega)]; simp
/-- One account is another one now. -/
def Ab.put (s : Ab) (i : Int) (y : Ac) : Ab := { s with a := s.a.set i.toNat y }

def bondM (s : Ab) (i : Int) (n : Nat) : Ab × Int :=
  match s.ac i with
  | none => (s, 5)
  | some x => if x.f < n then (s, 8) else (s.put i { x with f := x.f - n, b := x.b + n }, 0)
def depM (s : Ab) (i : Int) (n : Nat) : Ab × Int :=
  match s.ac i with
  | none => (s, 5)
  | some x => if x.f < n then (s, 8) else (s.put i { x with f := x.f - n, d := x.d + n }, 0)
def relM (s : Ab) (i : Int) (n : Nat) : Ab × Int :=
  match s.ac i with
  | none => (s, 5)
  | some x => if x.d < n then (s, 8) else (s.put i { x with d := x.d - n, f := x.f + n }, 0)
def forM (s : Ab) (i : Int) (n : Nat) : Ab × Int :=
  match s.ac i with
  | none => (s, 5)
  | some x => if x.d < n then (s, 8) else ({ s.put i { x with d := x.d - n } with t := s.t + n }, 0)
def payM (s : Ab) (i : Int) (n : Nat) : Ab × Int :=
  match s.ac i with
  | none => (s, 5)
  | some x => if s.p < n then (s, 8) else ({ s.put i { x with f := x.f + n } with p := s.p - n }, 0)
def keepM (s : Ab) (n : Nat) : Ab × Int := if s.p < n then (s, 8) else ({ s with p := s.p - n, t := s.t + n }, 0)
def mintM (s : Ab) (n : Nat) : Ab × Int := if s.tot + n < 18446744073709551616 then ({ s with p := s.p + n }, 0) else (s, 3)
/-- An account whose free amount is another one now. -/
def Ac.setF (x : Ac) (n : Nat) : Ac := { x with f := n }
def mdF (a : List Ac) (i : Nat) (g : Nat → Nat) : List Ac := match a[i]? with | some x => a.set i (x.setF (g x.f)) | none => a
def trM (s : Ab) (i j : Int) (n : Nat) : Ab × Int :=
  match s.ac i, s.ac j with
  | some x, some _ => if x.f < n then (s, 8) else ({ s with a := mdF (mdF s.a i.toNat (· - n)) j.toNat (· + n) }, 0)
  | _, _ => (s, 5)
/-- How many chunks are of earlier eras. -/
def posC (ch : List Ck) (era : Int) : Nat := (ch.takeWhile (fun c => decide (c.2 < era))).length
/-- Chunks with so much more in that era; none if there would be too many. -/
def insC (ch : List Ck) (era : Int) (n : Nat) : Option (List Ck) :=
  let k := posC ch era
  match ch[k]? with
  | some c => if c.2 = era then some (ch.set k (c.1 + n, era)) else if 8 ≤ ch.length then none else some (ch.take k ++ (n, era) :: ch.drop k)
  | none => if 8 ≤ ch.length then none else some (ch.take k ++ (n, era) :: ch.drop k)
def unbM (s : Ab) (i : Int) (n : Nat) (era : Int) : Ab × Int :=
  match s.ac i with
  | none => (s, 5)
  | some x => if n = 0 then (s, 1) else if x.b < n then (s, 8) else
    match insC x.ch era n with
    | none => (s, 7)
    | some c => (s.put i { x with b := x.b - n, ch := c }, 0)
/-- Chunks that may be withdrawn, and those that may not yet. -/
def dueC (ch : List Ck) (era : Int) : List Ck := ch.filter (fun c => decide (c.2 ≤ era))
def leftC (ch : List Ck) (era : Int) : List Ck := ch.filter (fun c => !decide (c.2 ≤ era))
def wdrM (s : Ab) (i : Int) (era : Int) : Ab × Nat × Int :=
  match s.ac i with
  | none => (s, 0, 5)
  | some x => (s.put i { x with f := x.f + cht (dueC x.ch era), ch := leftC x.ch era }, cht (dueC x.ch era), 0)
/-- So much is taken from chunks, the last one first: what they are then, and how much it was. -/
def takC : List Ck → Nat → List Ck × Nat
  | [], _ => ([], 0)
  | c :: cs, n => ((c.1 - min (n - (takC cs n).2) c.1, c.2) :: (takC cs n).1, (takC cs n).2 + min (n - (takC cs n).2) c.1)
def nzC (ch : List Ck) : List Ck := ch.filter (fun c => decide (0 < c.1))
def slaM (s : Ab) (i : Int) (n : Nat) : Ab × Nat × Int :=
  match s.ac i with
  | none => (s, 0, 5)
  | some x =>
    let r := takC x.ch (n - min n x.b)
    ({ s.put i { x with b := x.b - min n x.b, ch := nzC r.1 } with t := s.t + (min n x.b + r.2) }, min n x.b + r.2, 0)

/-! The sum stays, the order stays. -/
theorem put_tot {s : Ab} {i : Int} {x : Ac} (y : Ac) (h : s.ac i = some x) : (s.put i y).tot + x.all = s.tot + y.all := by
  have := acT_set y (Ab.ac_some h).2.2
  show s.t + s.p + acT (s.a.set i.toNat y) + x.all = s.t + s.p + acT s.a + y.all
  omega
theorem all_le_tot {s : Ab} {i : Int} {x : Ac} (h : s.ac i = some x) : x.all + s.t + s.p ≤ s.tot := by
  have := all_le (Ab.ac_some h).2.2
  show x.all + s.t + s.p ≤ s.t + s.p + acT s.a
  omega
theorem set_ch {a : List Ac} {i : Nat} {y : Ac} (h : ∀ x ∈ a, chOk x.ch) (hy : chOk y.ch) : ∀ x ∈ a.set i y, chOk x.ch := fun x hx => by
  rcases List.mem_or_eq_of_mem_set hx with hx | rfl
  · exact h x hx
  · exact hy
theorem ac_ch {s : Ab} (h : s.ok) {i : Int} {x : Ac} (hx : s.ac i = some x) : chOk x.ch := h.ch x (List.mem_of_getElem? (Ab.ac_some hx).2.2)
/-- A state with another account of that number, and the same sum, is in order. -/
theorem put_ok {s : Ab} (h : s.ok) {i : Int} {x y : Ac} (hx : s.ac i = some x) (t p : Nat) (hs : y.all + t + p = x.all + s.t + s.p) (hc : chOk y.ch) :
    ({ s.put i y with t := t, p := p } : Ab).ok ∧ ({ s.put i y with t := t, p := p } : Ab).tot = s.tot := by
  have h1 := acT_set y (Ab.ac_some hx).2.2
  have h2 : ({ s.put i y with t := t, p := p } : Ab).tot = s.tot := by
    show t + p + acT (s.a.set i.toNat y) = s.t + s.p + acT s.a
    omega
  exact ⟨⟨by rw [h2]; exact h.tot, by show (s.a.set i.toNat y).length ≤ 32; rw [List.length_set]; exact h.len, set_ch h.ch hc⟩, h2⟩
theorem put_ok' {s : Ab} (h : s.ok) {i : Int} {x y : Ac} (hx : s.ac i = some x) (hs : y.all = x.all) (hc : chOk y.ch) : (s.put i y).ok ∧ (s.put i y).tot = s.tot :=
  put_ok h hx s.t s.p (by omega) hc

/-- What a call may do: all stays in order, and the sum is the same. -/
def Good (s : Ab) (r : Ab) : Prop := r.ok ∧ r.tot = s.tot
theorem Good.refl {s : Ab} (h : s.ok) : Good s s := ⟨h, rfl⟩
theorem bond_good {s : Ab} (h : s.ok) (i : Int) (n : Nat) : Good s (bondM s i n).1 := by
  unfold bondM
  split
  · exact .refl h
  · rename_i x hx
    split
    · exact .refl h
    · exact put_ok' h hx (by unfold Ac.all; dsimp only; omega) (ac_ch h (x := x) hx)
theorem dep_good {s : Ab} (h : s.ok) (i : Int) (n : Nat) : Good s (depM s i n).1 := by
  unfold depM
  split
  · exact .refl h
  · rename_i x hx
    split
    · exact .refl h
    · exact put_ok' h hx (by unfold Ac.all; dsimp only; omega) (ac_ch h (x := x) hx)
theorem rel_good {s : Ab} (h : s.ok) (i : Int) (n : Nat) : Good s (relM s i n).1 := by
  unfold relM
  split
  · exact .refl h
  · rename_i x hx
    split
    · exact .refl h
    · exact put_ok' h hx (by unfold Ac.all; dsimp only; omega) (ac_ch h (x := x) hx)
theorem for_good {s : Ab} (h : s.ok) (i : Int) (n : Nat) : Good s (forM s i n).1 := by
  unfold forM
  split
  · exact .refl h
  · rename_i x hx
    split
    · exact .refl h
    · exact put_ok h hx (s.t + n) s.p (by unfold Ac.all; dsimp only; omega) (ac_ch h (x := x) hx)
theorem pay_good {s : Ab} (h : s.ok) (i : Int) (n : Nat) : Good s (payM s i n).1 := by
  unfold payM
  split
  · exact .refl h
  · rename_i x hx
    split
    · exact .refl h
    · exact put_ok h hx s.t (s.p - n) (by unfold Ac.all; dsimp only; omega) (ac_ch h (x := x) hx)
theorem keep_good {s : Ab} (h : s.ok) (n : Nat) : Good s (keepM s n).1 := by
  unfold keepM
  split
  · exact .refl h
  · have e : ({ s with p := s.p - n, t := s.t + n } : Ab).tot = s.tot := by
      show s.t + n + (s.p - n) + acT s.a = s.t + s.p + acT s.a
      omega
    exact ⟨⟨by rw [e]; exact h.tot, h.len, h.ch⟩, e⟩
theorem mint_good {s : Ab} (h : s.ok) (n : Nat) : (mintM s n).1.ok ∧ (mintM s n).1.tot = if (mintM s n).2 = 0 then s.tot + n else s.tot := by
  unfold mintM
  split
  · rename_i hn
    have e : ({ s with p := s.p + n } : Ab).tot = s.tot + n := by
      show s.t + (s.p + n) + acT s.a = s.t + s.p + acT s.a + n
      omega
    exact ⟨⟨by rw [e]; exact hn, h.len, h.ch⟩, by rw [e]; simp⟩
  · exact ⟨h, by simp⟩
theorem mdF_some {a : List Ac} {i : Nat} {x : Ac} (h : a[i]? = some x) (g : Nat → Nat) : mdF a i g = a.set i (x.setF (g x.f)) := by unfold mdF; rw [h]
theorem tr_good {s : Ab} (h : s.ok) (i j : Int) (n : Nat) : Good s (trM s i j n).1 := by
  unfold trM
  split
  · rename_i x y hx hy
    split
    · exact .refl h
    · rename_i hn
      obtain ⟨_, _, h1⟩ := Ab.ac_some hx
      obtain ⟨_, _, h2⟩ := Ab.ac_some hy
      rw [mdF_some h1]
      obtain ⟨z, hz⟩ : ∃ z, (s.a.set i.toNat (x.setF (x.f - n)))[j.toNat]? = some z := ⟨_, List.getElem?_eq_getElem (by simp; exact (List.getElem?_eq_some_iff.1 h2).1)⟩
      rw [mdF_some hz]
      have e1 := acT_set (x.setF (x.f - n)) h1
      have e2 := acT_set (z.setF (z.f + n)) hz
      have hc1 := set_ch (i := i.toNat) h.ch (y := x.setF (x.f - n)) (ac_ch h (x := x) hx)
      have e : ({ s with a := (s.a.set i.toNat (x.setF (x.f - n))).set j.toNat (z.setF (z.f + n)) } : Ab).tot = s.tot := by
        show s.t + s.p + acT ((s.a.set i.toNat (x.setF (x.f - n))).set j.toNat (z.setF (z.f + n))) = s.t + s.p + acT s.a
        unfold Ac.all Ac.setF at e1 e2
        unfold Ac.setF
        dsimp only at e1 e2 ⊢
        omega
      exact ⟨⟨by rw [e]; exact h.tot, by simp; exact h.len, set_ch hc1 (hc1 z (List.mem_of_getElem? hz))⟩, e⟩
  · exact .refl h

theorem posC_le (ch : List Ck) (era : Int) : posC ch era ≤ ch.length := List.Sublist.length_le (List.takeWhile_sublist _)
/-- Chunks ahead of that place are of earlier eras, the one there is not. -/
theorem posC_lt {ch : List Ck} {era : Int} : ∀ c ∈ ch.take (posC ch era), c.2 < era := by
  intro c hc
  unfold posC at hc
  induction ch with
  | nil => simp at hc
  | cons x xs ih =>
    rw [List.takeWhile_cons] at hc
    split at hc
    · rename_i hx
      simp only [List.length_cons, List.take_succ_cons, List.mem_cons] at hc
      rcases hc with rfl | hc
      · simpa using hx
      · exact ih hc
    · simp at hc
theorem posC_at {ch : List Ck} {era : Int} {c : Ck} (h : ch[posC ch era]? = some c) : era ≤ c.2 := by
  unfold posC at h
  induction ch with
  | nil => simp at h
  | cons x xs ih =>
    rw [List.takeWhile_cons] at h
    split at h
    · simp only [List.length_cons, List.getElem?_cons_succ] at h
      exact ih h
    · rename_i hx
      simp at h
      subst h
      simpa using hx
theorem posC_ge {ch : List Ck} {era : Int} (h : ch.Pairwise (fun x y => x.2 < y.2)) : ∀ c ∈ ch.drop (posC ch era), era ≤ c.2 := by
  intro c hc
  rcases e : ch.drop (posC ch era) with _ | ⟨x, xs⟩
  · rw [e] at hc; cases hc
  · have hx : ch[posC ch era]? = some x := by
      have := congrArg (·[0]?) e
      simpa using this
    have h1 := posC_at hx
    have h2 := h.sublist (List.drop_sublist (posC ch era) ch)
    rw [e] at h2 hc
    rcases List.mem_cons.1 hc with rfl | hc
    · exact h1
    · have := (List.pairwise_cons.1 h2).1 c hc; omega
theorem cht_set {ch : List Ck} {k : Nat} {c : Ck} (d : Ck) (h : ch[k]? = some c) : cht (ch.set k d) + c.1 = cht ch + d.1 := by
  induction ch generalizing k with
  | nil => simp at h
  | cons x xs ih =>
    cases k with
    | zero => simp at h; subst h; simp only [List.set_cons_zero, cht_cons]; omega
    | succ k => have := ih (k := k) (by simpa using h); simp only [List.set_cons_succ, cht_cons]; omega
theorem cht_split (ch : List Ck) (k : Nat) : cht (ch.take k) + cht (ch.drop k) = cht ch := by rw [← cht_append, List.take_append_drop]
theorem pw_set {ch : List Ck} {k : Nat} {c d : Ck} (hc : ch[k]? = some c) (hd : d.2 = c.2) (h : ch.Pairwise (fun x y => x.2 < y.2)) : (ch.set k d).Pairwise (fun x y => x.2 < y.2) := by
  have e : (ch.set k d).map (·.2) = ch.map (·.2) := by
    rw [List.map_set, hd]
    apply List.ext_getElem?
    intro j
    rw [List.getElem?_set]
    split
    · rename_i hj
      subst hj
      obtain ⟨hk, rfl⟩ := List.getElem?_eq_some_iff.1 hc
      simp [hk]
    · rfl
  have h1 : (ch.map (·.2)).Pairwise (· < ·) := by rw [List.pairwise_map]; exact h
  rw [← e, List.pairwise_map] at h1
  exact h1
theorem ins_ok {ch ch' : List Ck} {era : Int} {n : Nat} (h : chOk ch) (hn : 0 < n) (hw : (Lit.int .i64 era).wf = true) (hi : insC ch era n = some ch') : chOk ch' ∧ cht ch' = cht ch + n := by
  have new : ch.length < 8 → (∀ c, ch[posC ch era]? = some c → c.2 ≠ era) → chOk (ch.take (posC ch era) ++ (n, era) :: ch.drop (posC ch era)) ∧ cht (ch.take (posC ch era) ++ (n, era) :: ch.drop (posC ch era)) = cht ch + n := by
    intro hl hne
    refine ⟨⟨?_, fun c hc => ?_, ?_, fun c hc => ?_⟩, ?_⟩
    · rw [List.pairwise_append, List.pairwise_cons]
      refine ⟨h.up.sublist (List.take_sublist _ _), ⟨fun c hc => ?_, h.up.sublist (List.drop_sublist _ _)⟩, fun x hx y hy => ?_⟩
      · have h1 := posC_ge h.up c hc
        rcases e : ch.drop (posC ch era) with _ | ⟨x, xs⟩
        · rw [e] at hc; cases hc
        · have hx : ch[posC ch era]? = some x := by
            have := congrArg (·[0]?) e
            simpa using this
          have h2 := h.up.sublist (List.drop_sublist (posC ch era) ch)
          have h3 := hne x hx
          have h4 := posC_at hx
          rw [e] at h2 hc
          rcases List.mem_cons.1 hc with rfl | hc
          · show era < _; omega
          · have := (List.pairwise_cons.1 h2).1 c hc
            show era < _; omega
      · have h1 := posC_lt x hx
        rcases List.mem_cons.1 hy with rfl | hy
        · exact h1
        · have := posC_ge h.up y hy; omega
    · simp only [List.mem_append, List.mem_cons] at hc
      rcases hc with hc | rfl | hc
      · exact h.pos c (List.mem_of_mem_take hc)
      · exact hn
      · exact h.pos c (List.mem_of_mem_drop hc)
    · simp; have := posC_le ch era; omega
    · simp only [List.mem_append, List.mem_cons] at hc
      rcases hc with hc | rfl | hc
      · exact h.wf c (List.mem_of_mem_take hc)
      · exact hw
      · exact h.wf c (List.mem_of_mem_drop hc)
    · rw [cht_append, cht_cons]
      have := cht_split ch (posC ch era)
      show _ + (n + _) = _
      omega
  unfold insC at hi
  dsimp only at hi
  split at hi
  · rename_i c hc
    split at hi
    · rename_i he
      injection hi with hi
      subst hi
      refine ⟨⟨pw_set hc he.symm h.up, fun d hd => ?_, by simp; exact h.len, fun d hd => ?_⟩, ?_⟩
      · rcases List.mem_or_eq_of_mem_set hd with hd | rfl
        · exact h.pos d hd
        · show 0 < c.1 + n; omega
      · rcases List.mem_or_eq_of_mem_set hd with hd | rfl
        · exact h.wf d hd
        · exact hw
      · have := cht_set (c.1 + n, era) hc
        dsimp only at this
        omega
    · rename_i he
      split at hi
      · cases hi
      · injection hi with hi
        subst hi
        exact new (by omega) (fun d hd => by rw [hc] at hd; cases hd; exact he)
  · rename_i hc
    split at hi
    · cases hi
    · injection hi with hi
      subst hi
      exact new (by omega) (fun d hd => by rw [hc] at hd; cases hd)
theorem unb_good {s : Ab} (h : s.ok) (i : Int) (n : Nat) (era : Int) (hw : (Lit.int .i64 era).wf = true) : Good s (unbM s i n era).1 := by
  unfold unbM
  split
  · exact .refl h
  · rename_i x hx
    split
    · exact .refl h
    · split
      · exact .refl h
      · split
        · exact .refl h
        · rename_i c hc
          obtain ⟨h1, h2⟩ := ins_ok (ac_ch h hx) (by omega) hw hc
          exact put_ok' h hx (by unfold Ac.all; dsimp only; omega) h1
theorem filter_ok {ch : List Ck} (p : Ck → Bool) (h : chOk ch) : chOk (ch.filter p) :=
  ⟨h.up.sublist List.filter_sublist, fun c hc => h.pos c (List.mem_filter.1 hc).1, Nat.le_trans (List.length_filter_le _ _) h.len, fun c hc => h.wf c (List.mem_filter.1 hc).1⟩
theorem due_left (ch : List Ck) (era : Int) : cht (dueC ch era) + cht (leftC ch era) = cht ch := by
  unfold dueC leftC
  induction ch with
  | nil => rfl
  | cons c cs ih =>
    rw [List.filter_cons, List.filter_cons]
    by_cases hc : c.2 ≤ era
    · simp [hc, cht_cons]; omega
    · simp [hc, cht_cons]; omega
theorem wdr_good {s : Ab} (h : s.ok) (i : Int) (era : Int) : Good s (wdrM s i era).1 := by
  unfold wdrM
  split
  · exact .refl h
  · rename_i x hx
    exact put_ok' h hx (by have := due_left x.ch era; unfold Ac.all; dsimp only; omega) (filter_ok _ (ac_ch h hx))
theorem takC_le (ch : List Ck) (n : Nat) : (takC ch n).2 ≤ n := by
  induction ch with
  | nil => exact Nat.zero_le _
  | cons c cs ih => simp only [takC]; omega
theorem takC_sum (ch : List Ck) (n : Nat) : cht (takC ch n).1 + (takC ch n).2 = cht ch := by
  induction ch with
  | nil => rfl
  | cons c cs ih => simp only [takC, cht_cons]; omega
theorem takC_amount (ch : List Ck) (n : Nat) : (takC ch n).2 = min n (cht ch) := by
  induction ch with
  | nil => simp [takC, cht_nil]
  | cons c cs ih => simp only [takC, cht_cons]; omega
theorem takC_eras (ch : List Ck) (n : Nat) : (takC ch n).1.map (·.2) = ch.map (·.2) := by
  induction ch with
  | nil => rfl
  | cons c cs ih => simp only [takC, List.map_cons, ih]
theorem nz_sum (ch : List Ck) : cht (nzC ch) = cht ch := by
  unfold nzC
  induction ch with
  | nil => rfl
  | cons c cs ih =>
    rw [List.filter_cons]
    by_cases hc : 0 < c.1
    · simp [hc, cht_cons, ih]
    · simp [hc, cht_cons, ih]; omega
theorem nzC_ok {ch : List Ck} (n : Nat) (h : chOk ch) : chOk (nzC (takC ch n).1) := by
  have e := takC_eras ch n
  have hl : (takC ch n).1.length = ch.length := by have := congrArg List.length e; simpa using this
  have hp : (takC ch n).1.Pairwise (fun x y => x.2 < y.2) := by
    have h1 : (ch.map (·.2)).Pairwise (· < ·) := by rw [List.pairwise_map]; exact h.up
    rw [← e, List.pairwise_map] at h1
    exact h1
  refine ⟨hp.sublist List.filter_sublist, fun c hc => by simpa using (List.mem_filter.1 hc).2, Nat.le_trans (List.length_filter_le _ _) (by rw [hl]; exact h.len), fun c hc => ?_⟩
  have hm : c.2 ∈ (takC ch n).1.map (·.2) := List.mem_map.2 ⟨c, (List.mem_filter.1 hc).1, rfl⟩
  rw [e] at hm
  obtain ⟨d, hd, hde⟩ := List.mem_map.1 hm
  rw [← hde]; exact h.wf d hd
theorem sla_good {s : Ab} (h : s.ok) (i : Int) (n : Nat) : Good s (slaM s i n).1 := by
  unfold slaM
  split
  · exact .refl h
  · rename_i x hx
    have h1 := takC_sum x.ch (n - min n x.b)
    have h2 := nz_sum (takC x.ch (n - min n x.b)).1
    exact put_ok h hx (s.t + (min n x.b + (takC x.ch (n - min n x.b)).2)) s.p (by unfold Ac.all; dsimp only; omega) (nzC_ok _ (ac_ch h hx))
end Go.Proofs.Ytblclpagfbpamaa
