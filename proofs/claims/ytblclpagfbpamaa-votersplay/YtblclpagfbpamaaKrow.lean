/-
  A chain's row: its handles and values in order; what it becomes where a member is put in, taken out or set. Plain lists, and a chain in memory whose neighbours make a ring. The conditions stand in each theorem.
-/
import Derived.Test.YtblclpagfbpamaaKmem
namespace Go.Proofs.Ytblclpagfbpamaa
open Go.RowKit
set_option linter.unusedVariables false
section
variable {β : Type}

/-- Ahead of the member o, or at the end where there is none. -/
def insB (o : Int) (p : Int × β) : List (Int × β) → List (Int × β)
  | [] => [p]
  | x :: xs => if x.1 = o then p :: x :: xs else x :: insB o p xs
/-- Without the member h. -/
def delR (h : Int) (R : List (Int × β)) : List (Int × β) := R.filter fun x => decide (x.1 ≠ h)
/-- The member h is v. -/
def setR (h : Int) (v : β) (R : List (Int × β)) : List (Int × β) := R.map fun x => if x.1 = h then (h, v) else x
/-- The member h. -/
def getR (h : Int) (R : List (Int × β)) : Option β := (R.find? fun x => decide (x.1 = h)).map (·.2)
/-- Is there such a member? -/
def hasR (h : Int) (R : List (Int × β)) : Bool := R.any fun x => decide (x.1 = h)

theorem insB_mid {o : Int} {p y : Int × β} : ∀ {xs ys : List (Int × β)}, (∀ x ∈ xs, x.1 ≠ o) → y.1 = o → insB o p (xs ++ y :: ys) = xs ++ p :: y :: ys
  | [], ys, _, hy => by simp [insB, hy]
  | x :: xs, ys, hx, hy => by
    rw [List.cons_append, insB, if_neg (hx x (by simp)), insB_mid (fun z hz => hx z (by simp [hz])) hy]; rfl
theorem delR_mid {h : Int} {y : Int × β} {xs ys : List (Int × β)} (hx : ∀ x ∈ xs, x.1 ≠ h) (hy : y.1 = h) (hz : ∀ x ∈ ys, x.1 ≠ h) : delR h (xs ++ y :: ys) = xs ++ ys := by
  unfold delR
  rw [List.filter_append, List.filter_cons_of_neg (by simp [hy]), List.filter_eq_self.2 (by simpa using hx), List.filter_eq_self.2 (by simpa using hz)]

def ChS.row (s : ChS β) : List (Int × β) := s.hs.map fun h => (h, s.vl h)
theorem row_len (s : ChS β) : s.row.length = s.hs.length := by simp [ChS.row]
theorem row_has (s : ChS β) (h : Int) : hasR h s.row = decide (h ∈ s.hs) := by
  unfold hasR ChS.row
  rw [List.any_map, Bool.eq_iff_iff]
  simp [Function.comp_def]
theorem row_get (s : ChS β) (h : Int) : getR h s.row = if h ∈ s.hs then some (s.vl h) else none := by
  unfold getR ChS.row
  rw [List.find?_map]
  have : ∀ l : List Int, ((l.find? ((fun x : Int × β => decide (x.1 = h)) ∘ fun h => (h, s.vl h))).map fun h => (h, s.vl h)).map (·.2) = if h ∈ l then some (s.vl h) else none := by
    intro l
    induction l with
    | nil => rfl
    | cons y ys ih =>
      by_cases e : y = h
      · subst e; simp
      · rw [List.find?_cons_of_neg (by simpa using e), ih]
        simp [Ne.symm e]
  exact this s.hs

variable {ev : β → Value} {TC TM : TypeId} {w w' : World} {s : ChS β}

/-- A chain in memory whose neighbours make a ring. -/
structure Gd (ev : β → Value) (TC TM : TypeId) (w : World) (s : ChS β) : Prop where
  ch : Ch ev TC TM w s
  ring : Ring s.af s.bf s.hs
theorem Gd.nd0 (h : Gd ev TC TM w s) : (0 :: s.hs).Nodup := List.nodup_cons.2 ⟨fun h0 => by have := h.ch.pos 0 h0; omega, h.ch.nd⟩
theorem Gd.turns {F : Nat → Prop} (h : Gd ev TC TM w s) (ht : Turns F w w') (hF : ∀ b, s.foot b → ¬ F b) : Gd ev TC TM w' s := ⟨h.ch.turns ht hF, h.ring⟩
theorem Gd.below (h : Gd ev TC TM w s) {B : Nat} (hb : Below B w w') (hF : ∀ b, s.foot b → b < B) : Gd ev TC TM w' s := ⟨h.ch.below hb hF, h.ring⟩
theorem Gd.len_le (h : Gd ev TC TM w s) : (s.hs.length : Int) ≤ s.g := by
  have hp := h.ch.pos
  have hn := h.ch.nd
  have h0 := h.ch.g0
  have : s.hs.length ≤ s.g.toNat := by
    have key : ∀ (n : Nat) (l : List Int), l.Nodup → (∀ x ∈ l, 0 < x ∧ x ≤ (n : Int)) → l.length ≤ n := by
      intro n
      induction n with
      | zero => intro l _ hl; cases l with
        | nil => simp
        | cons x xs => have := hl x (by simp); omega
      | succ n ih =>
        intro l hn hl
        have h1 := ih (l.erase ((n : Int) + 1)) (hn.erase _) (fun x hx => by
          have hm := List.mem_of_mem_erase hx
          have := hl x hm
          have hne : x ≠ (n : Int) + 1 := fun e => by
            subst e
            exact (List.Nodup.not_mem_erase hn) hx
          omega)
        by_cases hm : (n : Int) + 1 ∈ l
        · rw [List.length_erase_of_mem hm] at h1; omega
        · rw [List.erase_of_not_mem hm] at h1; omega
    exact key s.g.toNat s.hs hn (fun x hx => by have := hp x hx; omega)
  omega

/-- What a call has made of a chain: the greatest handle and the row; only its own blocks, and new ones, have turned. -/
def ChTo (ev : β → Value) (TC TM : TypeId) (w w' : World) (s : ChS β) (g : Int) (R : List (Int × β)) : Prop :=
  ∃ s', Gd ev TC TM w' s' ∧ s'.C = s.C ∧ s'.g = g ∧ s'.row = R ∧ Turns s.foot w w' ∧ ∀ b, s'.foot b → s.foot b ∨ w.heap.size ≤ b
theorem ChTo.same (h : Gd ev TC TM w s) : ChTo ev TC TM w w s s.g s.row := ⟨s, h, rfl, rfl, rfl, Turns.refl _ _, fun _ => .inl⟩

theorem row_ext {hs : List Int} {f g : Int → β} (h : ∀ x ∈ hs, f x = g x) : hs.map (fun x => (x, f x)) = hs.map (fun x => (x, g x)) := List.map_congr_left fun x hx => by rw [h x hx]
theorem row_ne {hs : List Int} {f : Int → β} {o : Int} (h : o ∉ hs) : ∀ x ∈ hs.map (fun x => (x, f x)), x.1 ≠ o := by
  intro x hx
  obtain ⟨y, hy, rfl⟩ := List.mem_map.1 hx
  exact fun e => h (e ▸ hy)
end
end Go.Proofs.Ytblclpagfbpamaa
