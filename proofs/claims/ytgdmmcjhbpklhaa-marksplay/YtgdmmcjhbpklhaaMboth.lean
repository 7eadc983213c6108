/-
  Set of the program and of the reference side by side; the marks made anew out of their bytes. The conditions stand in each theorem.
-/
import Derived.Test.YtgdmmcjhbpklhaaMref3
import Derived.Test.YtgdmmcjhbpklhaaBrow
namespace Go.Proofs.Ytgdmmcjhbpklhaa
open Go.RowKit
set_option linter.unusedVariables false

/-- What Set answers, and what is set then. -/
def stE (s : Nat) (f : Nat → Bool) (x : Int) : Int := if x < 0 ∨ (s : Int) ≤ x then 5 else if f x.toNat then 6 else 0
def stF (s : Nat) (f : Nat → Bool) (x : Int) : Nat → Bool := if x < 0 ∨ (s : Int) ≤ x then f else if f x.toNat then f else put f x.toNat
theorem Mk.lt {w : World} {base p size : Nat} {f : Nat → Bool} (h : Mk w base p size f) : p < w.heap.size := by obtain ⟨_, _, _, A, c, hk, _⟩ := h; exact hk.lt
theorem turnsDrew {F : Nat → Prop} {w : World} (q : Nat) : Turns F w (w.drewN q) := ⟨rfl, rfl, rfl, Nat.le_refl _, fun _ _ _ => rfl⟩
def SetAny (w : World) (base p s : Nat) (f : Nat → Bool) (x : Int) (e : Ending) (w' : World) : Prop := e = .returned (.int .i64 (stE s f x)) ∧ Mk w' base p s (stF s f x) ∧ Turns (TB base w) w w'
theorem set_any (base p s : Nat) (f : Nat → Bool) (x : Int) (w : World) (h : Mk w base p s f) :
    Calls Try.prog 9 #[.pointer (some ⟨p, 0, none⟩), .int .i64 x] w (SetAny w base p s f x) := by
  unfold SetAny stE stF
  by_cases hx : x < 0 ∨ (s : Int) ≤ x
  · rw [if_pos hx, if_pos hx]
    exact (set_out base p s x f w h hx).mono fun e w' ⟨h1, h2⟩ => h2 ▸ ⟨h1, h, Turns.refl _ _⟩
  · rw [if_neg hx, if_neg hx]
    obtain ⟨i, rfl⟩ : ∃ i : Nat, x = i := ⟨x.toNat, by omega⟩
    rw [Int.toNat_natCast]
    cases hf : f i with
    | true =>
      rw [if_pos rfl, if_pos rfl]
      refine (set_dup base p s i f w h (by omega) hf).mono ?_
      rintro e w' ⟨h1, q, rfl⟩
      exact ⟨h1, h.drewN q, turnsDrew q⟩
    | false =>
      rw [if_neg (by simp), if_neg (by simp)]
      exact set_new base p s i f w h (by omega) hf
def RsetAny (w : World) (base q s : Nat) (f : Nat → Bool) (x : Int) (e : Ending) (w' : World) : Prop := e = .returned (.int .i64 (stE s f x)) ∧ Rm w' base q s (stF s f x) ∧ Turns (TMp base w) w w'
theorem rset_any (base q s : Nat) (f : Nat → Bool) (x : Int) (w : World) (h : Rm w base q s f) :
    Calls Try.prog 10 #[.pointer (some ⟨q, 0, none⟩), .int .i64 x] w (RsetAny w base q s f x) := by
  unfold RsetAny stE stF
  by_cases hx : x < 0 ∨ (s : Int) ≤ x
  · rw [if_pos hx, if_pos hx]
    exact (rset_out base q s x f w h hx).mono fun e w' ⟨h1, h2⟩ => h2 ▸ ⟨h1, h, Turns.refl _ _⟩
  · rw [if_neg hx, if_neg hx]
    obtain ⟨i, rfl⟩ : ∃ i : Nat, x = i := ⟨x.toNat, by omega⟩
    rw [Int.toNat_natCast]
    cases hf : f i with
    | true =>
      rw [if_pos rfl, if_pos rfl]
      exact (rset_dup base q s i f w h (by omega) hf).mono fun e w' ⟨h1, h2⟩ => h2 ▸ ⟨h1, h, Turns.refl _ _⟩
    | false =>
      rw [if_neg (by simp), if_neg (by simp)]
      exact rset_new base q s i f w h (by omega) hf
/-- The bytes of marks are bytes of marks of that size, and of these. -/
theorem fits_mbs {s : Nat} {f : Nat → Bool} (h : ∀ i, s ≤ i → f i = false) : fits s (mbs f (wid s)) := by
  refine (low_fits (mbs_bl _ _)).1 (mbs_congr fun i hi => ?_)
  rcases Nat.lt_or_ge i s with h1 | h1
  · rw [low_lt _ h1, fb_mbs _ _ _ hi]
  · rw [low_ge _ h1, h i h1]
theorem fb_mbs_eq {s : Nat} {f : Nat → Bool} (h : ∀ i, s ≤ i → f i = false) : fb (mbs f (wid s)) = f := by
  funext i
  rcases Nat.lt_or_ge i (8 * wid s) with h1 | h1
  · exact fb_mbs _ _ _ h1
  · rw [fb_ge (by rw [mbs_len]; exact h1), h i (by unfold wid at h1; omega)]
/-- Where an element of a row of ints lies. -/
theorem rowI {w : World} {a : Option Addr} {len cap : Nat} {zs : List Int} (h : IsRowK .i64 w a len cap zs) (hn : 0 < len) :
    ∃ b o, a = some ⟨b, o, none⟩ ∧ b < w.heap.size ∧ ∀ j, j < len → w.cell? ⟨b, o + j, none⟩ = some (.int .i64 (zs.getD j 0)) ∧ (Lit.int .i64 (zs.getD j 0)).wf = true := by
  rcases h with ⟨rfl, rfl, rfl, rfl⟩ | ⟨x, rfl, hl, hm, hz, hc, hw⟩
  · omega
  · obtain ⟨b, o, sp⟩ := x
    have h0 := hc 0 (by omega)
    have hsp : sp = none := by simpa [Addr.add] using World.cell?_spot h0
    subst hsp
    refine ⟨b, o, rfl, ?_, fun j hj => ⟨?_, ?_⟩⟩
    · rcases Nat.lt_or_ge b w.heap.size with hlt | hge
      · exact hlt
      · exfalso
        simp [Addr.add, World.cell?, Array.getElem?_eq_none hge] at h0
    · have h1 := hc j (by omega)
      have e1 : (Addr.add ⟨b, o, none⟩ j) = ⟨b, o + j, none⟩ := by
        unfold Addr.add
        by_cases h0 : j = 0
        · subst h0; simp
        · simp [h0]
      rw [e1] at h1
      exact h1
    · have hjz : j < zs.length := by omega
      rw [List.getD_eq_getElem?_getD, List.getElem?_eq_getElem hjz]
      exact hw _ (List.getElem_mem hjz)
theorem rowI_max {w : World} {a : Option Addr} {len cap : Nat} {zs : List Int} (h : IsRowK .i64 w a len cap zs) : len ≤ cap ∧ cap ≤ 9223372036854775807 := by
  rcases h with ⟨rfl, rfl, rfl, rfl⟩ | ⟨x, rfl, hl, hm, hz, hc, hw⟩
  · exact ⟨Nat.le_refl _, by omega⟩
  · exact ⟨hl, by unfold maxLen at hm; exact hm⟩
end Go.Proofs.Ytgdmmcjhbpklhaa
