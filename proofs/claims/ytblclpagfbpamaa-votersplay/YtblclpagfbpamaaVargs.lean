/-
  A script of calls that is handed in: a slice of structs of four numbers each, as a list. For every slice that can be read.
-/
import Derived.Test.YtblclpagfbpamaaChecked
import Derived.Test.YtblclpagfbpamaaSrow
import Derived.Deep.Slices
import Derived.Deep.Fields
import Derived.ChangeSame
import Derived.WalkKit
import Derived.Below
namespace Go.Proofs.Ytblclpagfbpamaa
open Go.ChangeShapes Go.WideShapes Go.Deep Go.RowKit
set_option linter.unusedVariables false

/-- A call: its kind and three numbers. -/
structure Cl where
  k : Int
  a : Int
  b : Int
  v : Int
/-- Each number is a 64-bit one. -/
def Cl.ok (o : Cl) : Prop := (Lit.int .i64 o.k).wf = true ∧ (Lit.int .i64 o.a).wf = true ∧ (Lit.int .i64 o.b).wf = true ∧ (Lit.int .u64 o.v).wf = true
/-- The slice reads as these calls. -/
def IsOps (w : World) (A : Option Addr) (n c : Nat) (os : List Cl) : Prop :=
  os.length = n ∧ n ≤ c ∧ c ≤ maxLen ∧ (A = none → n = 0 ∧ c = 0) ∧ ∀ x, A = some x → (0 < n → x.block < w.heap.size) ∧ ∀ i o, os[i]? = some o → o.ok ∧ w.cell? (x.add (i * 4)) = some (.int .i64 o.k) ∧ w.cell? (x.add (i * 4 + 1)) = some (.int .i64 o.a) ∧ w.cell? (x.add (i * 4 + 2)) = some (.int .i64 o.b) ∧ w.cell? (x.add (i * 4 + 3)) = some (.int .u64 o.v)

theorem cell_lt {w : World} {x : Addr} {v : Value} (h : w.cell? x = some v) : x.block < w.heap.size := by
  rcases Nat.lt_or_ge x.block w.heap.size with h1 | h1
  · exact h1
  · unfold World.cell? at h
    rw [Array.getElem?_eq_none h1] at h
    cases h
theorem add_blk (x : Addr) (n : Nat) : (x.add n).block = x.block := by unfold Addr.add; split <;> rfl
theorem add_two (x : Addr) (i j : Nat) : (x.add i).add j = x.add (i + j) := by
  unfold Addr.add
  by_cases hi : i = 0 <;> by_cases hj : j = 0 <;> simp [hi, hj, Nat.add_assoc]
theorem list_of {α : Type} {n : Nat} {p : Nat → α → Prop} (h : ∀ i, i < n → ∃ o, p i o) : ∃ os : List α, os.length = n ∧ ∀ i o, os[i]? = some o → p i o := by
  induction n with
  | zero => exact ⟨[], rfl, by simp⟩
  | succ n ih =>
    obtain ⟨os, hl, hp⟩ := ih (fun i hi => h i (by omega))
    obtain ⟨o, ho⟩ := h n (by omega)
    refine ⟨os ++ [o], by simp [hl], fun i q hq => ?_⟩
    rcases Nat.lt_or_ge i n with h1 | h1
    · rw [List.getElem?_append_left (by omega)] at hq
      exact hp i q hq
    · rw [List.getElem?_append_right (by omega)] at hq
      have : i = n := by
        rcases Nat.lt_or_ge n i with h2 | h2
        · rw [List.getElem?_eq_none (by simp; omega)] at hq; cases hq
        · omega
      subst this
      simp [hl] at hq
      subst hq
      exact ho

set_option maxRecDepth 100000 in
theorem open_ops {H : Type} {enc : TypeId × Value → H} {w : World} {base : Nat} {spare : Nat → Bool} {held : Bool} {fuel : Nat} {A : Option Addr} {n c : Nat} {x : DataW H × List MemPlace}
    (h : DataW.trod enc Try.prog w base spare held fuel 23 [.slice A n c] = some x) : ∃ os, IsOps w A n c os := by
  have hC : Try.prog.cellsOf 36 = 4 := by kernel_rfl
  rcases open_slice Try.underlying23 h with ⟨hcs, _⟩ | ⟨a, len, cap, m, f, D, Pl, hcs, hb, hl, hm, hmm, hx, hi⟩
  · simp at hcs
    obtain ⟨rfl, rfl, rfl⟩ := hcs
    exact ⟨[], rfl, Nat.le_refl _, Nat.zero_le _, fun _ => ⟨rfl, rfl⟩, fun x e => by cases e⟩
  · simp at hcs
    obtain ⟨rfl, rfl, rfl⟩ := hcs
    have hnm : n ≤ m := by rw [hmm]; split <;> omega
    have key : ∀ i, i < n → ∃ o : Cl, o.ok ∧ w.cell? (a.add (i * 4)) = some (.int .i64 o.k) ∧ w.cell? (a.add (i * 4 + 1)) = some (.int .i64 o.a) ∧ w.cell? (a.add (i * 4 + 2)) = some (.int .i64 o.b) ∧ w.cell? (a.add (i * 4 + 3)) = some (.int .u64 o.v) := by
      intro i hin
      obtain ⟨cs', hc', ht'⟩ := hi i (by omega)
      rw [hC] at hc'
      obtain ⟨ys, n', hn', hy, hlen, hyl, hf⟩ := DataW.trod_struct Try.underlying36 ht'
      obtain ⟨_, hcl, hat⟩ := World.cells?_some hc'
      have hone : oneCellFields Try.prog _ = true := (by kernel_rfl : oneCellFields Try.prog (match Try.prog.underlying 36 with | some (.struct fs) => fs | _ => #[]) = true)
      have part : ∀ j, j < 3 → ∃ z : Int, (Lit.int .i64 z).wf = true ∧ w.cell? (a.add (i * 4 + j)) = some (.int .i64 z) := by
        intro j hj
        have hcell := hat j (by omega)
        rw [add_two] at hcell
        have hv : cs'[j]? = some (cs'[j]'(by omega)) := List.getElem?_eq_getElem (by omega)
        rw [hv] at hcell
        have h1 : (cs'.drop j).take 1 = [cs'[j]'(by omega)] := by
          rw [List.drop_eq_getElem_cons (by omega)]; rfl
        have h2 : ∃ y, DataW.trod enc Try.prog w base spare held n' 3 [cs'[j]'(by omega)] = some y := by
          rw [← h1]
          clear h1 hv hcell
          match j, hj with
          | 0, _ => exact ⟨_, (hf 0 _ rfl).trans (List.getElem?_eq_getElem (by rw [hyl]; decide))⟩
          | 1, _ => exact ⟨_, (hf 1 _ rfl).trans (List.getElem?_eq_getElem (by rw [hyl]; decide))⟩
          | 2, _ => exact ⟨_, (hf 2 _ rfl).trans (List.getElem?_eq_getElem (by rw [hyl]; decide))⟩
        obtain ⟨y, hy2⟩ := h2
        obtain ⟨z, hz, _, hw⟩ := DataW.trod_int Try.underlying3 hy2
        simp at hz
        rw [hz] at hcell
        exact ⟨z, hw, hcell⟩
      have last : ∃ z : Int, (Lit.int .u64 z).wf = true ∧ w.cell? (a.add (i * 4 + 3)) = some (.int .u64 z) := by
        have hcell := hat 3 (by omega)
        rw [add_two] at hcell
        have hv : cs'[3]? = some (cs'[3]'(by omega)) := List.getElem?_eq_getElem (by omega)
        rw [hv] at hcell
        have h1 : (cs'.drop 3).take 1 = [cs'[3]'(by omega)] := by
          rw [List.drop_eq_getElem_cons (by omega)]; rfl
        have h2 : ∃ y, DataW.trod enc Try.prog w base spare held n' 34 [cs'[3]'(by omega)] = some y := by
          rw [← h1]
          exact ⟨_, (hf 3 _ rfl).trans (List.getElem?_eq_getElem (by rw [hyl]; decide))⟩
        obtain ⟨y, hy2⟩ := h2
        obtain ⟨z, hz, _, hw⟩ := DataW.trod_int Try.underlying34 hy2
        simp at hz
        rw [hz] at hcell
        exact ⟨z, hw, hcell⟩
      obtain ⟨z0, w0, c0⟩ := part 0 (by omega)
      obtain ⟨z1, w1, c1⟩ := part 1 (by omega)
      obtain ⟨z2, w2, c2⟩ := part 2 (by omega)
      obtain ⟨z3, w3, c3⟩ := last
      exact ⟨⟨z0, z1, z2, z3⟩, ⟨w0, w1, w2, w3⟩, c0, c1, c2, c3⟩
    obtain ⟨os, hl', hp⟩ := list_of key
    refine ⟨os, hl', hl, hm, (fun e => (by cases e)), fun x e => ?_⟩
    cases e
    refine ⟨fun h0 => ?_, hp⟩
    obtain ⟨o, _, h1, _⟩ := key 0 h0
    have := cell_lt h1
    rwa [add_blk] at this
theorem IsOps.below {w w' : World} {B : Nat} {A : Option Addr} {n c : Nat} {os : List Cl} (h : IsOps w A n c os) (hb : Below B w w') (hB : w.heap.size ≤ B) : IsOps w' A n c os := by
  obtain ⟨h1, h2, h3, h4, h5⟩ := h
  refine ⟨h1, h2, h3, h4, fun x e => ?_⟩
  obtain ⟨h6, h7⟩ := h5 x e
  refine ⟨fun h0 => Nat.lt_of_lt_of_le (h6 h0) hb.size, fun i o ho => ?_⟩
  have hi : 0 < n := by
    rw [← h1]
    have := (List.getElem?_eq_some_iff.1 ho).1
    omega
  have hlt : x.block < B := Nat.lt_of_lt_of_le (h6 hi) hB
  obtain ⟨k, c0, c1, c2, c3⟩ := h7 i o ho
  exact ⟨k, (hb.cell (p := x.add (i * 4)) (by rw [add_blk]; exact hlt)).trans c0, (hb.cell (p := x.add (i * 4 + 1)) (by rw [add_blk]; exact hlt)).trans c1, (hb.cell (p := x.add (i * 4 + 2)) (by rw [add_blk]; exact hlt)).trans c2, (hb.cell (p := x.add (i * 4 + 3)) (by rw [add_blk]; exact hlt)).trans c3⟩
theorem IsOps.at_ {w : World} {A : Option Addr} {n c : Nat} {os : List Cl} (h : IsOps w A n c os) {i : Nat} (hi : i < n) : ∃ b o cl, A = some ⟨b, o, none⟩ ∧ b < w.heap.size ∧ os[i]? = some cl ∧ cl.ok ∧ w.cell? ⟨b, o + i * 4, none⟩ = some (.int .i64 cl.k) ∧ w.cell? ⟨b, o + i * 4 + 1, none⟩ = some (.int .i64 cl.a) ∧ w.cell? ⟨b, o + i * 4 + 2, none⟩ = some (.int .i64 cl.b) ∧ w.cell? ⟨b, o + i * 4 + 3, none⟩ = some (.int .u64 cl.v) := by
  obtain ⟨h1, h2, h3, h4, h5⟩ := h
  obtain ⟨cl, hcl⟩ : ∃ cl, os[i]? = some cl := ⟨_, List.getElem?_eq_getElem (by omega)⟩
  cases A with
  | none => have := (h4 rfl).1; omega
  | some x =>
    obtain ⟨hb, hc⟩ := h5 x rfl
    obtain ⟨hok, c0, c1, c2, c3⟩ := hc i cl hcl
    obtain ⟨b, o, sp⟩ := x
    obtain ⟨cl0, hcl0⟩ : ∃ cl, os[0]? = some cl := ⟨_, List.getElem?_eq_getElem (by omega)⟩
    have z0 := (hc 0 cl0 hcl0).2.1
    have hsp : sp = none := by simpa [Addr.add] using World.cell?_spot z0
    subst hsp
    clear z0
    rw [addr_add] at c0 c1 c2 c3
    exact ⟨b, o, cl, rfl, hb (by omega), hcl, hok, c0, by rw [Nat.add_assoc]; exact c1, by rw [Nat.add_assoc]; exact c2, by rw [Nat.add_assoc]; exact c3⟩
end Go.Proofs.Ytblclpagfbpamaa
