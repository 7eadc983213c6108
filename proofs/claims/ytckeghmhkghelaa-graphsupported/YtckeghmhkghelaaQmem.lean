/-
  Snapshots in memory: a slice of ints that reads as a list (Ri), a slice of voters, each with its picks (Rv); and what a snapshot is, in lists. No conditions but those that each theorem names.
-/
import Derived.Test.YtckeghmhkghelaaChecked
import Derived.Test.YtckeghmhkghelaaKmem
import Derived.Test.YtckeghmhkghelaaBmem
namespace Go.Proofs.Ytckeghmhkghelaa
open Go.RowKit
set_option linter.unusedVariables false

/-- The int at place j, or 0. -/
def zl (zs : List Int) (j : Nat) : Int := zs.getD j 0
theorem zl_get (zs : List Int) (j : Nat) (h : j < zs.length) : zl zs j = zs[j] := by
  unfold zl; rw [List.getD_eq_getElem?_getD, List.getElem?_eq_getElem h]; rfl
theorem zl_some {zs : List Int} {j : Nat} {x : Int} (h : zs[j]? = some x) : zl zs j = x := by
  unfold zl; rw [List.getD_eq_getElem?_getD, h]; rfl
theorem mem_zl {zs : List Int} {x : Int} : x ∈ zs ↔ ∃ j, j < zs.length ∧ zl zs j = x := by
  rw [List.mem_iff_getElem]
  constructor
  · rintro ⟨j, hj, rfl⟩; exact ⟨j, hj, zl_get zs j hj⟩
  · rintro ⟨j, hj, rfl⟩; exact ⟨j, hj, (zl_get zs j hj).symm⟩

/-- The slice reads as these ints. -/
def Ri (w : World) (A : Option Addr) (n c : Nat) (zs : List Int) : Prop :=
  zs.length = n ∧ n ≤ c ∧ c ≤ 9223372036854775807 ∧ (∀ z ∈ zs, -9223372036854775808 ≤ z ∧ z ≤ 9223372036854775807) ∧ (0 < n → ∃ b o, A = some ⟨b, o, none⟩ ∧ b < w.heap.size ∧ ∀ j, j < n → w.cell? ⟨b, o + j, none⟩ = some (.int .i64 (zl zs j)))
section
variable {w w' : World} {A : Option Addr} {n c : Nat} {zs : List Int}
theorem Ri.len (h : Ri w A n c zs) : zs.length = n := h.1
theorem Ri.cap (h : Ri w A n c zs) : n ≤ c := h.2.1
theorem Ri.max (h : Ri w A n c zs) : c ≤ 9223372036854775807 := h.2.2.1
theorem Ri.at_ (h : Ri w A n c zs) (hn : 0 < n) : ∃ b o, A = some ⟨b, o, none⟩ ∧ b < w.heap.size ∧ ∀ j, j < n → w.cell? ⟨b, o + j, none⟩ = some (.int .i64 (zl zs j)) := h.2.2.2.2 hn
theorem Ri.bd (h : Ri w A n c zs) (j : Nat) : -9223372036854775808 ≤ zl zs j ∧ zl zs j ≤ 9223372036854775807 := by
  rcases Nat.lt_or_ge j zs.length with hj | hj
  · rw [zl_get zs j hj]; exact h.2.2.2.1 _ (List.getElem_mem hj)
  · unfold zl; rw [List.getD_eq_getElem?_getD, List.getElem?_eq_none hj]; simp
theorem Ri.below {B : Nat} (h : Ri w A n c zs) (hb : Below B w w') (hB : w.heap.size ≤ B) : Ri w' A n c zs :=
  ⟨h.1, h.2.1, h.2.2.1, h.2.2.2.1, fun hn => by
    obtain ⟨b, o, e, hlt, hc⟩ := h.at_ hn
    exact ⟨b, o, e, Nat.lt_of_lt_of_le hlt hb.size, fun j hj => (hb.cell (p := ⟨b, o + j, none⟩) (by show b < B; omega)).trans (hc j hj)⟩⟩
theorem Ri.nil (w : World) : Ri w none 0 0 [] := ⟨rfl, Nat.le_refl _, by omega, (fun z h => by cases h), fun h => by omega⟩
end

/-- Naturals, as ints. -/
def ints (xs : List Nat) : List Int := xs.map fun (x : Nat) => (x : Int)
theorem ints_len (xs : List Nat) : (ints xs).length = xs.length := by simp [ints]
theorem zl_ints (xs : List Nat) (j : Nat) : zl (ints xs) j = (el xs j : Nat) := by
  rcases Nat.lt_or_ge j xs.length with h | h
  · rw [zl_get _ _ (by rw [ints_len]; exact h), el_get _ _ h]; simp [ints]
  · rw [el_ge _ _ h]; unfold zl; rw [List.getD_eq_getElem?_getD, List.getElem?_eq_none (by rw [ints_len]; exact h)]; rfl
theorem mem_ints {xs : List Nat} {x : Nat} : (x : Int) ∈ ints xs ↔ x ∈ xs := by
  unfold ints
  rw [List.mem_map]
  constructor
  · rintro ⟨y, hy, e⟩; obtain rfl : y = x := by omega
    exact hy
  · intro h; exact ⟨x, h, rfl⟩
theorem ri_of_rk {w : World} {A : Option Addr} {n c : Nat} {xs : List Nat} (h : Rk .i64 w A n c xs) (hX : Bl 9223372036854775808 xs) : Ri w A n c (ints xs) :=
  ⟨by rw [ints_len]; exact h.len, h.cap, h.max, fun z hz => by
    unfold ints at hz
    obtain ⟨y, hy, rfl⟩ := List.mem_map.1 hz
    have := hX y hy
    omega, fun hn => by
    obtain ⟨b, o, e, hlt, hc⟩ := h.at_ hn
    exact ⟨b, o, e, hlt, fun j hj => by rw [zl_ints]; exact hc j hj⟩⟩

/-- A voter: its number, its stake, its picks as a slice and as a list. -/
structure Vr where
  id : Int
  st : Nat
  a : Option Addr
  n : Nat
  c : Nat
  ps : List Int
/-- Its three cells. -/
def Vr.cells (v : Vr) : Array Value := #[.int .i64 v.id, .int .u64 (v.st : Int), .slice v.a v.n v.c]
def Vr.val (v : Vr) : Value := .agg #[.int .i64 v.id, .int .u64 (v.st : Int), .slice v.a v.n v.c]
def Vr.ok (v : Vr) : Prop := v.st < 18446744073709551616 ∧ -9223372036854775808 ≤ v.id ∧ v.id ≤ 9223372036854775807

/-- The slice reads as these voters. -/
def Rv (w : World) (A : Option Addr) (n c : Nat) (vs : List Vr) : Prop :=
  vs.length = n ∧ n ≤ c ∧ c ≤ 9223372036854775807 ∧ (∀ v ∈ vs, v.ok ∧ Ri w v.a v.n v.c v.ps) ∧ (0 < n → ∃ b o, A = some ⟨b, o, none⟩ ∧ b < w.heap.size ∧ ∀ j v, vs[j]? = some v → w.cell? ⟨b, o + j * 3, none⟩ = some (.int .i64 v.id) ∧ w.cell? ⟨b, o + j * 3 + 1, none⟩ = some (.int .u64 (v.st : Int)) ∧ w.cell? ⟨b, o + j * 3 + 2, none⟩ = some (.slice v.a v.n v.c))
section
variable {w w' : World} {A : Option Addr} {n c : Nat} {vs : List Vr}
theorem Rv.len (h : Rv w A n c vs) : vs.length = n := h.1
theorem Rv.cap (h : Rv w A n c vs) : n ≤ c := h.2.1
theorem Rv.max (h : Rv w A n c vs) : c ≤ 9223372036854775807 := h.2.2.1
theorem Rv.at_ (h : Rv w A n c vs) {j : Nat} (hj : j < n) : ∃ b o v, A = some ⟨b, o, none⟩ ∧ b < w.heap.size ∧ vs[j]? = some v ∧ v.ok ∧ Ri w v.a v.n v.c v.ps ∧ w.cell? ⟨b, o + j * 3, none⟩ = some (.int .i64 v.id) ∧ w.cell? ⟨b, o + j * 3 + 1, none⟩ = some (.int .u64 (v.st : Int)) ∧ w.cell? ⟨b, o + j * 3 + 2, none⟩ = some (.slice v.a v.n v.c) := by
  obtain ⟨h1, h2, h3, h4, h5⟩ := h
  obtain ⟨b, o, e, hb, hc⟩ := h5 (by omega)
  obtain ⟨v, hv⟩ : ∃ v, vs[j]? = some v := ⟨_, List.getElem?_eq_getElem (by omega)⟩
  obtain ⟨ok, ri⟩ := h4 v (List.mem_of_getElem? hv)
  exact ⟨b, o, v, e, hb, hv, ok, ri, hc j v hv⟩
theorem Rv.below {B : Nat} (h : Rv w A n c vs) (hb : Below B w w') (hB : w.heap.size ≤ B) : Rv w' A n c vs :=
  ⟨h.1, h.2.1, h.2.2.1, fun v hv => ⟨(h.2.2.2.1 v hv).1, (h.2.2.2.1 v hv).2.below hb hB⟩, fun hn => by
    obtain ⟨b, o, e, hlt, hc⟩ := h.2.2.2.2 hn
    refine ⟨b, o, e, Nat.lt_of_lt_of_le hlt hb.size, fun j v hv => ?_⟩
    obtain ⟨c0, c1, c2⟩ := hc j v hv
    have hl : b < B := by omega
    exact ⟨(hb.cell (p := ⟨b, o + j * 3, none⟩) hl).trans c0, (hb.cell (p := ⟨b, o + j * 3 + 1, none⟩) hl).trans c1, (hb.cell (p := ⟨b, o + j * 3 + 2, none⟩) hl).trans c2⟩⟩
theorem Rv.nil (w : World) : Rv w none 0 0 [] := ⟨rfl, Nat.le_refl _, by omega, (fun z h => by cases h), fun h => by omega⟩
end

/-- A snapshot: where its voters and its candidates lie, and what they are. -/
structure Sn where
  A : Option Addr
  n : Nat
  c : Nat
  B : Option Addr
  m : Nat
  d : Nat
  vs : List Vr
  cs : List Int
def Sn.val (s : Sn) : Value := .agg #[.slice s.A s.n s.c, .slice s.B s.m s.d]
/-- It lies so in memory. -/
def Sn.In (w : World) (s : Sn) : Prop := Rv w s.A s.n s.c s.vs ∧ Ri w s.B s.m s.d s.cs
theorem Sn.In.below {w w' : World} {B : Nat} {s : Sn} (h : s.In w) (hb : Below B w w') (hB : w.heap.size ≤ B) : s.In w' := ⟨h.1.below hb hB, h.2.below hb hB⟩

/-- A bool is answered, and what was there is as it was. -/
def OutF (w : World) (b : Bool) : Ending → World → Prop := fun e w' => e = .returned (.bool b) ∧ Below w.heap.size w w'

/-! What a snapshot is, in lists. -/
/-- The one before, or -1. -/
def prv (zs : List Int) (j : Nat) : Int := if j = 0 then -1 else zl zs (j - 1)
/-- At most so many numbers, from 0 to 2^31 - 1, each greater than the one before. -/
def Asc (most : Int) (zs : List Int) : Prop := (zs.length : Int) ≤ most ∧ ∀ j, j < zs.length → prv zs j < zl zs j ∧ zl zs j ≤ 2147483647
instance (most : Int) (zs : List Int) : Decidable (Asc most zs) := by unfold Asc; infer_instance
theorem prv_succ (zs : List Int) (j : Nat) : prv zs (j + 1) = zl zs j := rfl
theorem Asc.lt {most : Int} {zs : List Int} (h : Asc most zs) {i j : Nat} (hij : i < j) (hj : j < zs.length) : zl zs i < zl zs j := by
  induction j with
  | zero => omega
  | succ j ih =>
    have h1 := (h.2 (j + 1) hj).1
    rw [prv_succ] at h1
    rcases Nat.lt_or_ge i j with h2 | h2
    · have := ih h2 (by omega); omega
    · obtain rfl : i = j := by omega
      exact h1
theorem Asc.ge {most : Int} {zs : List Int} (h : Asc most zs) (j : Nat) (hj : j < zs.length) : 0 ≤ zl zs j := by
  have h0 := (h.2 0 (by omega)).1
  rw [show prv zs 0 = -1 from rfl] at h0
  rcases Nat.eq_zero_or_pos j with e | e
  · subst e; omega
  · have := h.lt e hj; omega
theorem Asc.le {most : Int} {zs : List Int} (h : Asc most zs) (j : Nat) (hj : j < zs.length) : zl zs j ≤ 2147483647 := (h.2 j hj).2
theorem Asc.pair {most : Int} {zs : List Int} (h : Asc most zs) : zs.Pairwise (· < ·) := by
  rw [List.pairwise_iff_getElem]
  intro i j hi hj hij
  have := h.lt hij hj
  rwa [zl_get zs i hi, zl_get zs j hj] at this
theorem asc_of_pair {most : Int} {zs : List Int} (hl : (zs.length : Int) ≤ most) (hp : zs.Pairwise (· < ·)) (hb : ∀ z ∈ zs, 0 ≤ z ∧ z ≤ 2147483647) : Asc most zs := by
  refine ⟨hl, fun j hj => ⟨?_, ?_⟩⟩
  · have h1 := hb _ (List.getElem_mem hj)
    rw [← zl_get zs j hj] at h1
    rcases Nat.eq_zero_or_pos j with e | e
    · subst e; rw [show prv zs 0 = -1 from rfl]; omega
    · have := List.pairwise_iff_getElem.1 hp (j - 1) j (by omega) hj (by omega)
      rw [← zl_get zs j hj, ← zl_get zs (j - 1) (by omega)] at this
      rw [show prv zs j = zl zs (j - 1) from if_neg (by omega)]
      exact this
  · rw [zl_get zs j hj]; exact (hb _ (List.getElem_mem hj)).2
end Go.Proofs.Ytckeghmhkghelaa
