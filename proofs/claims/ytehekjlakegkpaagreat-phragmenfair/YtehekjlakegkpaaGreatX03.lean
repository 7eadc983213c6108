/-
  Snapshots in memory: a slice of ints that reads as a list (Ri), a slice of voters, each with its picks (Rv); and what a snapshot is, in lists. No conditions but those that each theorem names.
  slices.Sort over a row of ints of the call's own: the same numbers, in ascending order; nothing below the row turns. For rows of fewer than 2^62 ints.
  What graph.ascending answers: whether a list has at most that many numbers, from 0 to 2^31 - 1, each greater than the one before. For every slice of ints that can be read.
  graph.stakes and graph.numbered: the voters' stakes in a row of its own; whether their numbers are from 0 to 2^31 - 1 and all different. For snapshots of at most 32 voters that can be read.
  What money.Add, money.Sub, the reference's Add and Sub answer: the sum or 3 (too great), the difference or 8 (too little); and the law's awake: true. For all numbers below 2^64.
  What money.Sum and the reference's Sum answer: the sum of a list, or 3 (too great). For every slice of numbers below 2^64 that can be read.
  graph.Formed answers whether a snapshot is well formed. For every snapshot that can be read.
-/
import Derived.Test.YtehekjlakegkpaaGreatChecked
import Derived.Test.YtehekjlakegkpaaGreatX00
import Derived.Test.YtehekjlakegkpaaGreatX02
import Derived.Sort.OwnSortedInts
import Derived.Test.YtehekjlakegkpaaGreatProg
import Derived.Laws.Externs
section
namespace Go.Proofs.YtehekjlakegkpaaGreat
open Go.RowKit
set_option linter.unusedVariables false

/-- The int at place j, or 0. -/
def zl (zs : List Int) (j : Nat) : Int := zs.getD j 0
theorem zl_get (zs : List Int) (j : Nat) (h : j < zs.length) : zl zs j = zs[j] := by
  unfold zl; rw [List.getD_eq_getElem?_getD, List.getElem?_eq_getElem h]; rfl
theorem zl_some {zs : List Int} {j : Nat} {x : Int} (h : zs[j]? = some x) : zl zs j = x := by
  unfold zl; rw [List.getD_eq_getElem?_getD, h]; rfl
theorem mem_zl {zs : List Int} {x : Int} : x ∈ zs ↔ ∃ j, j < zs.length ∧ zl zs j = x := by
  rw [List.mem_iff_getElem]
  constructor
  · rintro ⟨j, hj, rfl⟩; exact ⟨j, hj, zl_get zs j hj⟩
  · rintro ⟨j, hj, rfl⟩; exact ⟨j, hj, (zl_get zs j hj).symm⟩

/-- The slice reads as these ints. -/
def Ri (w : World) (A : Option Addr) (n c : Nat) (zs : List Int) : Prop :=
  zs.length = n ∧ n ≤ c ∧ c ≤ 9223372036854775807 ∧ (∀ z ∈ zs, -9223372036854775808 ≤ z ∧ z ≤ 9223372036854775807) ∧ (0 < n → ∃ b o, A = some ⟨b, o, none⟩ ∧ b < w.heap.size ∧ ∀ j, j < n → w.cell? ⟨b, o + j, none⟩ = some (.int .i64 (zl zs j)))
section
variable {w w' : World} {A : Option Addr} {n c : Nat} {zs : List Int}
theorem Ri.len (h : Ri w A n c zs) : zs.length = n := h.1
theorem Ri.cap (h : Ri w A n c zs) : n ≤ c := h.2.1
theorem Ri.max (h : Ri w A n c zs) : c ≤ 9223372036854775807 := h.2.2.1
theorem Ri.at_ (h : Ri w A n c zs) (hn : 0 < n) : ∃ b o, A = some ⟨b, o, none⟩ ∧ b < w.heap.size ∧ ∀ j, j < n → w.cell? ⟨b, o + j, none⟩ = some (.int .i64 (zl zs j)) := h.2.2.2.2 hn
theorem Ri.bd (h : Ri w A n c zs) (j : Nat) : -9223372036854775808 ≤ zl zs j ∧ zl zs j ≤ 9223372036854775807 := by
  rcases Nat.lt_or_ge j zs.length with hj | hj
  · rw [zl_get zs j hj]; exact h.2.2.2.1 _ (List.getElem_mem hj)
  · unfold zl; rw [List.getD_eq_getElem?_getD, List.getElem?_eq_none hj]; simp
theorem Ri.below {B : Nat} (h : Ri w A n c zs) (hb : Below B w w') (hB : w.heap.size ≤ B) : Ri w' A n c zs :=
  ⟨h.1, h.2.1, h.2.2.1, h.2.2.2.1, fun hn => by
    obtain ⟨b, o, e, hlt, hc⟩ := h.at_ hn
    exact ⟨b, o, e, Nat.lt_of_lt_of_le hlt hb.size, fun j hj => (hb.cell (p := ⟨b, o + j, none⟩) (by show b < B; omega)).trans (hc j hj)⟩⟩
theorem Ri.nil (w : World) : Ri w none 0 0 [] := ⟨rfl, Nat.le_refl _, by omega, (fun z h => by cases h), fun h => by omega⟩
end

/-- Naturals, as ints. -/
def ints (xs : List Nat) : List Int := xs.map fun (x : Nat) => (x : Int)
theorem ints_len (xs : List Nat) : (ints xs).length = xs.length := by simp [ints]
theorem zl_ints (xs : List Nat) (j : Nat) : zl (ints xs) j = (el xs j : Nat) := by
  rcases Nat.lt_or_ge j xs.length with h | h
  · rw [zl_get _ _ (by rw [ints_len]; exact h), el_get _ _ h]; simp [ints]
  · rw [el_ge _ _ h]; unfold zl; rw [List.getD_eq_getElem?_getD, List.getElem?_eq_none (by rw [ints_len]; exact h)]; rfl
theorem mem_ints {xs : List Nat} {x : Nat} : (x : Int) ∈ ints xs ↔ x ∈ xs := by
  unfold ints
  rw [List.mem_map]
  constructor
  · rintro ⟨y, hy, e⟩; obtain rfl : y = x := by omega
    exact hy
  · intro h; exact ⟨x, h, rfl⟩
theorem ri_of_rk {w : World} {A : Option Addr} {n c : Nat} {xs : List Nat} (h : Rk .i64 w A n c xs) (hX : Bl 9223372036854775808 xs) : Ri w A n c (ints xs) :=
  ⟨by rw [ints_len]; exact h.len, h.cap, h.max, fun z hz => by
    unfold ints at hz
    obtain ⟨y, hy, rfl⟩ := List.mem_map.1 hz
    have := hX y hy
    omega, fun hn => by
    obtain ⟨b, o, e, hlt, hc⟩ := h.at_ hn
    exact ⟨b, o, e, hlt, fun j hj => by rw [zl_ints]; exact hc j hj⟩⟩

/-- A voter: its number, its stake, its picks as a slice and as a list. -/
structure Vr where
  id : Int
  st : Nat
  a : Option Addr
  n : Nat
  c : Nat
  ps : List Int
/-- Its three cells. -/
def Vr.cells (v : Vr) : Array Value := #[.int .i64 v.id, .int .u64 (v.st : Int), .slice v.a v.n v.c]
def Vr.val (v : Vr) : Value := .agg #[.int .i64 v.id, .int .u64 (v.st : Int), .slice v.a v.n v.c]
def Vr.ok (v : Vr) : Prop := v.st < 18446744073709551616 ∧ -9223372036854775808 ≤ v.id ∧ v.id ≤ 9223372036854775807

/-- The slice reads as these voters. -/
def Rv (w : World) (A : Option Addr) (n c : Nat) (vs : List Vr) : Prop :=
  vs.length = n ∧ n ≤ c ∧ c ≤ 9223372036854775807 ∧ (∀ v ∈ vs, v.ok ∧ Ri w v.a v.n v.c v.ps) ∧ (0 < n → ∃ b o, A = some ⟨b, o, none⟩ ∧ b < w.heap.size ∧ ∀ j v, vs[j]? = some v → w.cell? ⟨b, o + j * 3, none⟩ = some (.int .i64 v.id) ∧ w.cell? ⟨b, o + j * 3 + 1, none⟩ = some (.int .u64 (v.st : Int)) ∧ w.cell? ⟨b, o + j * 3 + 2, none⟩ = some (.slice v.a v.n v.c))
section
variable {w w' : World} {A : Option Addr} {n c : Nat} {vs : List Vr}
theorem Rv.len (h : Rv w A n c vs) : vs.length = n := h.1
theorem Rv.cap (h : Rv w A n c vs) : n ≤ c := h.2.1
theorem Rv.max (h : Rv w A n c vs) : c ≤ 9223372036854775807 := h.2.2.1
theorem Rv.at_ (h : Rv w A n c vs) {j : Nat} (hj : j < n) : ∃ b o v, A = some ⟨b, o, none⟩ ∧ b < w.heap.size ∧ vs[j]? = some v ∧ v.ok ∧ Ri w v.a v.n v.c v.ps ∧ w.cell? ⟨b, o + j * 3, none⟩ = some (.int .i64 v.id) ∧ w.cell? ⟨b, o + j * 3 + 1, none⟩ = some (.int .u64 (v.st : Int)) ∧ w.cell? ⟨b, o + j * 3 + 2, none⟩ = some (.slice v.a v.n v.c) := by
  obtain ⟨h1, h2, h3, h4, h5⟩ := h
  obtain ⟨b, o, e, hb, hc⟩ := h5 (by omega)
  obtain ⟨v, hv⟩ : ∃ v, vs[j]? = some v := ⟨_, List.getElem?_eq_getElem (by omega)⟩
  obtain ⟨ok, ri⟩ := h4 v (List.mem_of_getElem? hv)
  exact ⟨b, o, v, e, hb, hv, ok, ri, hc j v hv⟩
theorem Rv.below {B : Nat} (h : Rv w A n c vs) (hb : Below B w w') (hB : w.heap.size ≤ B) : Rv w' A n c vs :=
  ⟨h.1, h.2.1, h.2.2.1, fun v hv => ⟨(h.2.2.2.1 v hv).1, (h.2.2.2.1 v hv).2.below hb hB⟩, fun hn => by
    obtain ⟨b, o, e, hlt, hc⟩ := h.2.2.2.2 hn
    refine ⟨b, o, e, Nat.lt_of_lt_of_le hlt hb.size, fun j v hv => ?_⟩
    obtain ⟨c0, c1, c2⟩ := hc j v hv
    have hl : b < B := by omega
    exact ⟨(hb.cell (p := ⟨b, o + j * 3, none⟩) hl).trans c0, (hb.cell (p := ⟨b, o + j * 3 + 1, none⟩) hl).trans c1, (hb.cell (p := ⟨b, o + j * 3 + 2, none⟩) hl).trans c2⟩⟩
theorem Rv.nil (w : World) : Rv w none 0 0 [] := ⟨rfl, Nat.le_refl _, by omega, (fun z h => by cases h), fun h => by omega⟩
end

/-- A snapshot: where its voters and its candidates lie, and what they are. -/
structure Sn where
  A : Option Addr
  n : Nat
  c : Nat
  B : Option Addr
  m : Nat
  d : Nat
  vs : List Vr
  cs : List Int
def Sn.val (s : Sn) : Value := .agg #[.slice s.A s.n s.c, .slice s.B s.m s.d]
/-- It lies so in memory. -/
def Sn.In (w : World) (s : Sn) : Prop := Rv w s.A s.n s.c s.vs ∧ Ri w s.B s.m s.d s.cs
theorem Sn.In.below {w w' : World} {B : Nat} {s : Sn} (h : s.In w) (hb : Below B w w') (hB : w.heap.size ≤ B) : s.In w' := ⟨h.1.below hb hB, h.2.below hb hB⟩

/-- A bool is answered, and what was there is as it was. -/
def OutF (w : World) (b : Bool) : Ending → World → Prop := fun e w' => e = .returned (.bool b) ∧ Below w.heap.size w w'

/-! What a snapshot is, in lists. -/
/-- The one before, or -1. -/
def prv (zs : List Int) (j : Nat) : Int := if j = 0 then -1 else zl zs (j - 1)
/-- At most so many numbers, from 0 to 2^31 - 1, each greater than the one before. -/
def Asc (most : Int) (zs : List Int) : Prop := (zs.length : Int) ≤ most ∧ ∀ j, j < zs.length → prv zs j < zl zs j ∧ zl zs j ≤ 2147483647
instance (most : Int) (zs : List Int) : Decidable (Asc most zs) := by unfold Asc; infer_instance
theorem prv_succ (zs : List Int) (j : Nat) : prv zs (j + 1) = zl zs j := rfl
theorem Asc.lt {most : Int} {zs : List Int} (h : Asc most zs) {i j : Nat} (hij : i < j) (hj : j < zs.length) : zl zs i < zl zs j := by
  induction j with
  | zero => omega
  | succ j ih =>
    have h1 := (h.2 (j + 1) hj).1
    rw [prv_succ] at h1
    rcases Nat.lt_or_ge i j with h2 | h2
    · have := ih h2 (by omega); omega
    · obtain rfl : i = j := by omega
      exact h1
theorem Asc.ge {most : Int} {zs : List Int} (h : Asc most zs) (j : Nat) (hj : j < zs.length) : 0 ≤ zl zs j := by
  have h0 := (h.2 0 (by omega)).1
  rw [show prv zs 0 = -1 from rfl] at h0
  rcases Nat.eq_zero_or_pos j with e | e
  · subst e; omega
  · have := h.lt e hj; omega
theorem Asc.le {most : Int} {zs : List Int} (h : Asc most zs) (j : Nat) (hj : j < zs.length) : zl zs j ≤ 2147483647 := (h.2 j hj).2
theorem Asc.pair {most : Int} {zs : List Int} (h : Asc most zs) : zs.Pairwise (· < ·) := by
  rw [List.pairwise_iff_getElem]
  intro i j hi hj hij
  have := h.lt hij hj
  rwa [zl_get zs i hi, zl_get zs j hj] at this
theorem asc_of_pair {most : Int} {zs : List Int} (hl : (zs.length : Int) ≤ most) (hp : zs.Pairwise (· < ·)) (hb : ∀ z ∈ zs, 0 ≤ z ∧ z ≤ 2147483647) : Asc most zs := by
  refine ⟨hl, fun j hj => ⟨?_, ?_⟩⟩
  · have h1 := hb _ (List.getElem_mem hj)
    rw [← zl_get zs j hj] at h1
    rcases Nat.eq_zero_or_pos j with e | e
    · subst e; rw [show prv zs 0 = -1 from rfl]; omega
    · have := List.pairwise_iff_getElem.1 hp (j - 1) j (by omega) hj (by omega)
      rw [← zl_get zs j hj, ← zl_get zs (j - 1) (by omega)] at this
      rw [show prv zs j = zl zs (j - 1) from if_neg (by omega)]
      exact this
  · rw [zl_get zs j hj]; exact (hb _ (List.getElem_mem hj)).2
end Go.Proofs.YtehekjlakegkpaaGreat
end
section
namespace Go.Proofs.YtehekjlakegkpaaGreat
open Go.RowKit Go.Sort
set_option linter.unusedVariables false

/-- The same numbers, in ascending order. -/
def srt (zs : List Int) : List Int := zs.mergeSort fun x y => decide (x ≤ y)
theorem srt_len (zs : List Int) : (srt zs).length = zs.length := by simp [srt]
theorem srt_perm (zs : List Int) : (srt zs).Perm zs := List.mergeSort_perm _ _
theorem srt_pair (zs : List Int) : (srt zs).Pairwise (· ≤ ·) := by
  have h := List.pairwise_mergeSort (le := fun (x y : Int) => decide (x ≤ y)) (fun a b c h1 h2 => by simp at h1 h2 ⊢; omega) (fun a b => by simp; omega) zs
  exact h.imp (fun h => by simpa using h)
/-- Cells of ints. -/
def litsI (zs : List Int) : Array Value := (zs.map (Value.int .i64)).toArray
theorem litsI_at (zs : List Int) (j : Nat) (h : j < zs.length) : (litsI zs)[j]? = some (.int .i64 (zl zs j)) := by
  rw [zl_get zs j h]; simp [litsI, h]
theorem ri_of_kb {w : World} {g : Nat} {t : TypeId} {zs : List Int} {n : Nat} (h : KB w g t (litsI zs)) (hn : zs.length = n) (hm : n ≤ 9223372036854775807) (hb : ∀ z ∈ zs, -9223372036854775808 ≤ z ∧ z ≤ 9223372036854775807) : Ri w (some ⟨g, 0, none⟩) n n zs :=
  ⟨hn, Nat.le_refl _, hm, hb, fun _ => ⟨g, 0, rfl, h.lt, fun j hj => by rw [Nat.zero_add, h.cell]; exact litsI_at zs j (by omega)⟩⟩
theorem sort_any (g : Nat) (zs : List Int) (n base : Nat) (w : World) (h : KB w g 3 (litsI zs)) (hn : zs.length = n) (hs : n < 4611686018427387904) (hb : base ≤ g) :
    Calls Tryz.prog 134 #[.slice (some ⟨g, 0, none⟩) n n] w fun e w' => e = .returned (.tuple #[]) ∧ KB w' g 3 (litsI (srt zs)) ∧ Below base w w' := by
  subst hn
  have hh : Holds (Value.int .i64) w g 0 zs.toArray := holds_of_blockI h (by rw [List.take_of_length_le (by simp [litsI])]; simp [litsI])
  refine (Tryz.slices_Sort_int g 0 zs.length zs w hh h.lt hs).mono ?_
  rintro e w' ⟨rfl, n, os, rfl⟩
  refine ⟨rfl, ?_, (Below.refl _ _).grown (grownBy_sortedI _) (by have := h.lt; omega) (fun k e => by cases e; exact hb)⟩
  have h1 := heap_sortedI (n := n) (os := os) (srt zs).toArray h
  unfold KB
  rw [show (srt zs).toArray = (zs.mergeSort fun x y => decide (x ≤ y)).toArray from rfl] at h1
  rw [h1]
  congr 2
  apply Array.toList_inj.1
  have h2 := take_putCellsI (litsI zs) (srt zs) (by rw [srt_len]; simp [litsI])
  rw [List.take_of_length_le (by rw [srt_len]; simp [putCells, litsI])] at h2
  rw [show (zs.mergeSort fun x y => decide (x ≤ y)) = srt zs from rfl, h2]
  simp [litsI]
end Go.Proofs.YtehekjlakegkpaaGreat
end
section
namespace Go.Proofs.YtehekjlakegkpaaGreat
open Go.RowKit
set_option linter.unusedVariables false

set_option maxHeartbeats 800000 in
theorem asc_any (A : Option Addr) (n c : Nat) (zs : List Int) (most : Int) (w : World) (h : Ri w A n c zs) :
    Calls Tryz.prog 81 #[.slice A n c, .int .i64 most] w fun e w' => e = .returned (.bool (decide (Asc most zs))) ∧ w = w' := by
  have HL := Lib.hid h.len
  have hcap := h.cap
  have hmax := h.max
  obtain ⟨r, hr⟩ : ∃ r, decide (Asc most zs) = r := ⟨_, rfl⟩
  rw [hr]
  have HR := Lib.hid hr
  clear hr
  by_cases hn : most < (n : Int)
  · go_enter Tryz.func81, Tryz.ntmps81
    go_wp2
    go_ret
    refine ⟨?_, rfl⟩
    have := HL.out
    rw [← HR.out, decide_eq_false (by unfold Asc; omega)]
    rfl
  · go_enter Tryz.func81, Tryz.ntmps81
    go_wp2_with fail
    go_loop [5, 14] (fun bv iv => ∃ k : Nat, k ≤ n ∧ bv = .int .i64 (prv zs k) ∧ iv = .int .i64 (k : Int) ∧ ∀ j, j < k → prv zs j < zl zs j ∧ zl zs j ≤ 2147483647) (fun _ iv => n - (intOf iv).toNat)
    case atStart => exact ⟨0, by omega, rfl, rfl, fun j hj => by omega⟩
    case round =>
      obtain ⟨k, hk, rfl, rfl, hup⟩ := hrel
      have HU := Lib.hid hup
      clear hup
      by_cases hlt : k < n
      · obtain ⟨b, o, rfl, hb, hc⟩ := h.at_ (by omega)
        have hcell := hc k hlt
        clear hc
        obtain ⟨x, hx⟩ : ∃ x, zl zs k = x := ⟨_, rfl⟩
        obtain ⟨p, hp⟩ : ∃ p, prv zs k = p := ⟨_, rfl⟩
        rw [hx] at hcell
        rw [hp]
        have HX := Lib.hid hx
        have HP := Lib.hid hp
        clear hx hp
        by_cases h1 : x ≤ p
        · have hR : ¬ Asc most zs := fun ha => by
            have := (ha.2 k (by rw [HL.out]; exact hlt)).1
            rw [HX.out, HP.out] at this
            omega
          go_wp2_with fail
          go_ret
          refine ⟨?_, rfl⟩
          rw [← HR.out, decide_eq_false hR]
          rfl
        · by_cases h2 : 2147483647 < x
          · have hR : ¬ Asc most zs := fun ha => by
              have := (ha.2 k (by rw [HL.out]; exact hlt)).2
              rw [HX.out] at this
              omega
            go_wp2_with fail
            go_ret
            refine ⟨?_, rfl⟩
            rw [← HR.out, decide_eq_false hR]
            rfl
          · go_wp2_with fail
            go_round
            case rel => exact ⟨k + 1, by omega, by rw [prv_succ, HX.out], by go_num, fun j hj => by
              rcases Nat.lt_or_ge j k with h3 | h3
              · exact HU.out j h3
              · obtain rfl : j = k := by omega
                rw [HX.out, HP.out]; omega⟩
            case measure => simp [intOf]; omega
      · have hR : Asc most zs := ⟨by rw [HL.out]; omega, fun j hj => HU.out j (by rw [HL.out] at hj; omega)⟩
        go_wp2
        go_ret
        refine ⟨?_, rfl⟩
        rw [← HR.out, decide_eq_true hR]
        rfl
end Go.Proofs.YtehekjlakegkpaaGreat
end
section
namespace Go.Proofs.YtehekjlakegkpaaGreat
open Go.RowKit
set_option linter.unusedVariables false

theorem infoQ' : (Tryz.prog.info? 41).map (fun i => (i.zero, i.size, i.bytes)) = some (some (.int .u64 0), 1, 8) := by kernel_rfl
theorem infoI' : (Tryz.prog.info? 3).map (fun i => (i.zero, i.size, i.bytes)) = some (some (.int .i64 0), 1, 8) := by kernel_rfl
theorem mkQ' (n : Nat) (hc : n ≤ 200) (W : World) :
    (Instr.makeSlice 90 (.int .i64 (n : Int)) (.int .i64 (n : Int))).run Tryz.prog W = .ok (.slice (some ⟨W.heap.size, 0, none⟩) n n) (W.alloc (.cells (litsK .u64 (zeros n)).toArray 41)) := by
  obtain ⟨i0, hi, hz0, hz1, hz2⟩ := info_parts infoQ'
  have h := run_make_rowK (P := Tryz.prog) 90 41 i0 (.int .u64 0) Tryz.underlying90 hi hz0 .i64 .i64 n n (Nat.le_refl _) (by rw [hz2]; omega) (by omega) W
  rw [hz1, Nat.mul_one, litsK_made] at h
  exact h
/-- So many zeros. -/
def zeroI (n : Nat) : List Int := List.replicate n 0
theorem mkI' (n : Nat) (hc : n ≤ 200) (W : World) :
    (Instr.makeSlice 23 (.int .i64 (n : Int)) (.int .i64 (n : Int))).run Tryz.prog W = .ok (.slice (some ⟨W.heap.size, 0, none⟩) n n) (W.alloc (.cells (litsI (zeroI n)) 3)) := by
  obtain ⟨i0, hi, hz0, hz1, hz2⟩ := info_parts infoI'
  have h := run_make_rowK (P := Tryz.prog) 23 3 i0 (.int .i64 0) Tryz.underlying23 hi hz0 .i64 .i64 n n (Nat.le_refl _) (by rw [hz2]; omega) (by omega) W
  rw [hz1, Nat.mul_one] at h
  have e : madeCells (Value.int .i64 0).cells n = litsI (zeroI n) := by
    apply Array.ext'
    show (madeCells #[.int .i64 0] n).toList = _
    rw [toList_madeCells_one]; simp [litsI, zeroI]
  rw [e] at h
  exact h
theorem litsI_set (zs : List Int) (j : Nat) (x : Int) : (litsI zs).setIfInBounds j (.int .i64 x) = litsI (zs.set j x) := by
  apply Array.toList_inj.1
  simp [litsI, List.map_set]
theorem zl_set_same (zs : List Int) (i : Nat) (x : Int) (h : i < zs.length) : zl (zs.set i x) i = x := by
  rw [zl_get _ _ (by simpa using h)]; simp
theorem zl_set_other (zs : List Int) (i j : Nat) (x : Int) (h : i ≠ j) : zl (zs.set i x) j = zl zs j := by
  unfold zl; rw [List.getD_eq_getElem?_getD, List.getD_eq_getElem?_getD, List.getElem?_set]; simp [h]
theorem ext_zl {xs ys : List Int} (hl : xs.length = ys.length) (h : ∀ j, j < xs.length → zl xs j = zl ys j) : xs = ys := by
  refine List.ext_getElem hl fun j h1 h2 => ?_
  have := h j h1
  rwa [zl_get xs j h1, zl_get ys j h2] at this

/-- The voters' stakes, and their numbers. -/
def stk (vs : List Vr) : List Nat := vs.map Vr.st
def idl (vs : List Vr) : List Int := vs.map Vr.id
theorem stk_len (vs : List Vr) : (stk vs).length = vs.length := by simp [stk]
theorem idl_len (vs : List Vr) : (idl vs).length = vs.length := by simp [idl]
theorem stk_at {vs : List Vr} {j : Nat} {v : Vr} (h : vs[j]? = some v) : el (stk vs) j = v.st := by
  unfold el stk; rw [List.getD_eq_getElem?_getD, List.getElem?_map, h]; rfl
theorem idl_at {vs : List Vr} {j : Nat} {v : Vr} (h : vs[j]? = some v) : zl (idl vs) j = v.id := by
  unfold zl idl; rw [List.getD_eq_getElem?_getD, List.getElem?_map, h]; rfl
/-- A slice of amounts is answered, and what was there is as it was. -/
def OutQs (w : World) (xs : List Nat) : Ending → World → Prop := fun e w' => ∃ A n c, e = .returned (.slice A n c) ∧ Rk .u64 w' A n c xs ∧ Below w.heap.size w w'
theorem Rv.mem {w : World} {A : Option Addr} {n c : Nat} {vs : List Vr} (h : Rv w A n c vs) {v : Vr} (hv : v ∈ vs) : v.ok ∧ Ri w v.a v.n v.c v.ps := h.2.2.2.1 v hv
theorem stk_bl {w : World} {A : Option Addr} {n c : Nat} {vs : List Vr} (h : Rv w A n c vs) : Bl 18446744073709551616 (stk vs) := fun x hx => by
  obtain ⟨v, hv, rfl⟩ := List.mem_map.1 hx
  exact (h.mem hv).1.1

set_option maxHeartbeats 1600000 in
theorem stakes_any (s : Sn) (w : World) (h : s.In w) (hn : s.n ≤ 32) : Calls Tryz.prog 83 #[s.val] w (OutQs w (stk s.vs)) := by
  obtain ⟨A, n, c, B, m, d, vs, cs⟩ := s
  unfold Sn.val
  obtain ⟨hv, _⟩ := h
  dsimp only at hv hn ⊢
  have HL := Lib.hid hv.len
  have HV := Lib.hid hv
  have hcap := hv.cap
  have hmax := hv.max
  have hmk := mkQ' n (by omega)
  clear hv
  go_enter Tryz.func83, Tryz.ntmps83
  go_wp2_with fail
  go_loopw [13] (fun tv wr => ∃ (k : Nat) (rs : List Nat), k ≤ n ∧ tv = .int .i64 (k : Int) ∧ Bkk .u64 41 wr (w.heap.size + 1) rs ∧ rs.length = n ∧ (∀ j, j < k → el rs j = el (stk vs) j) ∧ Below w.heap.size w wr) (fun tv _ => n - (intOf tv).toNat)
  case atStart => exact ⟨0, zeros n, by omega, rfl, (show (w.alloc (.cells #[.slice A n c, .slice B m d] 25)).heap.size = w.heap.size + 1 by simp) ▸ Bkk.new _ _ (w.alloc (.cells #[.slice A n c, .slice B m d] 25)) _, zeros_len _, fun j hj => by omega, ((Below.refl _ _).alloc (Nat.le_refl _) _).alloc (by simp) _⟩
  case round =>
    obtain ⟨k, rs, hk, rfl, hB, hrl, hel, hb⟩ := hrel
    have HE := Lib.hid hel
    have HR := Lib.hid hrl
    have hsz := hB.lt
    clear hmk hel hrl
    by_cases hlt : k < n
    · obtain ⟨b, o, v, rfl, hbb, hve, ok, ri, c0, c1, c2⟩ := HV.out.at_ hlt
      have d0 := (hb.cell (p := ⟨b, o + k * 3, none⟩) hbb).trans c0
      have d1 := (hb.cell (p := ⟨b, o + k * 3 + 1, none⟩) hbb).trans c1
      have d2 := (hb.cell (p := ⟨b, o + k * 3 + 2, none⟩) hbb).trans c2
      have HS := Lib.hid (stk_at hve)
      clear c0 c1 c2 hve ok ri
      obtain ⟨vi, vst, va, vn, vc, vp⟩ := v
      dsimp only at d0 d1 d2 HS
      have hb7 := hb.alloc (by omega) (.cells #[.int .i64 vi, .int .u64 (vst : Int), .slice va vn vc] 43)
      have hB7 : Bkk .u64 41 (wr.alloc (.cells #[.int .i64 vi, .int .u64 (vst : Int), .slice va vn vc] 43)) (w.heap.size + 1) rs := (Below.heap_alloc wr _ _ hsz).trans hB
      have hK := KB.new wr 43 #[.int .i64 vi, .int .u64 (vst : Int), .slice va vn vc]
      go_upto_region 5 with (fail)
      generalize (wr.alloc (.cells #[.int .i64 vi, .int .u64 (vst : Int), .slice va vn vc] 43)) = w7 at *
      have x1 := hK.cell 1
      have hf := hB7.frozen k
      have hc := hB7.cell (i := k) (by rw [HR.out]; exact hlt)
      have HB := Lib.hid (hB7.set_ k vst)
      have HW := Lib.hid (hb7.setCell (p := ⟨w.heap.size + 1, k, none⟩) (by show w.heap.size ≤ w.heap.size + 1; omega) (.int .u64 (vst : Int)))
      simp at x1
      clear hB hb hB7 hb7 hK d0 d1 d2
      go_wp2
      go_roundw
      case rel =>
        refine ⟨k + 1, rs.set k vst, by omega, by go_num, HB.out, by rw [List.length_set]; exact HR.out, fun j hj => ?_, HW.out⟩
        by_cases hjk : j = k
        · subst hjk; rw [el_set_same _ _ _ (by rw [HR.out]; exact hlt), HS.out]
        · rw [el_set_other _ _ _ _ (by omega), HE.out j (by omega)]
      case measure => simp [intOf]; omega
    · obtain rfl : k = n := by omega
      have hrs : rs = stk vs := ext_el (by rw [HR.out, stk_len, HL.out]) fun j hj => HE.out j (by rw [HR.out] at hj; exact hj)
      subst hrs
      have hrk := hB.rk HR.out (by omega)
      go_wp2
      go_ret
      exact ⟨_, _, _, rfl, hrk, hb⟩

/-- The voters' numbers are from 0 to 2^31 - 1, and all different. -/
def Numb (vs : List Vr) : Prop := (∀ v ∈ vs, 0 ≤ v.id ∧ v.id ≤ 2147483647) ∧ (idl vs).Nodup
instance (vs : List Vr) : Decidable (Numb vs) := by unfold Numb; infer_instance
theorem numb_iff (vs : List Vr) : Asc (vs.length : Int) (srt (idl vs)) ↔ Numb vs := by
  have hp := srt_perm (idl vs)
  have hl := srt_len (idl vs)
  rw [idl_len] at hl
  constructor
  · intro h
    have hin : ∀ z ∈ idl vs, 0 ≤ z ∧ z ≤ 2147483647 := fun z hz => by
      obtain ⟨j, hj, rfl⟩ := mem_zl.1 (hp.mem_iff.2 hz)
      exact ⟨h.ge j hj, h.le j hj⟩
    refine ⟨fun v hv => hin _ (List.mem_map.2 ⟨v, hv, rfl⟩), ?_⟩
    exact hp.nodup_iff.1 (h.pair.imp (fun h => by omega))
  · rintro ⟨h1, h2⟩
    have hnd := hp.nodup_iff.2 h2
    refine asc_of_pair (by omega) ?_ fun z hz => ?_
    · exact (srt_pair _).imp₂ (fun a b h1 h2 => by omega) hnd
    · obtain ⟨v, hv, rfl⟩ := List.mem_map.1 (hp.mem_iff.1 hz)
      exact h1 v hv
theorem idl_bd {w : World} {A : Option Addr} {n c : Nat} {vs : List Vr} (h : Rv w A n c vs) : ∀ z ∈ idl vs, -9223372036854775808 ≤ z ∧ z ≤ 9223372036854775807 := fun z hz => by
  obtain ⟨v, hv, rfl⟩ := List.mem_map.1 hz
  exact (h.mem hv).1.2
set_option maxHeartbeats 1600000 in
theorem numb_any (A : Option Addr) (n c : Nat) (vs : List Vr) (w : World) (h : Rv w A n c vs) (hn : n ≤ 32) : Calls Tryz.prog 84 #[.slice A n c] w (OutF w (decide (Numb vs))) := by
  have HL := Lib.hid h.len
  have HV := Lib.hid h
  have hcap := h.cap
  have hmax := h.max
  have hmk := mkI' n (by omega)
  have HBD := Lib.hid (idl_bd h)
  obtain ⟨r, hr⟩ : ∃ r, decide (Numb vs) = r := ⟨_, rfl⟩
  rw [hr]
  have HRR := Lib.hid hr
  clear h hr
  go_enter Tryz.func84, Tryz.ntmps84
  go_wp2_with fail
  go_loopw [11] (fun tv wr => ∃ (k : Nat) (rs : List Int), k ≤ n ∧ tv = .int .i64 (k : Int) ∧ KB wr w.heap.size 3 (litsI rs) ∧ rs.length = n ∧ (∀ j, j < k → zl rs j = zl (idl vs) j) ∧ Below w.heap.size w wr) (fun tv _ => n - (intOf tv).toNat)
  case atStart => exact ⟨0, zeroI n, by omega, rfl, KB.new _ _ _, by simp [zeroI], fun j hj => by omega, (Below.refl _ _).alloc (Nat.le_refl _) _⟩
  case round =>
    obtain ⟨k, rs, hk, rfl, hB, hrl, hel, hb⟩ := hrel
    have HE := Lib.hid hel
    have HR := Lib.hid hrl
    have hsz := hB.lt
    clear hmk hel hrl
    by_cases hlt : k < n
    · obtain ⟨b, o, v, rfl, hbb, hve, ok, ri, c0, c1, c2⟩ := HV.out.at_ hlt
      have d0 := (hb.cell (p := ⟨b, o + k * 3, none⟩) hbb).trans c0
      have d1 := (hb.cell (p := ⟨b, o + k * 3 + 1, none⟩) hbb).trans c1
      have d2 := (hb.cell (p := ⟨b, o + k * 3 + 2, none⟩) hbb).trans c2
      have HS := Lib.hid (idl_at hve)
      clear c0 c1 c2 hve ok ri
      obtain ⟨vi, vst, va, vn, vc, vp⟩ := v
      dsimp only at d0 d1 d2 HS
      have hb7 := hb.alloc (by omega) (.cells #[.int .i64 vi, .int .u64 (vst : Int), .slice va vn vc] 43)
      have hB7 := hB.alloc (.cells #[.int .i64 vi, .int .u64 (vst : Int), .slice va vn vc] 43)
      have hK := KB.new wr 43 #[.int .i64 vi, .int .u64 (vst : Int), .slice va vn vc]
      go_upto_region 5 with (fail)
      generalize (wr.alloc (.cells #[.int .i64 vi, .int .u64 (vst : Int), .slice va vn vc] 43)) = w7 at *
      have x0 := hK.cell 0
      have hf := hB7.frozen k
      have hc := (hB7.cell k).trans (litsI_at rs k (by rw [HR.out]; exact hlt))
      have hset := hB7.set k (.int .i64 vi)
      rw [litsI_set] at hset
      have HB := Lib.hid hset
      have HW := Lib.hid (hb7.setCell (p := ⟨w.heap.size, k, none⟩) (Nat.le_refl _) (.int .i64 vi))
      simp at x0
      clear hB hb hB7 hb7 hK d0 d1 d2 hset
      go_wp2
      go_roundw
      case rel =>
        refine ⟨k + 1, rs.set k vi, by omega, by go_num, HB.out, by rw [List.length_set]; exact HR.out, fun j hj => ?_, HW.out⟩
        by_cases hjk : j = k
        · subst hjk; rw [zl_set_same _ _ _ (by rw [HR.out]; exact hlt), HS.out]
        · rw [zl_set_other _ _ _ _ (by omega), HE.out j (by omega)]
      case measure => simp [intOf]; omega
    · obtain rfl : k = n := by omega
      have hrs : rs = idl vs := ext_zl (by rw [HR.out, idl_len, HL.out]) fun j hj => HE.out j (by rw [HR.out] at hj; exact hj)
      subst hrs
      have hS := sort_any w.heap.size (idl vs) k w.heap.size wr hB HR.out (by omega) (Nat.le_refl _)
      go_wp2_with fail
      refine hS.mono ?_
      rintro e w1 ⟨rfl, hk1, hb1⟩
      have hri := ri_of_kb hk1 (n := k) (by rw [srt_len]; exact HR.out) (by omega) (fun z hz => HBD.out z ((srt_perm _).mem_iff.1 hz))
      go_wp2_with fail
      refine (asc_any _ k k _ (k : Int) w1 hri).mono ?_
      rintro e w2 ⟨rfl, rfl⟩
      go_wp2
      go_ret
      refine ⟨?_, hb.trans hb1⟩
      have := numb_iff vs
      rw [HL.out] at this
      rw [← HRR.out, ← decide_eq_decide.2 this]
      rfl
end Go.Proofs.YtehekjlakegkpaaGreat
end
section
namespace Go.Proofs.YtehekjlakegkpaaGreat
open Go.RowKit

/-- The sum, or error 3. -/
def addM (a b : Nat) : Nat × Nat := if a + b < 18446744073709551616 then (a + b, 0) else (0, 3)
/-- The difference, or error 8. -/
def subM (a b : Nat) : Nat × Nat := if b ≤ a then (a - b, 0) else (0, 8)
/-- The end of a call that gives a number and an error number, and leaves the world alone. -/
def OutN (w : World) (p : Nat × Nat) (e : Ending) (w' : World) : Prop := e = .returned (.tuple #[.int .u64 (p.1 : Nat), .int .i64 (p.2 : Nat)]) ∧ w = w'

theorem add64_run (x y : Nat) (w : World) : (callFunc 162 #[.int .u64 x, .int .u64 y, .int .u64 0]).run Tryz.prog w =
    .ok (.value (.tuple #[.int .u64 (((x : Int) + (y : Int)) % 18446744073709551616), .int .u64 (((x : Int) + (y : Int)) / 18446744073709551616)])) w := by
  rw [run_callFunc_extern Tryz.func162 (by kernel_rfl) (by kernel_rfl) (by kernel_rfl) (e := add64Entry) (by kernel_rfl), run_add64 x y 0 (by omega) (by omega) (by omega) (by omega)]
  simp only [Result.andThen, Int.add_zero]

theorem yadd_any (a b : Nat) (w : World) (ha : a < 18446744073709551616) (hb : b < 18446744073709551616) :
    Calls Tryz.prog 133 #[.int .u64 a, .int .u64 b] w (OutN w (addM a b)) := by
  by_cases h : a + b < 18446744073709551616
  · have h1 : (((a : Int) + (b : Int)) / 18446744073709551616 == 0) = true := by simp; omega
    have e : addM a b = (a + b, 0) := if_pos h
    rw [e]
    clear e
    go_enter Tryz.func133, Tryz.ntmps133
    go_wp2_with (simp only [add64_run])
    go_ret2
    exact ⟨by congr 5; simp; omega, rfl⟩
  · have h1 : (((a : Int) + (b : Int)) / 18446744073709551616 == 0) = false := by simp; omega
    have e : addM a b = (0, 3) := if_neg h
    rw [e]
    clear e
    go_enter Tryz.func133, Tryz.ntmps133
    go_wp2_with (simp only [add64_run])
    go_ret2
    exact ⟨rfl, rfl⟩
theorem xadd_any (a b : Nat) (w : World) (ha : a < 18446744073709551616) (hb : b < 18446744073709551616) :
    Calls Tryz.prog 80 #[.int .u64 a, .int .u64 b] w (OutN w (addM a b)) := by
  by_cases h : a + b < 18446744073709551616
  · have h1 : ¬ ((18446744073709551615 : Int) - (b : Int) < (a : Int)) := by omega
    have e : addM a b = (a + b, 0) := if_pos h
    rw [e]
    clear e
    go_enter Tryz.func80, Tryz.ntmps80
    go_wp2
    go_ret2
    exact ⟨by go_num, rfl⟩
  · have h1 : ((18446744073709551615 : Int) - (b : Int) < (a : Int)) := by omega
    have e : addM a b = (0, 3) := if_neg h
    rw [e]
    clear e
    go_enter Tryz.func80, Tryz.ntmps80
    go_wp2
    go_ret2
    exact ⟨rfl, rfl⟩
end Go.Proofs.YtehekjlakegkpaaGreat
end
section
namespace Go.Proofs.YtehekjlakegkpaaGreat
open Go.RowKit

def tot : List Nat → Nat
  | [] => 0
  | x :: xs => x + tot xs
/-- The sum, or error 3. -/
def sumM (xs : List Nat) : Nat × Nat := if tot xs < 18446744073709551616 then (tot xs, 0) else (0, 3)
theorem tot_append (xs ys : List Nat) : tot (xs ++ ys) = tot xs + tot ys := by
  induction xs with
  | nil => simp [tot]
  | cons x xs ih => simp only [List.cons_append, tot, ih]; omega
theorem tot_take_succ (xs : List Nat) (k : Nat) : tot (xs.take (k + 1)) = tot (xs.take k) + el xs k := by
  rcases Nat.lt_or_ge k xs.length with h | h
  · rw [List.take_succ_eq_append_getElem h, tot_append, el_get xs k h]; simp [tot]
  · rw [List.take_of_length_le (by omega), List.take_of_length_le h, el_ge xs k h]; rfl
theorem tot_take_le (xs : List Nat) (k : Nat) : tot (xs.take k) ≤ tot xs := by
  have := tot_append (xs.take k) (xs.drop k)
  rw [List.take_append_drop] at this
  omega

def SuRel (xs : List Nat) (n : Nat) (sv tv : Value) : Prop := ∃ k S : Nat, k ≤ n ∧ S = tot (xs.take k) ∧ S < 18446744073709551616 ∧ sv = .int .u64 (S : Int) ∧ tv = .int .i64 (k : Int)
set_option maxHeartbeats 800000 in
theorem ysum_any (A : Option Addr) (n c : Nat) (xs : List Nat) (w : World) (h : Rk .u64 w A n c xs) (hX : Bl 18446744073709551616 xs) :
    Calls Tryz.prog 82 #[.slice A n c] w (OutN w (sumM xs)) := by
  have HL := Lib.hid h.len
  have hcap := h.cap
  have hmax := h.max
  go_enter Tryz.func82, Tryz.ntmps82
  go_wp2_with fail
  go_loop [4, 10] (fun sv tv => SuRel xs n sv tv) (fun _ tv => n - (intOf tv).toNat)
  case atStart => exact ⟨0, 0, by omega, rfl, by omega, rfl, rfl⟩
  case round =>
    obtain ⟨k, S, hk, hS, hSl, rfl, rfl⟩ := hrel
    have HS := Lib.hid hS
    clear hS
    by_cases hlt : k < n
    · obtain ⟨b, o, rfl, hb, hc⟩ := h.at_ (by omega)
      have hcell := hc k hlt
      have he := Bl_el hX (by omega) k
      have HT := Lib.hid (tot_take_succ xs k)
      clear hc
      generalize el xs k = x at *
      go_wp2_with fail
      refine (yadd_any S x _ hSl he).mono ?_
      by_cases hs : S + x < 18446744073709551616
      · rw [show addM S x = (S + x, 0) from if_pos hs]
        rintro e w' ⟨rfl, rfl⟩
        go_wp2
        go_round
        case rel => exact ⟨k + 1, S + x, by omega, by rw [HT.out, HS.out], hs, by go_num, by go_num⟩
        case measure => simp [intOf]; omega
      · rw [show addM S x = (0, 3) from if_neg hs]
        rintro e w' ⟨rfl, rfl⟩
        go_wp2
        go_ret2
        exact ⟨by
          have := tot_take_le xs (k + 1)
          rw [HT.out, ← HS.out] at this
          rw [show sumM xs = (0, 3) from if_neg (by omega)]
          rfl, rfl⟩
    · obtain rfl : k = n := by omega
      go_wp2
      go_ret2
      exact ⟨by
        have := HS.out
        rw [List.take_of_length_le (by rw [HL.out]; exact Nat.le_refl _)] at this
        rw [show sumM xs = (S, 0) by rw [this, sumM, if_pos (by omega)]]
        rfl, rfl⟩
set_option maxHeartbeats 800000 in
theorem xsum_any (A : Option Addr) (n c : Nat) (xs : List Nat) (w : World) (h : Rk .u64 w A n c xs) (hX : Bl 18446744073709551616 xs) :
    Calls Tryz.prog 38 #[.slice A n c] w (OutN w (sumM xs)) := by
  have HL := Lib.hid h.len
  have hcap := h.cap
  have hmax := h.max
  go_enter Tryz.func38, Tryz.ntmps38
  go_wp2_with fail
  go_loop [4, 10] (fun sv tv => SuRel xs n sv tv) (fun _ tv => n - (intOf tv).toNat)
  case atStart => exact ⟨0, 0, by omega, rfl, by omega, rfl, rfl⟩
  case round =>
    obtain ⟨k, S, hk, hS, hSl, rfl, rfl⟩ := hrel
    have HS := Lib.hid hS
    clear hS
    by_cases hlt : k < n
    · obtain ⟨b, o, rfl, hb, hc⟩ := h.at_ (by omega)
      have hcell := hc k hlt
      have he := Bl_el hX (by omega) k
      have HT := Lib.hid (tot_take_succ xs k)
      clear hc
      generalize el xs k = x at *
      go_wp2_with fail
      refine (xadd_any S x _ hSl he).mono ?_
      by_cases hs : S + x < 18446744073709551616
      · rw [show addM S x = (S + x, 0) from if_pos hs]
        rintro e w' ⟨rfl, rfl⟩
        go_wp2
        go_round
        case rel => exact ⟨k + 1, S + x, by omega, by rw [HT.out, HS.out], hs, by go_num, by go_num⟩
        case measure => simp [intOf]; omega
      · rw [show addM S x = (0, 3) from if_neg hs]
        rintro e w' ⟨rfl, rfl⟩
        go_wp2
        go_ret2
        exact ⟨by
          have := tot_take_le xs (k + 1)
          rw [HT.out, ← HS.out] at this
          rw [show sumM xs = (0, 3) from if_neg (by omega)]
          rfl, rfl⟩
    · obtain rfl : k = n := by omega
      go_wp2
      go_ret2
      exact ⟨by
        have := HS.out
        rw [List.take_of_length_le (by rw [HL.out]; exact Nat.le_refl _)] at this
        rw [show sumM xs = (S, 0) by rw [this, sumM, if_pos (by omega)]]
        rfl, rfl⟩
end Go.Proofs.YtehekjlakegkpaaGreat
end
section
namespace Go.Proofs.YtehekjlakegkpaaGreat
open Go.RowKit
set_option linter.unusedVariables false

/-- A snapshot is well formed. -/
def Fd (vs : List Vr) (cs : List Int) : Prop := vs.length ≤ 32 ∧ Asc 32 cs ∧ (∀ v ∈ vs, Asc 8 v.ps) ∧ tot (stk vs) < 18446744073709551616 ∧ Numb vs
instance (vs : List Vr) (cs : List Int) : Decidable (Fd vs cs) := by unfold Fd; infer_instance
abbrev bx (w : World) (s : Sn) : World := w.alloc (.cells #[.slice s.A s.n s.c, .slice s.B s.m s.d] 25)

set_option maxHeartbeats 1600000 in
theorem formedG_any (s : Sn) (w : World) (h : s.In w) : Calls Tryz.prog 39 #[s.val] w (OutF w (decide (Fd s.vs s.cs))) := by
  obtain ⟨A, n, c, B, m, d, vs, cs⟩ := s
  obtain ⟨r, hr⟩ : ∃ r, decide (Fd vs cs) = r := ⟨_, rfl⟩
  unfold Sn.val
  dsimp only
  rw [hr]
  have HRR := Lib.hid hr
  have HIN := Lib.hid h
  obtain ⟨hv, hc⟩ := h
  dsimp only at hv hc
  have HL := Lib.hid hv.len
  have HV := Lib.hid hv
  have HC := Lib.hid hc
  have hcap := hv.cap
  have hmax := hv.max
  have hcap2 := hc.cap
  have hmax2 := hc.max
  clear hv hc hr
  by_cases h32 : (32 : Int) < (n : Int)
  · have hF : ¬ Fd vs cs := fun hf => by have := hf.1; have := HL.out; omega
    go_enter Tryz.func39, Tryz.ntmps39
    go_wp2
    go_ret
    refine ⟨?_, (Below.refl _ _).alloc (Nat.le_refl _) _⟩
    rw [← HRR.out, decide_eq_false hF]
    rfl
  · have hb1 : Below w.heap.size w (w.alloc (.cells #[.slice A n c, .slice B m d] 25)) := (Below.refl _ _).alloc (Nat.le_refl _) _
    have hk1 := KB.new w 25 #[.slice A n c, .slice B m d]
    have hasc := asc_any B m d cs 32 _ (HC.out.below hb1 (Nat.le_refl _))
    have HB1 := Lib.hid hb1
    have HK1 := Lib.hid hk1
    clear hb1 hk1
    by_cases hca : Asc 32 cs
    · rw [decide_eq_true hca] at hasc
      go_enter Tryz.func39, Tryz.ntmps39
      go_wp2_with fail
      refine hasc.mono ?_
      rintro e w1 ⟨rfl, rfl⟩
      clear hasc
      generalize (w.alloc (.cells #[.slice A n c, .slice B m d] 25)) = w1 at *
      have x0 := HK1.out.cell 0
      have x1 := HK1.out.cell 1
      simp at x0 x1
      have hsz1 := HK1.out.lt
      go_wp2_with fail
      go_loopw [20] (fun tv wr => ∃ (k : Nat), k ≤ n ∧ tv = .int .i64 (k : Int) ∧ KB wr w.heap.size 25 #[.slice A n c, .slice B m d] ∧ (∀ v ∈ vs.take k, Asc 8 v.ps) ∧ Below w.heap.size w wr) (fun tv _ => n - (intOf tv).toNat)
      case atStart => exact ⟨0, by omega, rfl, HK1.out, fun v hv => by simp at hv, HB1.out⟩
      case round =>
        obtain ⟨k, hk, rfl, hkb, hall, hb⟩ := hrel
        have HA := Lib.hid hall
        have HKB := Lib.hid hkb
        have HB := Lib.hid hb
        have hsz := hkb.lt
        clear hall x0 x1 HB1 HK1
        by_cases hlt : k < n
        · obtain ⟨b, o, v, rfl, hbb, hve, ok, ri, c0, c1, c2⟩ := HV.out.at_ hlt
          have d0 := (hb.cell (p := ⟨b, o + k * 3, none⟩) hbb).trans c0
          have d1 := (hb.cell (p := ⟨b, o + k * 3 + 1, none⟩) hbb).trans c1
          have d2 := (hb.cell (p := ⟨b, o + k * 3 + 2, none⟩) hbb).trans c2
          have hri := ri.below hb (Nat.le_refl _)
          have HS := Lib.hid hve
          clear c0 c1 c2 hve ok ri
          obtain ⟨vi, vst, va, vn, vc, vp⟩ := v
          dsimp only at d0 d1 d2 hri
          have hb7' : Below wr.heap.size wr (wr.alloc (.cells #[.int .i64 vi, .int .u64 (vst : Int), .slice va vn vc] 43)) := (Below.refl _ _).alloc (Nat.le_refl _) _
          have hasc := asc_any va vn vc vp 8 _ (hri.below hb7' (Nat.le_refl _))
          have HB7 := Lib.hid (hb.trans (hb7'.mono hb.size))
          have HK7 := Lib.hid (hkb.below hb7' hsz)
          clear hb7' hri hb hkb HB HKB
          by_cases ha : Asc 8 vp
          · rw [decide_eq_true ha] at hasc
            go_wp2_with fail
            refine hasc.mono ?_
            rintro e w2 ⟨rfl, rfl⟩
            go_wp2
            go_roundw
            case rel => exact ⟨k + 1, by omega, by go_num, HK7.out, fun v hv => by
              rw [List.take_add_one, HS.out] at hv
              rcases List.mem_append.1 hv with hv | hv
              · exact HA.out v hv
              · simp at hv; subst hv; exact ha, HB7.out⟩
            case measure => simp [intOf]; omega
          · rw [decide_eq_false ha] at hasc
            have hF : ¬ Fd vs cs := fun hf => ha (hf.2.2.1 _ (List.mem_of_getElem? HS.out))
            go_wp2_with fail
            refine hasc.mono ?_
            rintro e w2 ⟨rfl, rfl⟩
            go_wp2
            go_ret
            refine ⟨?_, HB7.out⟩
            rw [← HRR.out, decide_eq_false hF]
            rfl
        · obtain rfl : k = n := by omega
          have hall : ∀ v ∈ vs, Asc 8 v.ps := fun v hv => HA.out v (by rw [List.take_of_length_le (by rw [HL.out]; exact Nat.le_refl _)]; exact hv)
          have x0 := hkb.cell 0
          have x1 := hkb.cell 1
          simp at x0 x1
          have hS := stakes_any ⟨A, k, c, B, m, d, vs, cs⟩ wr (HIN.out.below HB.out (Nat.le_refl _)) (by dsimp only; omega)
          unfold Sn.val at hS
          dsimp only at hS
          clear hb hkb
          go_wp2_with fail
          refine hS.mono ?_
          rintro e w2 ⟨A2, n2, c2, rfl, hrk, hb2⟩
          have hsum := ysum_any A2 n2 c2 (stk vs) w2 hrk (stk_bl HV.out)
          clear x0 x1
          by_cases ht : tot (stk vs) < 18446744073709551616
          · rw [show sumM (stk vs) = (tot (stk vs), 0) from if_pos ht] at hsum
            have HB2 := Lib.hid (HB.out.trans (hb2.mono HB.out.size))
            have hk2 := HKB.out.below hb2 hsz
            have x0 := hk2.cell 0
            simp at x0
            have hN := numb_any A k c vs w2 (HV.out.below HB2.out (Nat.le_refl _)) (by omega)
            generalize tot (stk vs) = T at hsum
            clear hb2 hk2 hrk
            go_wp2_with fail
            refine hsum.mono ?_
            rintro e w3 ⟨rfl, rfl⟩
            go_wp2_with fail
            refine hN.mono ?_
            rintro e w3 ⟨rfl, hb3⟩
            go_wp2
            go_ret
            refine ⟨?_, HB2.out.trans (hb3.mono HB2.out.size)⟩
            rw [← HRR.out]
            have he : Numb vs ↔ Fd vs cs := ⟨fun hn => ⟨by have := HL.out; omega, hca, hall, ht, hn⟩, fun hf => hf.2.2.2.2⟩
            rw [← decide_eq_decide.2 he]
            rfl
          · rw [show sumM (stk vs) = (0, 3) from if_neg ht] at hsum
            have HB2 := Lib.hid (HB.out.trans (hb2.mono HB.out.size))
            have hF : ¬ Fd vs cs := fun hf => ht hf.2.2.2.1
            clear hb2 hrk
            go_wp2_with fail
            refine hsum.mono ?_
            rintro e w3 ⟨rfl, rfl⟩
            go_wp2
            go_ret
            refine ⟨?_, HB2.out⟩
            rw [← HRR.out, decide_eq_false hF]
            rfl
    · rw [decide_eq_false hca] at hasc
      have hF : ¬ Fd vs cs := fun hf => hca hf.2.1
      go_enter Tryz.func39, Tryz.ntmps39
      go_wp2_with fail
      refine hasc.mono ?_
      rintro e w1 ⟨rfl, rfl⟩
      go_wp2
      go_ret
      refine ⟨?_, HB1.out⟩
      rw [← HRR.out, decide_eq_false hF]
      rfl
end Go.Proofs.YtehekjlakegkpaaGreat
end
