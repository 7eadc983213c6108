/-
  Words for memory: a slice of 32-bit limbs that reads as a list (Rd), one that lies in new memory that may be written (Nw), a block known whole (Blk). Proved: each is kept by what leaves its block alone. No conditions but those that each theorem names.
-/
import Derived.WalkKit
import Derived.WalkSpells
import Derived.WalkLawsBesides
import Derived.Deep.QuietTactic
import Derived.BigQuiet
import Derived.Lib.Hide
import Derived.Laws.Rows
import Derived.Test.YtcpeofgfppgooaaBase
namespace Go.Proofs.Ytcpeofgfppgooaa
open Go.RowKit

/-- The slice '.slice A n c' reads as the limbs xs. -/
def Rd (w : World) (A : Option Addr) (n c : Nat) (xs : List Nat) : Prop :=
  xs.length = n ∧ n ≤ c ∧ c ≤ 9223372036854775807 ∧ Lim xs ∧
    (0 < n → ∃ b o, A = some ⟨b, o, none⟩ ∧ b < w.heap.size ∧ ∀ j, j < n → w.cell? ⟨b, o + j, none⟩ = some (.int .u32 (el xs j)))
/-- What it has lies in blocks from lo on, and may be written. -/
def Un (w : World) (lo : Nat) (A : Option Addr) (n : Nat) : Prop :=
  0 < n → ∃ b o, A = some ⟨b, o, none⟩ ∧ lo ≤ b ∧ b < w.heap.size ∧ ∀ j, j < n → w.frozen? ⟨b, o + j, none⟩ = false
/-- A slice in new memory. -/
def Nw (w : World) (lo : Nat) (A : Option Addr) (n c : Nat) (xs : List Nat) : Prop := Rd w A n c xs ∧ Un w lo A n
/-- The end of a call that makes a natural, xs. -/
def Out (w : World) (xs : List Nat) (e : Ending) (w' : World) : Prop :=
  ∃ A n c, e = .returned (.slice A n c) ∧ Nw w' w.heap.size A n c xs ∧ Below w.heap.size w w'

section
variable {w w' : World} {A : Option Addr} {n c lo : Nat} {xs : List Nat}
theorem Rd.len (h : Rd w A n c xs) : xs.length = n := h.1
theorem Rd.cap (h : Rd w A n c xs) : n ≤ c := h.2.1
theorem Rd.max (h : Rd w A n c xs) : c ≤ 9223372036854775807 := h.2.2.1
theorem Rd.lim (h : Rd w A n c xs) : Lim xs := h.2.2.2.1
theorem Rd.at_ (h : Rd w A n c xs) (hn : 0 < n) : ∃ b o, A = some ⟨b, o, none⟩ ∧ b < w.heap.size ∧ ∀ j, j < n → w.cell? ⟨b, o + j, none⟩ = some (.int .u32 (el xs j)) := h.2.2.2.2 hn
theorem Rd.keep (h : Rd w A n c xs) (hs : w.heap.size ≤ w'.heap.size) (hk : ∀ p : Addr, p.block < w.heap.size → w'.cell? p = w.cell? p) : Rd w' A n c xs :=
  ⟨h.1, h.2.1, h.2.2.1, h.2.2.2.1, fun hn => by
    obtain ⟨b, o, e, hb, hc⟩ := h.at_ hn
    exact ⟨b, o, e, Nat.lt_of_lt_of_le hb hs, fun j hj => (hk ⟨b, o + j, none⟩ hb).trans (hc j hj)⟩⟩
theorem Rd.below (h : Rd w A n c xs) (hb : Below w.heap.size w w') : Rd w' A n c xs := h.keep hb.size fun _ hp => hb.cell hp
theorem Rd.drew (h : Rd w A n c xs) : Rd w.drew A n c xs := h
theorem Rd.drewN (h : Rd w A n c xs) (k : Nat) : Rd (w.drewN k) A n c xs := h
theorem Rd.alloc (h : Rd w A n c xs) (o : Obj) : Rd (w.alloc o) A n c xs := h.keep (by simp) fun p hp => World.cell?_alloc_lt w o p hp
theorem Rd.take (h : Rd w A n c xs) {k : Nat} (hk : k ≤ n) : Rd w A k c (xs.take k) := by
  refine ⟨by rw [List.length_take, h.len]; omega, by have := h.cap; omega, h.max, Lim_take h.lim k, fun hn => ?_⟩
  obtain ⟨b, o, e, hb, hc⟩ := h.at_ (by omega)
  exact ⟨b, o, e, hb, fun j hj => by rw [el_take _ _ _ hj]; exact hc j (by omega)⟩
theorem Rd.nil (w : World) : Rd w none 0 0 [] := ⟨rfl, Nat.le_refl _, by omega, Lim_nil, fun h => by omega⟩
theorem Un.below (h : Un w lo A n) (hb : Below w.heap.size w w') : Un w' lo A n := fun hn => by
  obtain ⟨b, o, e, h1, h2, h3⟩ := h hn
  have := hb.size
  exact ⟨b, o, e, h1, by omega, fun j hj => (hb.frozen (p := ⟨b, o + j, none⟩) h2).trans (h3 j hj)⟩
theorem Un.take (h : Un w lo A n) {k : Nat} (hk : k ≤ n) : Un w lo A k := fun hn => by
  obtain ⟨b, o, e, h1, h2, h3⟩ := h (by omega)
  exact ⟨b, o, e, h1, h2, fun j hj => h3 j (by omega)⟩
theorem Un.mono (h : Un w lo A n) {lo' : Nat} (hl : lo' ≤ lo) : Un w lo' A n := fun hn => by
  obtain ⟨b, o, e, h1, h2, h3⟩ := h hn
  exact ⟨b, o, e, by omega, h2, h3⟩
theorem Nw.below (h : Nw w lo A n c xs) (hb : Below w.heap.size w w') : Nw w' lo A n c xs := ⟨h.1.below hb, h.2.below hb⟩
theorem Nw.take (h : Nw w lo A n c xs) {k : Nat} (hk : k ≤ n) : Nw w lo A k c (xs.take k) := ⟨h.1.take hk, h.2.take hk⟩
theorem Nw.mono (h : Nw w lo A n c xs) {lo' : Nat} (hl : lo' ≤ lo) : Nw w lo' A n c xs := ⟨h.1, h.2.mono hl⟩
theorem Nw.nil (w : World) (lo : Nat) : Nw w lo none 0 0 [] := ⟨Rd.nil w, fun h => by omega⟩
end
/-- A limb is stored at place j. -/
theorem Nw.store {w : World} {lo n c b o : Nat} {xs : List Nat} (h : Nw w lo (some ⟨b, o, none⟩) n c xs) {j x : Nat} (hj : j < n) (hx : x < 4294967296) :
    Nw (w.setCell ⟨b, o + j, none⟩ (.int .u32 (x : Int))) lo (some ⟨b, o, none⟩) n c (xs.set j x) := by
  have hl := h.1.len
  refine ⟨⟨by rw [List.length_set]; exact hl, h.1.cap, h.1.max, Lim_set h.1.lim j x hx, fun hn => ?_⟩, fun hn => ?_⟩
  · obtain ⟨b', o', e, hb, hc⟩ := h.1.at_ hn
    injection e with e
    injection e with e1 e2 e3
    subst e1 e2
    refine ⟨b, o, rfl, by simpa [World.setCell] using hb, fun i hi => ?_⟩
    by_cases hij : j = i
    · subst hij
      rw [el_set_same _ _ _ (by omega)]
      exact World.cell?_setCell_same _ _ _ (hc j hj)
    · rw [el_set_other _ _ _ _ hij, World.cell?_setCell_other _ _ _ _ (by intro e; injection e with _ e _; omega)]
      exact hc i hi
  · obtain ⟨b', o', e, h1, hb, hc⟩ := h.2 hn
    injection e with e
    injection e with e1 e2 e3
    subst e1 e2
    exact ⟨b, o, rfl, h1, by simpa [World.setCell] using hb, fun i hi => by rw [World.frozen?_setCell]; exact hc i hi⟩
theorem Nw.addr {w : World} {lo n c b o : Nat} {xs : List Nat} (h : Nw w lo (some ⟨b, o, none⟩) n c xs) (hn : 0 < n) : lo ≤ b ∧ b < w.heap.size ∧ (∀ j, j < n → w.cell? ⟨b, o + j, none⟩ = some (.int .u32 (el xs j))) ∧ ∀ j, j < n → w.frozen? ⟨b, o + j, none⟩ = false := by
  obtain ⟨b', o', e, hb, hc⟩ := h.1.at_ hn
  obtain ⟨b'', o'', e', h1, _, hf⟩ := h.2 hn
  injection e with e
  injection e with e1 e2 e3
  injection e' with e'
  injection e' with e1' e2' e3'
  subst e1 e2 e1' e2'
  exact ⟨h1, hb, hc, hf⟩

/-- The cells of limbs. -/
def vals (xs : List Nat) : Array Value := (xs.map fun (x : Nat) => Value.int .u32 (x : Int)).toArray
theorem vals_size (xs : List Nat) : (vals xs).size = xs.length := by simp [vals]
theorem vals_at (xs : List Nat) (j : Nat) (h : j < xs.length) : (vals xs)[j]? = some (.int .u32 (el xs j)) := by
  rw [el_get xs j h]; simp [vals, h]
theorem vals_set (xs : List Nat) (i x : Nat) : (vals xs).setIfInBounds i (.int .u32 (x : Int)) = vals (xs.set i x) := by
  simp [vals, List.map_set]
theorem vals_made (n : Nat) : madeCells (Value.int .u32 0).cells n = vals (zeros n) := by
  apply Array.ext'
  show (madeCells #[.int .u32 0] n).toList = _
  rw [toList_madeCells_one]; simp [vals, zeros]

/-- Block g is just the limbs xs, and may be written. -/
def Blk (w : World) (g : Nat) (xs : List Nat) : Prop := w.heap[g]? = some (.cells (vals xs) 50 (0, 0))

section
variable {w w' : World} {g : Nat} {xs : List Nat}
theorem Blk.lt (h : Blk w g xs) : g < w.heap.size := by
  rcases Nat.lt_or_ge g w.heap.size with hlt | hge
  · exact hlt
  · unfold Blk at h; rw [Array.getElem?_eq_none hge] at h; cases h
theorem Blk.cell (h : Blk w g xs) {i : Nat} (hi : i < xs.length) : w.cell? ⟨g, i, none⟩ = some (.int .u32 (el xs i)) := (cell_of_row w g i _ 50 (0, 0) h).trans (vals_at xs i hi)
theorem Blk.frozen (h : Blk w g xs) (i : Nat) : w.frozen? ⟨g, i, none⟩ = false := by
  unfold Blk at h
  simp [World.frozen?, h]
theorem Blk.new (w : World) (xs : List Nat) : Blk (w.alloc (.cells (vals xs) 50)) w.heap.size xs := heap_alloc_new w _
theorem Blk.drew (h : Blk w g xs) : Blk w.drew g xs := h
theorem Blk.drewN (h : Blk w g xs) (n : Nat) : Blk (w.drewN n) g xs := h
theorem Blk.alloc (h : Blk w g xs) (o : Obj) : Blk (w.alloc o) g xs := (Below.heap_alloc w o g h.lt).trans h
theorem Blk.set_ (h : Blk w g xs) (i x : Nat) : Blk (w.setCell ⟨g, i, none⟩ (.int .u32 (x : Int))) g (xs.set i x) := by
  unfold Blk at h ⊢
  simp [World.setCell, Array.getElem?_modify, h, vals_set]
theorem Blk.far (h : Blk w g xs) {p : Addr} (hp : g ≠ p.block) (u : Value) : Blk (w.setCell p u) g xs := (Below.heap_setCell w p u g hp).trans h
theorem Blk.below {B : Nat} (h : Blk w g xs) (hb : Below B w w') (hg : g < B) : Blk w' g xs := (hb.block g hg).trans h
/-- A slice over the whole block. -/
theorem Blk.nw (h : Blk w g xs) (hl : Lim xs) {n : Nat} (hn : xs.length = n) (hm : n ≤ 9223372036854775807) {lo : Nat} (hlo : lo ≤ g) : Nw w lo (some ⟨g, 0, none⟩) n n xs :=
  ⟨⟨hn, Nat.le_refl _, hm, hl, fun _ => ⟨g, 0, rfl, h.lt, fun j hj => by rw [Nat.zero_add]; exact h.cell (by omega)⟩⟩,
    fun _ => ⟨g, 0, rfl, hlo, h.lt, fun j _ => by rw [Nat.zero_add]; exact h.frozen j⟩⟩
end
theorem bcell {W w1 : World} (hb : Below W.heap.size W w1) : (∀ b o, b < W.heap.size → w1.cell? ⟨b, o, none⟩ = W.cell? ⟨b, o, none⟩) ∧ (∀ b o, b < W.heap.size → w1.frozen? ⟨b, o, none⟩ = W.frozen? ⟨b, o, none⟩) :=
  ⟨fun b o h => hb.cell (p := ⟨b, o, none⟩) h, fun b o h => hb.frozen (p := ⟨b, o, none⟩) h⟩
/-- 'make' of cells of one kind, a length and as great a room. -/
theorem run_make_rowN {P : Program} (t e : TypeId) (i : TypeInfo) (z : Value) (ht : P.underlying t = some (.slice e)) (hi : P.info? e = some i) (hz : i.zero = some z)
    (kl kc : IntKind) (n c : Nat) (hnc : n ≤ c) (hbytes : i.bytes * c ≤ 281474976710656) (h63 : c ≤ 9223372036854775807) (w : World) :
    (Instr.makeSlice t (.int kl (n : Int)) (.int kc (c : Int))).run P w = .ok (.slice (some ⟨w.heap.size, 0, none⟩) n c) (w.alloc (.cells (madeCells z.cells (c * i.size)) e)) := by
  have hb : (i.bytes : Int) * (c : Int) ≤ 281474976710656 := by
    have h : ((i.bytes * c : Nat) : Int) ≤ 281474976710656 := by omega
    rwa [Int.natCast_mul] at h
  have hr := run_make (P := P) w t e i z ht hi hz kl kc n c (by omega) (by omega) hb (by omega)
  simp only [Int.toNat_natCast] at hr
  exact hr
theorem below_drewN' {B : Nat} {a w : World} (h : Below B a w) (n : Nat) : Below B a (w.drewN n) := ⟨h.os, h.tape, h.output, h.size, h.block⟩
end Go.Proofs.Ytcpeofgfppgooaa
