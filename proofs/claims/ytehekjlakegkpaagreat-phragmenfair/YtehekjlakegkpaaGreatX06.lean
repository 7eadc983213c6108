/-
  Words for memory: a slice of 32-bit limbs that reads as a list (Rd), one that lies in new memory that may be written (Nw), a block known whole (Blk). Proved: each is kept by what leaves its block alone. No conditions but those that each theorem names.
  What limb.trimmed does: of a slice that reads as xs it gives the first limbs, the list of the number that xs stands for; the world stays. For every slice that can be read.
  What limb.sum does: of two slices that read as naturals it makes the natural of their sum, in new memory. For slices of at most a million limbs.
  What limb.Formed, limb.limited, limb.Of, limb.Add and the law's own awake and few do. For slices that can be read; Add for naturals of at most 900000 limbs.
  What limb.low and limb.Low do. For slices that can be read.
  What bits.Len32 and bits.LeadingZeros32 answer for a 32-bit number that is not 0: the shift that brings its highest bit to the top. For every such number.
-/
import Derived.WalkKit
import Derived.WalkSpells
import Derived.WalkLawsBesides
import Derived.Deep.QuietTactic
import Derived.BigQuiet
import Derived.Lib.Hide
import Derived.Laws.Rows
import Derived.Test.YtehekjlakegkpaaGreatX01
import Derived.Test.YtehekjlakegkpaaGreatProg
import Derived.Laws.BitsAllLaws
import Derived.Lib.BitFns
import Derived.Lib.ItoaNum
section
namespace Go.Proofs.YtehekjlakegkpaaGreat
open Go.RowKit

/-- The slice '.slice A n c' reads as the limbs xs. -/
def Rd (w : World) (A : Option Addr) (n c : Nat) (xs : List Nat) : Prop :=
  xs.length = n ∧ n ≤ c ∧ c ≤ 9223372036854775807 ∧ Lim xs ∧
    (0 < n → ∃ b o, A = some ⟨b, o, none⟩ ∧ b < w.heap.size ∧ ∀ j, j < n → w.cell? ⟨b, o + j, none⟩ = some (.int .u32 (el xs j)))
/-- What it has lies in blocks from lo on, and may be written. -/
def Un (w : World) (lo : Nat) (A : Option Addr) (n : Nat) : Prop :=
  0 < n → ∃ b o, A = some ⟨b, o, none⟩ ∧ lo ≤ b ∧ b < w.heap.size ∧ ∀ j, j < n → w.frozen? ⟨b, o + j, none⟩ = false
/-- A slice in new memory. -/
def Nw (w : World) (lo : Nat) (A : Option Addr) (n c : Nat) (xs : List Nat) : Prop := Rd w A n c xs ∧ Un w lo A n
/-- The end of a call that makes a natural, xs. -/
def Out (w : World) (xs : List Nat) (e : Ending) (w' : World) : Prop :=
  ∃ A n c, e = .returned (.slice A n c) ∧ Nw w' w.heap.size A n c xs ∧ Below w.heap.size w w'

section
variable {w w' : World} {A : Option Addr} {n c lo : Nat} {xs : List Nat}
theorem Rd.len (h : Rd w A n c xs) : xs.length = n := h.1
theorem Rd.cap (h : Rd w A n c xs) : n ≤ c := h.2.1
theorem Rd.max (h : Rd w A n c xs) : c ≤ 9223372036854775807 := h.2.2.1
theorem Rd.lim (h : Rd w A n c xs) : Lim xs := h.2.2.2.1
theorem Rd.at_ (h : Rd w A n c xs) (hn : 0 < n) : ∃ b o, A = some ⟨b, o, none⟩ ∧ b < w.heap.size ∧ ∀ j, j < n → w.cell? ⟨b, o + j, none⟩ = some (.int .u32 (el xs j)) := h.2.2.2.2 hn
theorem Rd.keep (h : Rd w A n c xs) (hs : w.heap.size ≤ w'.heap.size) (hk : ∀ p : Addr, p.block < w.heap.size → w'.cell? p = w.cell? p) : Rd w' A n c xs :=
  ⟨h.1, h.2.1, h.2.2.1, h.2.2.2.1, fun hn => by
    obtain ⟨b, o, e, hb, hc⟩ := h.at_ hn
    exact ⟨b, o, e, Nat.lt_of_lt_of_le hb hs, fun j hj => (hk ⟨b, o + j, none⟩ hb).trans (hc j hj)⟩⟩
theorem Rd.below (h : Rd w A n c xs) (hb : Below w.heap.size w w') : Rd w' A n c xs := h.keep hb.size fun _ hp => hb.cell hp
theorem Rd.drew (h : Rd w A n c xs) : Rd w.drew A n c xs := h
theorem Rd.drewN (h : Rd w A n c xs) (k : Nat) : Rd (w.drewN k) A n c xs := h
theorem Rd.alloc (h : Rd w A n c xs) (o : Obj) : Rd (w.alloc o) A n c xs := h.keep (by simp) fun p hp => World.cell?_alloc_lt w o p hp
theorem Rd.take (h : Rd w A n c xs) {k : Nat} (hk : k ≤ n) : Rd w A k c (xs.take k) := by
  refine ⟨by rw [List.length_take, h.len]; omega, by have := h.cap; omega, h.max, Lim_take h.lim k, fun hn => ?_⟩
  obtain ⟨b, o, e, hb, hc⟩ := h.at_ (by omega)
  exact ⟨b, o, e, hb, fun j hj => by rw [el_take _ _ _ hj]; exact hc j (by omega)⟩
theorem Rd.nil (w : World) : Rd w none 0 0 [] := ⟨rfl, Nat.le_refl _, by omega, Lim_nil, fun h => by omega⟩
theorem Un.below (h : Un w lo A n) (hb : Below w.heap.size w w') : Un w' lo A n := fun hn => by
  obtain ⟨b, o, e, h1, h2, h3⟩ := h hn
  have := hb.size
  exact ⟨b, o, e, h1, by omega, fun j hj => (hb.frozen (p := ⟨b, o + j, none⟩) h2).trans (h3 j hj)⟩
theorem Un.take (h : Un w lo A n) {k : Nat} (hk : k ≤ n) : Un w lo A k := fun hn => by
  obtain ⟨b, o, e, h1, h2, h3⟩ := h (by omega)
  exact ⟨b, o, e, h1, h2, fun j hj => h3 j (by omega)⟩
theorem Un.mono (h : Un w lo A n) {lo' : Nat} (hl : lo' ≤ lo) : Un w lo' A n := fun hn => by
  obtain ⟨b, o, e, h1, h2, h3⟩ := h hn
  exact ⟨b, o, e, by omega, h2, h3⟩
theorem Nw.below (h : Nw w lo A n c xs) (hb : Below w.heap.size w w') : Nw w' lo A n c xs := ⟨h.1.below hb, h.2.below hb⟩
theorem Nw.take (h : Nw w lo A n c xs) {k : Nat} (hk : k ≤ n) : Nw w lo A k c (xs.take k) := ⟨h.1.take hk, h.2.take hk⟩
theorem Nw.mono (h : Nw w lo A n c xs) {lo' : Nat} (hl : lo' ≤ lo) : Nw w lo' A n c xs := ⟨h.1, h.2.mono hl⟩
theorem Nw.nil (w : World) (lo : Nat) : Nw w lo none 0 0 [] := ⟨Rd.nil w, fun h => by omega⟩
end
/-- A limb is stored at place j. -/
theorem Nw.store {w : World} {lo n c b o : Nat} {xs : List Nat} (h : Nw w lo (some ⟨b, o, none⟩) n c xs) {j x : Nat} (hj : j < n) (hx : x < 4294967296) :
    Nw (w.setCell ⟨b, o + j, none⟩ (.int .u32 (x : Int))) lo (some ⟨b, o, none⟩) n c (xs.set j x) := by
  have hl := h.1.len
  refine ⟨⟨by rw [List.length_set]; exact hl, h.1.cap, h.1.max, Lim_set h.1.lim j x hx, fun hn => ?_⟩, fun hn => ?_⟩
  · obtain ⟨b', o', e, hb, hc⟩ := h.1.at_ hn
    injection e with e
    injection e with e1 e2 e3
    subst e1 e2
    refine ⟨b, o, rfl, by simpa [World.setCell] using hb, fun i hi => ?_⟩
    by_cases hij : j = i
    · subst hij
      rw [el_set_same _ _ _ (by omega)]
      exact World.cell?_setCell_same _ _ _ (hc j hj)
    · rw [el_set_other _ _ _ _ hij, World.cell?_setCell_other _ _ _ _ (by intro e; injection e with _ e _; omega)]
      exact hc i hi
  · obtain ⟨b', o', e, h1, hb, hc⟩ := h.2 hn
    injection e with e
    injection e with e1 e2 e3
    subst e1 e2
    exact ⟨b, o, rfl, h1, by simpa [World.setCell] using hb, fun i hi => by rw [World.frozen?_setCell]; exact hc i hi⟩
theorem Nw.addr {w : World} {lo n c b o : Nat} {xs : List Nat} (h : Nw w lo (some ⟨b, o, none⟩) n c xs) (hn : 0 < n) : lo ≤ b ∧ b < w.heap.size ∧ (∀ j, j < n → w.cell? ⟨b, o + j, none⟩ = some (.int .u32 (el xs j))) ∧ ∀ j, j < n → w.frozen? ⟨b, o + j, none⟩ = false := by
  obtain ⟨b', o', e, hb, hc⟩ := h.1.at_ hn
  obtain ⟨b'', o'', e', h1, _, hf⟩ := h.2 hn
  injection e with e
  injection e with e1 e2 e3
  injection e' with e'
  injection e' with e1' e2' e3'
  subst e1 e2 e1' e2'
  exact ⟨h1, hb, hc, hf⟩

/-- The cells of limbs. -/
def vals (xs : List Nat) : Array Value := (xs.map fun (x : Nat) => Value.int .u32 (x : Int)).toArray
theorem vals_size (xs : List Nat) : (vals xs).size = xs.length := by simp [vals]
theorem vals_at (xs : List Nat) (j : Nat) (h : j < xs.length) : (vals xs)[j]? = some (.int .u32 (el xs j)) := by
  rw [el_get xs j h]; simp [vals, h]
theorem vals_set (xs : List Nat) (i x : Nat) : (vals xs).setIfInBounds i (.int .u32 (x : Int)) = vals (xs.set i x) := by
  simp [vals, List.map_set]
theorem vals_made (n : Nat) : madeCells (Value.int .u32 0).cells n = vals (zeros n) := by
  apply Array.ext'
  show (madeCells #[.int .u32 0] n).toList = _
  rw [toList_madeCells_one]; simp [vals, zeros]

/-- Block g is just the limbs xs, and may be written. -/
def Blk (w : World) (g : Nat) (xs : List Nat) : Prop := w.heap[g]? = some (.cells (vals xs) 69 (0, 0))

section
variable {w w' : World} {g : Nat} {xs : List Nat}
theorem Blk.lt (h : Blk w g xs) : g < w.heap.size := by
  rcases Nat.lt_or_ge g w.heap.size with hlt | hge
  · exact hlt
  · unfold Blk at h; rw [Array.getElem?_eq_none hge] at h; cases h
theorem Blk.cell (h : Blk w g xs) {i : Nat} (hi : i < xs.length) : w.cell? ⟨g, i, none⟩ = some (.int .u32 (el xs i)) := (cell_of_row w g i _ 69 (0, 0) h).trans (vals_at xs i hi)
theorem Blk.frozen (h : Blk w g xs) (i : Nat) : w.frozen? ⟨g, i, none⟩ = false := by
  unfold Blk at h
  simp [World.frozen?, h]
theorem Blk.new (w : World) (xs : List Nat) : Blk (w.alloc (.cells (vals xs) 69)) w.heap.size xs := heap_alloc_new w _
theorem Blk.drew (h : Blk w g xs) : Blk w.drew g xs := h
theorem Blk.drewN (h : Blk w g xs) (n : Nat) : Blk (w.drewN n) g xs := h
theorem Blk.alloc (h : Blk w g xs) (o : Obj) : Blk (w.alloc o) g xs := (Below.heap_alloc w o g h.lt).trans h
theorem Blk.set_ (h : Blk w g xs) (i x : Nat) : Blk (w.setCell ⟨g, i, none⟩ (.int .u32 (x : Int))) g (xs.set i x) := by
  unfold Blk at h ⊢
  simp [World.setCell, Array.getElem?_modify, h, vals_set]
theorem Blk.far (h : Blk w g xs) {p : Addr} (hp : g ≠ p.block) (u : Value) : Blk (w.setCell p u) g xs := (Below.heap_setCell w p u g hp).trans h
theorem Blk.below {B : Nat} (h : Blk w g xs) (hb : Below B w w') (hg : g < B) : Blk w' g xs := (hb.block g hg).trans h
/-- A slice over the whole block. -/
theorem Blk.nw (h : Blk w g xs) (hl : Lim xs) {n : Nat} (hn : xs.length = n) (hm : n ≤ 9223372036854775807) {lo : Nat} (hlo : lo ≤ g) : Nw w lo (some ⟨g, 0, none⟩) n n xs :=
  ⟨⟨hn, Nat.le_refl _, hm, hl, fun _ => ⟨g, 0, rfl, h.lt, fun j hj => by rw [Nat.zero_add]; exact h.cell (by omega)⟩⟩,
    fun _ => ⟨g, 0, rfl, hlo, h.lt, fun j _ => by rw [Nat.zero_add]; exact h.frozen j⟩⟩
end
theorem bcell {W w1 : World} (hb : Below W.heap.size W w1) : (∀ b o, b < W.heap.size → w1.cell? ⟨b, o, none⟩ = W.cell? ⟨b, o, none⟩) ∧ (∀ b o, b < W.heap.size → w1.frozen? ⟨b, o, none⟩ = W.frozen? ⟨b, o, none⟩) :=
  ⟨fun b o h => hb.cell (p := ⟨b, o, none⟩) h, fun b o h => hb.frozen (p := ⟨b, o, none⟩) h⟩
/-- 'make' of cells of one kind, a length and as great a room. -/
theorem run_make_rowN {P : Program} (t e : TypeId) (i : TypeInfo) (z : Value) (ht : P.underlying t = some (.slice e)) (hi : P.info? e = some i) (hz : i.zero = some z)
    (kl kc : IntKind) (n c : Nat) (hnc : n ≤ c) (hbytes : i.bytes * c ≤ 281474976710656) (h63 : c ≤ 9223372036854775807) (w : World) :
    (Instr.makeSlice t (.int kl (n : Int)) (.int kc (c : Int))).run P w = .ok (.slice (some ⟨w.heap.size, 0, none⟩) n c) (w.alloc (.cells (madeCells z.cells (c * i.size)) e)) := by
  have hb : (i.bytes : Int) * (c : Int) ≤ 281474976710656 := by
    have h : ((i.bytes * c : Nat) : Int) ≤ 281474976710656 := by omega
    rwa [Int.natCast_mul] at h
  have hr := run_make (P := P) w t e i z ht hi hz kl kc n c (by omega) (by omega) hb (by omega)
  simp only [Int.toNat_natCast] at hr
  exact hr
theorem below_drewN' {B : Nat} {a w : World} (h : Below B a w) (n : Nat) : Below B a (w.drewN n) := ⟨h.os, h.tape, h.output, h.size, h.block⟩
end Go.Proofs.YtehekjlakegkpaaGreat
end
section
namespace Go.Proofs.YtehekjlakegkpaaGreat
open Go.RowKit

def TrimP (w : World) (A : Option Addr) (n c : Nat) (xs : List Nat) (e : Ending) (w' : World) : Prop :=
  ∃ k, e = .returned (.slice A k c) ∧ k ≤ n ∧ xs.take k = digs (val xs) ∧ w = w'

set_option maxHeartbeats 400000 in
theorem trimmed_any (A : Option Addr) (n c : Nat) (xs : List Nat) (w : World) (h : Rd w A n c xs) :
    Calls Tryz.prog 101 #[.slice A n c] w (TrimP w A n c xs) := by
  have hlen := Lib.hid h.len
  have hcap := h.cap
  have hmax := h.max
  have HL := Lib.hid h.lim
  go_enter Tryz.func101, Tryz.ntmps101
  go_wp2
  go_loop [3] (fun t => ∃ k : Nat, k ≤ n ∧ t = .int .i64 k ∧ Hid (∀ j, k ≤ j → el xs j = 0)) (fun t => (intOf t).toNat)
  case atStart => exact ⟨n, Nat.le_refl _, rfl, fun j hj => el_ge xs j (by rw [hlen.out]; exact hj)⟩
  case round =>
    obtain ⟨k, hk, rfl, hz⟩ := hrel
    by_cases hk0 : k = 0
    · subst hk0
      go_wp2
      go_ret
      exact ⟨0, rfl, Nat.zero_le _, take_trim HL.out (Nat.zero_le _) (hz.out) (Or.inl rfl), rfl⟩
    · obtain ⟨b, o, rfl, hb, hc⟩ := h.at_ (by omega)
      have hcell := hc (k - 1) (by omega)
      have hpos : (0 : Int) < (k : Int) := by omega
      clear hc
      by_cases he : el xs (k - 1) = 0
      · have hq : (((el xs (k - 1) : Nat) : Int) == 0) = true := by rw [he]; rfl
        have HE := Lib.hid he
        clear he
        go_wp2
        go_round
        case rel => exact ⟨k - 1, by omega, by go_num, fun j hj => by
          rcases Nat.eq_or_lt_of_le hj with hj | hj
          · rw [← hj]; exact HE.out
          · exact hz.out j (by omega)⟩
        case measure => simp [intOf]; omega
      · have hq : (((el xs (k - 1) : Nat) : Int) == 0) = false := by simp; exact he
        have HE := Lib.hid he
        clear he
        go_wp2
        go_ret
        exact ⟨k, rfl, hk, take_trim HL.out (by rw [hlen.out]; exact hk) hz.out (Or.inr HE.out), rfl⟩
end Go.Proofs.YtehekjlakegkpaaGreat
end
section
namespace Go.Proofs.YtehekjlakegkpaaGreat
open Go.RowKit

theorem info50 : (Tryz.prog.info? 69).map (fun i => (i.zero, i.size, i.bytes)) = some (some (.int .u32 0), 1, 4) := by kernel_rfl
/-- make(Nat, n). -/
theorem mk32 (L : Int) (n : Nat) (hL : L = n) (hn : n ≤ 1000000) (W : World) :
    (Instr.makeSlice 36 (.int .i64 L) (.int .i64 L)).run Tryz.prog W = .ok (.slice (some ⟨W.heap.size, 0, none⟩) n n) (W.alloc (.cells (vals (zeros n)) 69)) := by
  obtain ⟨i0, hi, hz0, hz1, hz2⟩ := info_parts info50
  subst hL
  have h := run_make_rowN (P := Tryz.prog) 36 69 i0 (.int .u32 0) Tryz.underlying36 hi hz0 .i64 .i64 n n (Nat.le_refl _) (by rw [hz2]; omega) (by omega) W
  rw [hz1, Nat.mul_one, vals_made] at h
  exact h

def SumRel (w : World) (n : Nat) (us vs : List Nat) (cv tv : Value) (wr : World) : Prop :=
  ∃ (k q : Nat) (rs : List Nat), k ≤ n ∧ tv = .int .i64 k ∧ cv = .int .u64 q ∧ q ≤ 1 ∧ Blk wr w.heap.size rs ∧ rs.length = n + 1 ∧ Lim rs ∧ Below w.heap.size w wr ∧
    val (rs.take k) + pw k * q = val (us.take k) + val (vs.take k)
theorem SumRel.step {w wr : World} {n k q : Nat} {us vs rs : List Nat} (hx : el us k < 4294967296) (hy : el vs k < 4294967296) (hk : k < n) (hq : q ≤ 1) (hB : Blk wr w.heap.size rs) (hrl : rs.length = n + 1) (hrL : Lim rs) (hbel : Below w.heap.size w wr)
    (heq : val (rs.take k) + pw k * q = val (us.take k) + val (vs.take k)) {S1 S2 : Int} (h1 : S1 = (((q + el us k + el vs k) / 4294967296 : Nat) : Int)) (h2 : S2 = (((q + el us k + el vs k) % 4294967296 : Nat) : Int)) :
    SumRel w n us vs (.int .u64 S1) (.int .i64 ((k : Int) + 1)) (wr.setCell ⟨w.heap.size, k, none⟩ (.int .u32 S2)) := by
  subst h1 h2
  refine ⟨k + 1, (q + el us k + el vs k) / 4294967296, rs.set k ((q + el us k + el vs k) % 4294967296), by omega, rfl, rfl, by omega, hB.set_ _ _, by simp [hrl], Lim_set hrL _ _ (by omega), hbel.setCell (Nat.le_refl _) _, ?_⟩
  rw [carry_step rs k _ (by omega), val_take_step us, val_take_step vs, Nat.mul_add, Nat.mul_add]
  omega
theorem SumRel.last {w wr : World} {n q : Nat} {us vs rs : List Nat} (hu : us.length ≤ n) (hv : vs.length ≤ n) (hq : q ≤ 1) (hB : Blk wr w.heap.size rs) (hrl : rs.length = n + 1) (hrL : Lim rs)
    (heq : val (rs.take n) + pw n * q = val (us.take n) + val (vs.take n)) :
    Blk (wr.setCell ⟨w.heap.size, n, none⟩ (.int .u32 (q : Int))) w.heap.size (rs.set n q) ∧ Lim (rs.set n q) ∧ (rs.set n q).length = n + 1 ∧ val (rs.set n q) = val us + val vs := by
  refine ⟨hB.set_ _ _, Lim_set hrL _ _ (by omega), by simp [hrl], ?_⟩
  have h := val_take_set rs n q (by omega)
  rw [val_take_ge _ _ (by simp [hrl])] at h
  rw [val_take_ge us n hu, val_take_ge vs n hv] at heq
  omega
/-- The end of a function that trims its row and returns it. -/
theorem out_trim {w w1 : World} {g n k N : Nat} {rs : List Nat} (hB : Blk w1 g rs) (hL : Lim rs) (hl : rs.length = n) (hn : n ≤ 9223372036854775807) (hg : w.heap.size ≤ g) (hb : Below w.heap.size w w1) (hv : val rs = N) (hk : k ≤ n) (ht : rs.take k = digs (val rs)) :
    Out w (digs N) (.returned (.slice (some ⟨g, 0, none⟩) k n)) w1 := by
  subst hl hv
  refine ⟨_, _, _, rfl, ?_, hb⟩
  rw [← ht]
  exact (hB.nw hL rfl hn hg).take hk

set_option maxHeartbeats 400000 in
theorem sum_ge (A B : Option Addr) (n c m d : Nat) (xs ys : List Nat) (w : World) (ha : Rd w A n c xs) (hb : Rd w B m d ys) (hn : n ≤ 900000) (hmn : m ≤ n) :
    Calls Tryz.prog 104 #[.slice A n c, .slice B m d] w (Out w (digs (val xs + val ys))) := by
  have hmk := fun W => mk32 ((n : Int) + 1) (n + 1) (by omega) (by omega) W
  have hlt : ¬ ((n : Int) < (m : Int)) := by omega
  have hdec : decide (n < m) = false := by simp; omega
  have HX := Lib.hid ha.len
  have HY := Lib.hid hb.len
  go_enter Tryz.func104, Tryz.ntmps104
  go_wp2
  go_loopw [6, 21] (fun cv tv wr => SumRel w n xs ys cv tv wr) (fun _ tv _ => n - (intOf tv).toNat)
  case atStart => exact ⟨0, 0, zeros (n + 1), Nat.zero_le _, rfl, rfl, Nat.zero_le _, Blk.new _ _, zeros_len _, Lim_zeros _, (Below.refl _ _).alloc (Nat.le_refl _) _, rfl⟩
  case round =>
    obtain ⟨k, q, rs, hk, rfl, rfl, hq, hB, hrl, hrL, hbel, heq⟩ := hrel
    have HE := Lib.hid heq
    have HR := Lib.hid hrl
    clear heq
    have hxk := el_lt ha.lim k
    have hyk := el_lt hb.lim k
    have hf := hB.frozen k
    have hc0 := hB.cell (i := k) (by omega)
    clear hrl hmk
    by_cases hkn : k < n
    · obtain ⟨b, o, rfl, hbb, hcA⟩ := ha.at_ (by omega)
      have hcx := (hbel.cell (p := ⟨b, o + k, none⟩) hbb).trans (hcA k hkn)
      clear hcA
      by_cases hkm : k < m
      · obtain ⟨b2, o2, rfl, hbb2, hcB⟩ := hb.at_ (by omega)
        have hcy := (hbel.cell (p := ⟨b2, o2 + k, none⟩) hbb2).trans (hcB k hkm)
        clear hcB
        go_wp2
        go_roundw
        case rel => exact SumRel.step hxk hyk hkn hq hB HR.out hrL hbel HE.out (by omega) (by omega)
        case measure => simp [intOf]; omega
      · have HZ := Lib.hid (el_ge ys k (by rw [HY.out]; omega))
        go_wp2
        go_roundw
        case rel => exact SumRel.step hxk hyk hkn hq hB HR.out hrL hbel HE.out (by have := HZ.out; omega) (by have := HZ.out; omega)
        case measure => simp [intOf]; omega
    · obtain rfl : k = n := by omega
      have HL := Lib.hid (SumRel.last (by rw [HX.out]; exact Nat.le_refl _) (by rw [HY.out]; omega) hq hB HR.out hrL HE.out)
      go_wp2_with fail
      refine (trimmed_any _ (k + 1) (k + 1) (rs.set k q) _ (HL.out.1.nw HL.out.2.1 HL.out.2.2.1 (by omega) (Nat.le_refl _)).1).mono ?_
      rintro e w' ⟨j, rfl, hj, ht, rfl⟩
      have HT := Lib.hid ht
      clear ht
      go_wp2
      go_ret
      exact out_trim HL.out.1 HL.out.2.1 HL.out.2.2.1 (by omega) (Nat.le_refl _) (hbel.setCell (Nat.le_refl _) _) (HL.out.2.2.2) hj HT.out
set_option maxHeartbeats 400000 in
theorem sum_lt (A B : Option Addr) (n c m d : Nat) (xs ys : List Nat) (w : World) (ha : Rd w A n c xs) (hb : Rd w B m d ys) (hn : n ≤ 900000) (hmn : m < n) :
    Calls Tryz.prog 104 #[.slice B m d, .slice A n c] w (Out w (digs (val ys + val xs))) := by
  have hmk := fun W => mk32 ((n : Int) + 1) (n + 1) (by omega) (by omega) W
  have hlt : ((m : Int) < (n : Int)) := by omega
  have hdec : decide (m < n) = true := by simp; omega
  have HX := Lib.hid ha.len
  have HY := Lib.hid hb.len
  go_enter Tryz.func104, Tryz.ntmps104
  go_wp2
  go_loopw [6, 21] (fun cv tv wr => SumRel w n xs ys cv tv wr) (fun _ tv _ => n - (intOf tv).toNat)
  case atStart => exact ⟨0, 0, zeros (n + 1), Nat.zero_le _, rfl, rfl, Nat.zero_le _, Blk.new _ _, zeros_len _, Lim_zeros _, (Below.refl _ _).alloc (Nat.le_refl _) _, rfl⟩
  case round =>
    obtain ⟨k, q, rs, hk, rfl, rfl, hq, hB, hrl, hrL, hbel, heq⟩ := hrel
    have HE := Lib.hid heq
    have HR := Lib.hid hrl
    clear heq
    have hxk := el_lt ha.lim k
    have hyk := el_lt hb.lim k
    have hf := hB.frozen k
    have hc0 := hB.cell (i := k) (by omega)
    clear hrl hmk
    by_cases hkn : k < n
    · obtain ⟨b, o, rfl, hbb, hcA⟩ := ha.at_ (by omega)
      have hcx := (hbel.cell (p := ⟨b, o + k, none⟩) hbb).trans (hcA k hkn)
      clear hcA
      by_cases hkm : k < m
      · obtain ⟨b2, o2, rfl, hbb2, hcB⟩ := hb.at_ (by omega)
        have hcy := (hbel.cell (p := ⟨b2, o2 + k, none⟩) hbb2).trans (hcB k hkm)
        clear hcB
        go_wp2
        go_roundw
        case rel => exact SumRel.step hxk hyk hkn hq hB HR.out hrL hbel HE.out (by omega) (by omega)
        case measure => simp [intOf]; omega
      · have HZ := Lib.hid (el_ge ys k (by rw [HY.out]; omega))
        go_wp2
        go_roundw
        case rel => exact SumRel.step hxk hyk hkn hq hB HR.out hrL hbel HE.out (by have := HZ.out; omega) (by have := HZ.out; omega)
        case measure => simp [intOf]; omega
    · obtain rfl : k = n := by omega
      have HL := Lib.hid (SumRel.last (by rw [HX.out]; exact Nat.le_refl _) (by rw [HY.out]; omega) hq hB HR.out hrL HE.out)
      go_wp2_with fail
      refine (trimmed_any _ (k + 1) (k + 1) (rs.set k q) _ (HL.out.1.nw HL.out.2.1 HL.out.2.2.1 (by omega) (Nat.le_refl _)).1).mono ?_
      rintro e w' ⟨j, rfl, hj, ht, rfl⟩
      have HT := Lib.hid ht
      clear ht
      go_wp2
      go_ret
      exact out_trim HL.out.1 HL.out.2.1 HL.out.2.2.1 (by omega) (Nat.le_refl _) (hbel.setCell (Nat.le_refl _) _) (HL.out.2.2.2.trans (Nat.add_comm _ _)) hj HT.out
/-- limb.sum. -/
theorem sum_any (A B : Option Addr) (n c m d : Nat) (xs ys : List Nat) (w : World) (ha : Rd w A n c xs) (hb : Rd w B m d ys) (hn : n ≤ 900000) (hm : m ≤ 900000) :
    Calls Tryz.prog 104 #[.slice A n c, .slice B m d] w (Out w (digs (val xs + val ys))) := by
  rcases Nat.lt_or_ge n m with h | h
  · exact sum_lt B A m d n c ys xs w hb ha hm h
  · exact sum_ge A B n c m d xs ys w ha hb hn h
end Go.Proofs.YtehekjlakegkpaaGreat
end
section
namespace Go.Proofs.YtehekjlakegkpaaGreat
open Go.RowKit

/-- Well formed: at most 400 limbs, the last one not 0. -/
def fmB (xs : List Nat) : Bool := decide (xs.length ≤ 400) && (xs.isEmpty || el xs (xs.length - 1) != 0)
theorem fmB_len {xs : List Nat} (h : fmB xs = true) : xs.length ≤ 400 := by
  unfold fmB at h; simp at h; exact h.1
theorem fmB_nrm {xs : List Nat} (h : fmB xs = true) : Nrm xs := by
  unfold fmB at h; simp at h
  rcases h.2 with h2 | h2
  · left; exact h2
  · right; exact h2
theorem fmB_digs (n : Nat) : fmB (digs n) = decide ((digs n).length ≤ 400) := by
  unfold fmB
  rcases Nrm_digs n with h | h
  · rw [h]; rfl
  · have : (el (digs n) ((digs n).length - 1) != 0) = true := by simpa using h
    rw [this]; simp
theorem fmB_nil : fmB [] = true := rfl

theorem ret_b {a b : Bool} (h : a = b) : Ending.returned (.bool a) = .returned (.bool b) := by rw [h]
theorem vals2 (a b : Nat) (x y : Int) (hx : x = a) (hy : y = b) : (#[.int .u32 x, .int .u32 y] : Array Value) = vals [a, b] := by subst hx hy; rfl
theorem blk2 (w : World) (a b : Nat) (x y : Int) (hx : x = a) (hy : y = b) : Blk (w.alloc (.cells #[.int .u32 x, .int .u32 y] 69)) w.heap.size [a, b] := by
  rw [vals2 a b x y hx hy]; exact Blk.new _ _
theorem lim2 (N : Nat) (h : N < 18446744073709551616) : Lim [N % 4294967296, N / 4294967296] := Lim_cons (by omega) (Lim_cons (by omega) Lim_nil)
theorem val2 (N : Nat) : val [N % 4294967296, N / 4294967296] = N := by simp only [val]; omega

set_option maxHeartbeats 400000 in
/-- limb.Formed. -/
theorem formed_any (A : Option Addr) (n c : Nat) (xs : List Nat) (w : World) (h : Rd w A n c xs) :
    Calls Tryz.prog 97 #[.slice A n c] w fun e w' => e = .returned (.bool (fmB xs)) ∧ w = w' := by
  have HL := Lib.hid h.len
  have hcap := h.cap
  have hmax := h.max
  by_cases h4 : n ≤ 400
  · by_cases h0 : n = 0
    · subst h0
      have HV := Lib.hid (show true = fmB xs by
        have : xs = [] := List.eq_nil_of_length_eq_zero HL.out
        rw [this]; rfl)
      go_enter Tryz.func97, Tryz.ntmps97
      go_wp2
      go_ret
      exact ⟨ret_b HV.out, rfl⟩
    · obtain ⟨b, o, rfl, hb, hc⟩ := h.at_ (by omega)
      have hcell := hc (n - 1) (by omega)
      clear hc
      have h00 : ((n : Int) == 0) = false := by simp; omega
      have h44 : (n : Int) ≤ 400 := by omega
      have HV := Lib.hid (show (((el xs (n - 1) : Nat) : Int) != 0) = fmB xs by
        unfold fmB
        have e1 : decide (xs.length ≤ 400) = true := by rw [HL.out]; simpa using h4
        have e2 : xs.isEmpty = false := by
          cases xs with
          | nil => exact absurd HL.out (by simp; omega)
          | cons x xs => rfl
        rw [e1, e2, HL.out, Bool.eq_iff_iff]; simp)
      go_enter Tryz.func97, Tryz.ntmps97
      go_wp2
      go_ret
      exact ⟨ret_b HV.out, rfl⟩
  · have h44 : ¬ ((n : Int) ≤ 400) := by omega
    have hd : decide ((n : Int) ≤ 400) = false := by simp; omega
    have HV := Lib.hid (show false = fmB xs by
      unfold fmB
      have e1 : decide (xs.length ≤ 400) = false := by rw [HL.out]; simpa using h4
      rw [e1]; rfl)
    go_enter Tryz.func97, Tryz.ntmps97
    go_wp2
    go_ret
    exact ⟨ret_b HV.out, rfl⟩

set_option maxHeartbeats 400000 in
/-- limb.limited. -/
theorem limited_yes (A : Option Addr) (n c : Nat) (w : World) (h : n ≤ 400) :
    Calls Tryz.prog 103 #[.slice A n c] w fun e w' => e = .returned (.tuple #[.slice A n c, .int .i64 0]) ∧ w = w' := by
  have h1 : ¬ (400 < (n : Int)) := by omega
  go_enter Tryz.func103, Tryz.ntmps103
  go_wp2
  go_ret2
  exact ⟨rfl, rfl⟩
set_option maxHeartbeats 400000 in
theorem limited_no (A : Option Addr) (n c : Nat) (w : World) (h : 400 < n) :
    Calls Tryz.prog 103 #[.slice A n c] w fun e w' => e = .returned (.tuple #[.slice none 0 0, .int .i64 4]) ∧ w = w' := by
  have h1 : (400 < (n : Int)) := by omega
  go_enter Tryz.func103, Tryz.ntmps103
  go_wp2
  go_ret2
  exact ⟨rfl, rfl⟩

set_option maxHeartbeats 400000 in
/-- limb.Of. -/
theorem of_any (N : Nat) (w : World) (h : N < 18446744073709551616) :
    Calls Tryz.prog 47 #[.int .u64 N] w (Out w (digs N)) := by
  go_enter Tryz.func47, Tryz.ntmps47
  go_wp2_with fail
  have hB := blk2 w (N % 4294967296) (N / 4294967296) ((N : Int) % 4294967296) ((N : Int) / 4294967296) (by omega) (by omega)
  refine (trimmed_any _ 2 2 [N % 4294967296, N / 4294967296] _ (hB.nw (n := 2) (lim2 N h) rfl (by omega) (Nat.le_refl _)).1).mono ?_
  rintro e w' ⟨j, rfl, hj, ht, rfl⟩
  have HT := Lib.hid ht
  clear ht
  go_wp2
  go_ret
  exact out_trim hB (lim2 N h) rfl (by omega) (Nat.le_refl _) ((Below.refl _ _).alloc (Nat.le_refl _) _) (val2 N) hj HT.out

/-- The end of a call that gives a natural and an error number. -/
def Out2 (w : World) (xs : List Nat) (k : Int) (e : Ending) (w' : World) : Prop :=
  ∃ A n c, e = .returned (.tuple #[.slice A n c, .int .i64 k]) ∧ Nw w' w.heap.size A n c xs ∧ Below w.heap.size w w'

set_option maxHeartbeats 400000 in
/-- limb.Add, of naturals that are well formed, where the sum is not too long. -/
theorem add_yes (A B : Option Addr) (n c m d : Nat) (xs ys : List Nat) (w : World) (ha : Rd w A n c xs) (hb : Rd w B m d ys) (fa : fmB xs = true) (fb : fmB ys = true)
    (hl : (digs (val xs + val ys)).length ≤ 400) :
    Calls Tryz.prog 49 #[.slice A n c, .slice B m d] w (Out2 w (digs (val xs + val ys)) 0) := by
  have hn : n ≤ 400 := by rw [← ha.len]; exact fmB_len fa
  have hm : m ≤ 400 := by rw [← hb.len]; exact fmB_len fb
  have HL := Lib.hid hl
  clear hl
  go_enter Tryz.func49, Tryz.ntmps49
  go_wp2_with fail
  refine (formed_any _ _ _ xs _ ha).mono ?_
  rintro e w' ⟨rfl, rfl⟩
  go_wp2_with fail
  refine (formed_any _ _ _ ys _ hb).mono ?_
  rintro e w' ⟨rfl, rfl⟩
  go_wp2_with fail
  refine (sum_any _ _ _ _ _ _ xs ys _ ha hb (by omega) (by omega)).mono ?_
  rintro e w1 ⟨R, k, cr, rfl, hN, hbel⟩
  have hk : k ≤ 400 := by rw [← hN.1.len]; exact HL.out
  go_wp2_with fail
  refine (limited_yes _ _ _ _ hk).mono ?_
  rintro e w' ⟨rfl, rfl⟩
  go_wp2
  go_ret2
  exact ⟨_, _, _, rfl, hN, hbel⟩
set_option maxHeartbeats 400000 in
/-- limb.Add, where the sum is too long. -/
theorem add_long (A B : Option Addr) (n c m d : Nat) (xs ys : List Nat) (w : World) (ha : Rd w A n c xs) (hb : Rd w B m d ys) (fa : fmB xs = true) (fb : fmB ys = true)
    (hl : 400 < (digs (val xs + val ys)).length) :
    Calls Tryz.prog 49 #[.slice A n c, .slice B m d] w (Out2 w [] 4) := by
  have hn : n ≤ 400 := by rw [← ha.len]; exact fmB_len fa
  have hm : m ≤ 400 := by rw [← hb.len]; exact fmB_len fb
  have HL := Lib.hid hl
  clear hl
  go_enter Tryz.func49, Tryz.ntmps49
  go_wp2_with fail
  refine (formed_any _ _ _ xs _ ha).mono ?_
  rintro e w' ⟨rfl, rfl⟩
  go_wp2_with fail
  refine (formed_any _ _ _ ys _ hb).mono ?_
  rintro e w' ⟨rfl, rfl⟩
  go_wp2_with fail
  refine (sum_any _ _ _ _ _ _ xs ys _ ha hb (by omega) (by omega)).mono ?_
  rintro e w1 ⟨R, k, cr, rfl, hN, hbel⟩
  have hk : 400 < k := by rw [← hN.1.len]; exact HL.out
  go_wp2_with fail
  refine (limited_no _ _ _ _ hk).mono ?_
  rintro e w' ⟨rfl, rfl⟩
  go_wp2
  go_ret2
  exact ⟨_, _, _, rfl, Nw.nil _ _, hbel⟩
set_option maxHeartbeats 400000 in
/-- limb.Add, of a natural that is not well formed. -/
theorem add_bad (A B : Option Addr) (n c m d : Nat) (xs ys : List Nat) (w : World) (ha : Rd w A n c xs) (hb : Rd w B m d ys) (f : (fmB xs && fmB ys) = false) :
    Calls Tryz.prog 49 #[.slice A n c, .slice B m d] w (Out2 w [] 1) := by
  cases fa : fmB xs
  · clear f
    go_enter Tryz.func49, Tryz.ntmps49
    go_wp2_with fail
    refine (formed_any _ _ _ xs _ ha).mono ?_
    rintro e w' ⟨rfl, rfl⟩
    go_wp2
    go_ret2
    exact ⟨_, _, _, rfl, Nw.nil _ _, Below.refl _ _⟩
  · have fb : fmB ys = false := by rw [fa] at f; simpa using f
    clear f
    go_enter Tryz.func49, Tryz.ntmps49
    go_wp2_with fail
    refine (formed_any _ _ _ xs _ ha).mono ?_
    rintro e w' ⟨rfl, rfl⟩
    go_wp2_with fail
    refine (formed_any _ _ _ ys _ hb).mono ?_
    rintro e w' ⟨rfl, rfl⟩
    go_wp2
    go_ret2
    exact ⟨_, _, _, rfl, Nw.nil _ _, Below.refl _ _⟩
/-- The document's sum: the natural and the error. -/
def addR (xs ys : List Nat) : List Nat × Int :=
  if fmB xs && fmB ys then (if (digs (val xs + val ys)).length ≤ 400 then (digs (val xs + val ys), 0) else ([], 4)) else ([], 1)
theorem add_any (A B : Option Addr) (n c m d : Nat) (xs ys : List Nat) (w : World) (ha : Rd w A n c xs) (hb : Rd w B m d ys) :
    Calls Tryz.prog 49 #[.slice A n c, .slice B m d] w (Out2 w (addR xs ys).1 (addR xs ys).2) := by
  cases f : fmB xs && fmB ys
  · have e : addR xs ys = ([], 1) := by unfold addR; rw [f]; rfl
    rw [e]; exact add_bad A B n c m d xs ys w ha hb f
  · have f' := f
    rw [Bool.and_eq_true] at f'
    by_cases hl : (digs (val xs + val ys)).length ≤ 400
    · have e : addR xs ys = (digs (val xs + val ys), 0) := by unfold addR; rw [f, if_pos rfl, if_pos hl]
      rw [e]; exact add_yes A B n c m d xs ys w ha hb f'.1 f'.2 hl
    · have e : addR xs ys = ([], 4) := by unfold addR; rw [f, if_pos rfl, if_neg hl]
      rw [e]; exact add_long A B n c m d xs ys w ha hb f'.1 f'.2 (by omega)
end Go.Proofs.YtehekjlakegkpaaGreat
end
section
namespace Go.Proofs.YtehekjlakegkpaaGreat
open Go.RowKit

theorem or_hi (z x : Nat) (hz : z < 4294967296) (hx : x < 4294967296) : bits .or .u64 (z : Int) ((x : Int) * 4294967296) = ((z + 4294967296 * x : Nat) : Int) := by
  rw [show ((x : Int) * 4294967296) = ((x * 4294967296 : Nat) : Int) by omega, u64_or_nat _ _ (by omega) (by omega), Nat.or_comm, nat_join 32 _ _ (by omega) (by omega)]
  congr 1; omega
theorem or_lo (z x : Nat) (hz : z < 4294967296) (hx : x < 4294967296) : bits .or .u64 ((x : Int) * 4294967296) (z : Int) = ((z + 4294967296 * x : Nat) : Int) := by
  rw [show ((x : Int) * 4294967296) = ((x * 4294967296 : Nat) : Int) by omega, u64_or_nat _ _ (by omega) (by omega), nat_join 32 _ _ (by omega) (by omega)]
  congr 1; omega
theorem or_zero (x : Nat) (hx : x < 18446744073709551616) : bits .or .u64 0 (x : Int) = x := by
  have := u64_or_nat 0 x (by omega) hx
  simpa using this
theorem val_take_one (xs : List Nat) : val (xs.take 1) = el xs 0 := by
  have := val_take_step xs 0
  simpa [val, pw] using this
theorem val_take_two (xs : List Nat) : val (xs.take 2) = el xs 0 + 4294967296 * el xs 1 := by
  have := val_take_step xs 1
  rw [val_take_one] at this
  simpa [pw] using this

set_option maxHeartbeats 400000 in
/-- limb.low. -/
theorem low_any (A : Option Addr) (n c : Nat) (xs : List Nat) (w : World) (h : Rd w A n c xs) (hn : n ≤ 2) :
    Calls Tryz.prog 183 #[.slice A n c] w fun e w' => e = .returned (.int .u64 (val xs)) ∧ w = w' := by
  have HL := Lib.hid h.len
  go_enter Tryz.func183, Tryz.ntmps183
  go_wp2
  go_loop [3, 8] (fun a t => ∃ k : Nat, k ≤ n ∧ t = .int .i64 k ∧ a = .int .u64 (val (xs.take k))) (fun _ t => n - (intOf t).toNat)
  case atStart => exact ⟨0, Nat.zero_le _, rfl, rfl⟩
  case round =>
    obtain ⟨k, hk, rfl, rfl⟩ := hrel
    by_cases hlt : k < n
    · obtain ⟨b, o, rfl, hb, hc⟩ := h.at_ (by omega)
      have hcell := hc k hlt
      have he := el_lt h.lim k
      clear hc
      by_cases h0 : k = 0
      · subst h0
        simp only [Nat.add_zero] at hcell
        have hz : ((val (xs.take 0) : Nat) : Int) = 0 := rfl
        rw [hz]
        clear hz
        go_wp2
        go_round
        case rel => exact ⟨1, by omega, rfl, by rw [val_take_one]; first | rw [or_zero _ (by omega)] | rfl⟩
        case measure => simp [intOf]; omega
      · obtain rfl : k = 1 := by omega
        have he0 := el_lt h.lim 0
        rw [val_take_one]
        go_wp2
        go_round
        case rel => exact ⟨2, by omega, rfl, by rw [val_take_two, or_hi _ _ he0 he]⟩
        case measure => simp [intOf]; omega
    · obtain rfl : k = n := by omega
      have HV := Lib.hid (show ((val (xs.take k) : Nat) : Int) = val xs by rw [val_take_ge xs k (by rw [HL.out]; exact Nat.le_refl _)])
      go_wp2
      go_ret
      exact ⟨by rw [← HV.out]; rfl, rfl⟩

/-- The document's Low. -/
def lowR (xs : List Nat) : Nat × Bool := if fmB xs && decide (xs.length ≤ 2) then (val xs, true) else (0, false)
end Go.Proofs.YtehekjlakegkpaaGreat
end
section
namespace Go.Proofs.YtehekjlakegkpaaGreat
open Go.RowKit

theorem tab_at (i : Int) (h0 : 0 ≤ i) (h1 : i < (Lib.len8tab.size : Int)) (hh : i.toNat < Lib.len8tab.size) : ((Lib.len8tab[i.toNat]'hh).toNat : Int) = (Lib.bitLen i.toNat : Int) := by
  have hs : (Lib.len8tab.size : Int) = 256 := by rw [Lib.len8tab_size]; rfl
  have := Lib.len8_of i h0 (by omega)
  rw [← this]
  unfold Lib.len8
  rw [getElem?_pos Lib.len8tab i.toNat hh]
  rfl
theorem ret_i' {a b : Int} (h : a = b) : Ending.returned (.int .i64 a) = .returned (.int .i64 b) := by rw [h]
theorem len_fin (k : Int) (y x : Nat) (v : Int) (h0 : 0 ≤ k) (h1 : k ≤ 24) (hv : v = (Lib.bitLen y : Int)) (hy : y ≤ 255) (hx : (Lib.bitLen x : Int) = k + (Lib.bitLen y : Int)) : wrap64 (k + wrap64 v) = (Lib.bitLen x : Int) := by
  have hl : Lib.bitLen y ≤ 8 := Lib.bitLen_le y 8 (by omega) (by omega)
  subst hv
  rw [IntWalk.wrap64_in (Lib.bitLen y : Int) ⟨by omega, by omega⟩, IntWalk.wrap64_in (k + (Lib.bitLen y : Int)) ⟨by omega, by omega⟩, hx]
set_option maxHeartbeats 4000000 in
set_option maxRecDepth 100000 in
theorem len32_any (x : Int) (w : World) (h0 : 0 ≤ x) (h1 : x ≤ 4294967295) :
    Calls Tryz.prog 177 #[.int .u32 x] w fun e w' => e = .returned (.int .i64 (Lib.bitLen x.toNat)) ∧ w = w' := by
  have hs : (256 : Int) ≤ (Lib.len8tab.size : Int) := by rw [Lib.len8tab_size]; decide
  have hs' : (Lib.len8tab.size : Int) ≤ 256 := by rw [Lib.len8tab_size]; decide
  rcases Nat.lt_or_ge x.toNat 65536 with k1 | k1
  · rcases Nat.lt_or_ge x.toNat 256 with k2 | k2
    · have e1 : x < 65536 := by omega
      have e2 : x < 256 := by omega
      have e3 : x < (Lib.len8tab.size : Int) := by omega
      go_enter Tryz.func177, Tryz.ntmps177
      go_wp2
      go_ret
      exact ⟨ret_i' (by
        have := len_fin 0 x.toNat x.toNat _ (by omega) (by omega) (tab_at x h0 e3 (by omega)) (by omega) (by omega)
        rwa [Int.zero_add] at this), rfl⟩
    · have e1 : x < 65536 := by omega
      have e2 : ¬ x < 256 := by omega
      have e3 : x / 256 < (Lib.len8tab.size : Int) := by omega
      have e4 : 0 ≤ x / 256 := by omega
      go_enter Tryz.func177, Tryz.ntmps177
      go_wp2
      go_ret
      exact ⟨ret_i' (len_fin 8 (x / 256).toNat x.toNat _ (by omega) (by omega) (tab_at (x / 256) e4 e3 (by omega)) (by omega) (by
        rw [Lib.bitLen_shift8 x.toNat (by omega) (by omega), show x.toNat / 256 = (x / 256).toNat by omega]; omega)), rfl⟩
  · rcases Nat.lt_or_ge x.toNat 16777216 with k2 | k2
    · have e1 : ¬ x < 65536 := by omega
      have e2 : x / 65536 < 256 := by omega
      have e3 : x / 65536 < (Lib.len8tab.size : Int) := by omega
      have e4 : 0 ≤ x / 65536 := by omega
      go_enter Tryz.func177, Tryz.ntmps177
      go_wp2
      go_ret
      exact ⟨ret_i' (len_fin 16 (x / 65536).toNat x.toNat _ (by omega) (by omega) (tab_at (x / 65536) e4 e3 (by omega)) (by omega) (by
        rw [Lib.bitLen_shift16 x.toNat (by omega) (by omega), show x.toNat / 65536 = (x / 65536).toNat by omega]; omega)), rfl⟩
    · have e1 : ¬ x < 65536 := by omega
      have e2 : ¬ x / 65536 < 256 := by omega
      have e3 : x / 65536 / 256 < (Lib.len8tab.size : Int) := by omega
      have e4 : 0 ≤ x / 65536 / 256 := by omega
      go_enter Tryz.func177, Tryz.ntmps177
      go_wp2
      go_ret
      exact ⟨ret_i' (len_fin 24 (x / 65536 / 256).toNat x.toNat _ (by omega) (by omega) (tab_at (x / 65536 / 256) e4 e3 (by omega)) (by omega) (by
        rw [Lib.bitLen_shift24 x.toNat (by omega) (by omega), show x.toNat / 16777216 = (x / 65536 / 256).toNat by omega]; omega)), rfl⟩

/-- How many zero bits stand ahead of a 32-bit number. -/
def lz (x : Nat) : Nat := 32 - Lib.bitLen x
theorem lz_facts {x : Nat} (h0 : 0 < x) (h1 : x < 4294967296) : lz x ≤ 31 ∧ 2147483648 ≤ x * 2 ^ lz x ∧ x * 2 ^ lz x < 4294967296 := by
  obtain ⟨a, b, c⟩ := Lib.bitLenAux_bounds 64 x (by omega) (by omega)
  have d : Lib.bitLen x ≤ 32 := Lib.bitLen_le x 32 (by omega) (by omega)
  have e : Lib.bitLen x = Lib.bitLenAux 64 x := rfl
  unfold lz
  rw [← e] at a b c
  generalize Lib.bitLen x = L at *
  refine ⟨by omega, ?_, ?_⟩
  · have := Nat.mul_le_mul_right (2 ^ (32 - L)) b
    rw [← Nat.pow_add, show L - 1 + (32 - L) = 31 by omega] at this
    omega
  · have := Nat.mul_lt_mul_of_pos_right c (Nat.two_pow_pos (32 - L))
    rw [← Nat.pow_add, show L + (32 - L) = 32 by omega] at this
    omega
set_option maxHeartbeats 400000 in
/-- bits.LeadingZeros32. -/
theorem lz_any (x : Nat) (w : World) (h0 : 0 < x) (h1 : x < 4294967296) :
    Calls Tryz.prog 213 #[.int .u32 x] w fun e w' => e = .returned (.int .i64 (lz x : Nat)) ∧ w = w' := by
  have d : Lib.bitLen x ≤ 32 := Lib.bitLen_le x 32 (by omega) (by omega)
  go_enter Tryz.func213, Tryz.ntmps213
  go_wp2_with fail
  refine (len32_any (x : Int) _ (by omega) (by omega)).mono ?_
  rw [Int.toNat_natCast]
  rintro e w' ⟨rfl, rfl⟩
  go_wp2
  go_ret
  exact ⟨ret_i' (by unfold lz; omega), rfl⟩
end Go.Proofs.YtehekjlakegkpaaGreat
end
