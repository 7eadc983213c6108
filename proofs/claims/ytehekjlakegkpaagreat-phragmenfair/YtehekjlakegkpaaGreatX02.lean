/-
  Words for memory: a slice of integers of any kind that reads as a list (Rk), a row of the call's own that may grow (Owk), a block known whole (Bkk); what append and copy do to them; a slice of bytes turned into a string and back. No conditions but those that each theorem names.
-/
import Derived.WalkKit
import Derived.WalkSpells
import Derived.WalkLawsBesides
import Derived.Deep.QuietTactic
import Derived.BigQuiet
import Derived.Lib.Hide
import Derived.Laws.Rows
import Derived.Laws.BytesArg
import Derived.Laws.CopyOwn
import Derived.Lib.ConvBytes
import Derived.OwnWalk
import Derived.ArgAppend
import Derived.OpenShut
import Derived.Deep.DeepAppendWide
import Derived.Test.YtehekjlakegkpaaGreatX01
section
namespace Go.Proofs.YtehekjlakegkpaaGreat
open Go.RowKit

/-- The slice '.slice A n c' of integers of kind k reads as xs. -/
def Rk (k : IntKind) (w : World) (A : Option Addr) (n c : Nat) (xs : List Nat) : Prop :=
  xs.length = n ∧ n ≤ c ∧ c ≤ 9223372036854775807 ∧ (0 < n → ∃ b o, A = some ⟨b, o, none⟩ ∧ b < w.heap.size ∧ ∀ j, j < n → w.cell? ⟨b, o + j, none⟩ = some (.int k (el xs j)))

section
variable {k : IntKind} {w w' : World} {A : Option Addr} {n c : Nat} {xs : List Nat}
theorem Rk.len (h : Rk k w A n c xs) : xs.length = n := h.1
theorem Rk.cap (h : Rk k w A n c xs) : n ≤ c := h.2.1
theorem Rk.max (h : Rk k w A n c xs) : c ≤ 9223372036854775807 := h.2.2.1
theorem Rk.at_ (h : Rk k w A n c xs) (hn : 0 < n) : ∃ b o, A = some ⟨b, o, none⟩ ∧ b < w.heap.size ∧ ∀ j, j < n → w.cell? ⟨b, o + j, none⟩ = some (.int k (el xs j)) := h.2.2.2 hn
theorem Rk.keep (h : Rk k w A n c xs) (hs : w.heap.size ≤ w'.heap.size) (hk : ∀ p : Addr, p.block < w.heap.size → w'.cell? p = w.cell? p) : Rk k w' A n c xs :=
  ⟨h.1, h.2.1, h.2.2.1, fun hn => by
    obtain ⟨b, o, e, hb, hc⟩ := h.at_ hn
    exact ⟨b, o, e, Nat.lt_of_lt_of_le hb hs, fun j hj => (hk ⟨b, o + j, none⟩ hb).trans (hc j hj)⟩⟩
theorem Rk.below (h : Rk k w A n c xs) (hb : Below w.heap.size w w') : Rk k w' A n c xs := h.keep hb.size fun _ hp => hb.cell hp
theorem Rk.drewN (h : Rk k w A n c xs) (q : Nat) : Rk k (w.drewN q) A n c xs := h
theorem Rk.alloc (h : Rk k w A n c xs) (o : Obj) : Rk k (w.alloc o) A n c xs := h.keep (by simp) fun p hp => World.cell?_alloc_lt w o p hp
theorem Rk.take (h : Rk k w A n c xs) {i : Nat} (hi : i ≤ n) : Rk k w A i c (xs.take i) := by
  refine ⟨by rw [List.length_take, h.len]; omega, by have := h.cap; omega, h.max, fun hn => ?_⟩
  obtain ⟨b, o, e, hb, hc⟩ := h.at_ (by omega)
  exact ⟨b, o, e, hb, fun j hj => by rw [el_take _ _ _ hj]; exact hc j (by omega)⟩
/-- A slice of it from place i on, whatever address it has where nothing is left. -/
theorem Rk.drop {b o : Nat} (h : Rk k w (some ⟨b, o, none⟩) n c xs) {i : Nat} (hi : i ≤ n) {A' : Option Addr} (hA : i < n → A' = some ⟨b, o + i, none⟩) : Rk k w A' (n - i) (c - i) (xs.drop i) := by
  have hc := h.cap
  have hm := h.max
  refine ⟨by rw [List.length_drop, h.len], by omega, by omega, fun hn => ?_⟩
  obtain ⟨b', o', e, hb, hcc⟩ := h.at_ (by omega)
  injection e with e
  injection e with e1 e2 e3
  subst e1 e2
  exact ⟨b, o + i, hA (by omega), hb, fun j hj => by rw [el_drop, Nat.add_assoc]; exact hcc (i + j) (by omega)⟩
theorem Rk.nil (k : IntKind) (w : World) : Rk k w none 0 0 [] := ⟨rfl, Nat.le_refl _, by omega, fun h => by omega⟩
theorem Rk.none_len (h : Rk k w none n c xs) : n = 0 := by
  rcases Nat.eq_zero_or_pos n with h0 | h0
  · exact h0
  · obtain ⟨b, o, e, _⟩ := h.at_ h0
    cases e
end

/-- Cells of integers. -/
def litsK (k : IntKind) (xs : List Nat) : List Value := xs.map fun (x : Nat) => Value.int k (x : Int)
theorem litsK_len (k : IntKind) (xs : List Nat) : (litsK k xs).length = xs.length := by simp [litsK]
theorem litsK_at (k : IntKind) (xs : List Nat) (j : Nat) (u : Value) (h : (litsK k xs)[j]? = some u) : j < xs.length ∧ u = .int k (el xs j) := by
  have hj : j < xs.length := by
    rcases Nat.lt_or_ge j xs.length with hj | hj
    · exact hj
    · rw [List.getElem?_eq_none (by rw [litsK_len]; exact hj)] at h; cases h
  refine ⟨hj, ?_⟩
  rw [el_get xs j hj]
  simp [litsK, hj] at h
  exact h.symm
theorem litsK_get (k : IntKind) (xs : List Nat) (j : Nat) (h : j < xs.length) : (litsK k xs)[j]? = some (.int k (el xs j)) := by
  rw [el_get xs j h]; simp [litsK, h]
theorem litsK_one (k : IntKind) (xs : List Nat) : ∀ u ∈ litsK k xs, u.oneCell' = true := by
  intro u hu
  simp only [litsK, List.mem_map] at hu
  obtain ⟨x, _, rfl⟩ := hu
  rfl
theorem litsK_append (k : IntKind) (xs ys : List Nat) : litsK k xs ++ litsK k ys = litsK k (xs ++ ys) := by simp [litsK]
theorem Rk.cells {k : IntKind} {w : World} {a : Addr} {n c : Nat} {xs : List Nat} (h : Rk k w (some a) n c xs) : ∀ j u, (litsK k xs)[j]? = some u → w.cell? (a.add j) = some u := by
  intro j u hu
  obtain ⟨hj, rfl⟩ := litsK_at k xs j u hu
  rw [h.len] at hj
  obtain ⟨b, o, e, _, hc⟩ := h.at_ (by omega)
  injection e with e
  subst e
  have := hc j hj
  unfold Addr.add
  by_cases h0 : j = 0
  · subst h0; simpa using this
  · simpa [h0] using this

/-- The slice is a row of the call's own, from block base on, and holds xs. -/
def Owk (k : IntKind) (T : TypeId) (w : World) (base : Nat) (A : Option Addr) (n c : Nat) (xs : List Nat) : Prop := w.ownsRow base T 1 (.slice A n c) n (litsK k xs)
section
variable {k : IntKind} {T : TypeId} {w w' : World} {base n c : Nat} {A : Option Addr} {xs : List Nat}
theorem Owk.len (h : Owk k T w base A n c xs) : xs.length = n := by have := h.1; rw [litsK_len] at this; omega
theorem Owk.nil (k : IntKind) (T : TypeId) (w : World) (base : Nat) : Owk k T w base none 0 0 [] := World.ownsRow_nil _ _ _ _
theorem Owk.rk (h : Owk k T w base A n c xs) : Rk k w A n c xs := by
  have hl := h.len
  rcases h.2 with ⟨hv, hn⟩ | ⟨g, cap, cur, hv, hb, hg, hnc, hcm, _, _⟩
  · injection hv with h1 h2 h3
    subst h1 h2 h3
    obtain rfl := List.eq_nil_of_length_eq_zero hl
    exact Rk.nil _ _
  · injection hv with h1 h2 h3
    subst h1 h3
    have hlt : g < w.heap.size := by
      rcases Nat.lt_or_ge g w.heap.size with hlt | hge
      · exact hlt
      · rw [Array.getElem?_eq_none hge] at hg; cases hg
    refine ⟨hl, hnc, by unfold maxLen at hcm; exact hcm, fun _ => ⟨g, 0, rfl, hlt, fun j hj => ?_⟩⟩
    rw [Nat.zero_add]
    exact (h.cellAt j (by omega)).trans (litsK_get k xs j (by omega))
theorem Owk.alloc (h : Owk k T w base A n c xs) (o : Obj) : Owk k T (w.alloc o) base A n c xs := World.ownsRow.alloc h o
theorem Owk.drewN (h : Owk k T w base A n c xs) (q : Nat) : Owk k T (w.drewN q) base A n c xs := h
theorem Owk.below (h : Owk k T w base A n c xs) (hb : Below w.heap.size w w') : Owk k T w' base A n c xs := by
  refine ⟨h.1, ?_⟩
  rcases h.2 with h0 | ⟨g, cap, cur, hv, hbg, hg, hr⟩
  · exact .inl h0
  · have hlt : g < w.heap.size := by
      rcases Nat.lt_or_ge g w.heap.size with hlt | hge
      · exact hlt
      · rw [Array.getElem?_eq_none hge] at hg; cases hg
    exact .inr ⟨g, cap, cur, hv, hbg, (hb.block g hlt).trans hg, hr⟩
end

theorem Owk.addr {k : IntKind} {T : TypeId} {w : World} {base n c : Nat} {A : Option Addr} {xs : List Nat} (h : Owk k T w base A n c xs) (hn : 0 < n) :
    ∃ g, A = some ⟨g, 0, none⟩ ∧ base ≤ g ∧ g < w.heap.size ∧ (∀ j, j < n → w.cell? ⟨g, j, none⟩ = some (.int k (el xs j))) ∧ ∀ j, w.frozen? ⟨g, j, none⟩ = false := by
  have hl := h.len
  rcases h.2 with ⟨hv, h0⟩ | ⟨g, cap, cur, hv, hb, hg, hnc, hcm, _, _⟩
  · omega
  · injection hv with h1 h2 h3
    subst h1 h3
    have hlt : g < w.heap.size := by
      rcases Nat.lt_or_ge g w.heap.size with hlt | hge
      · exact hlt
      · rw [Array.getElem?_eq_none hge] at hg; cases hg
    exact ⟨g, rfl, hb, hlt, fun j hj => (h.cellAt j (by omega)).trans (litsK_get k xs j (by omega)), fun j => h.frozenAt j⟩
/-- An integer is stored at place j. -/
theorem Owk.store {k : IntKind} {T : TypeId} {w : World} {base n c g : Nat} {xs : List Nat} (h : Owk k T w base (some ⟨g, 0, none⟩) n c xs) (j x : Nat) :
    Owk k T (w.setCell ⟨g, j, none⟩ (.int k (x : Int))) base (some ⟨g, 0, none⟩) n c (xs.set j x) := by
  have hl := h.len
  rcases h.2 with ⟨hv, h0⟩ | ⟨g', cap, cur, hv, hb, hg, hnc, hcm, hcs, ht⟩
  · cases hv
  · injection hv with h1 h2 h3
    injection h1 with h1
    injection h1 with h1
    subst h1 h3
    refine ⟨by rw [litsK_len, List.length_set]; omega, .inr ⟨g, c, cur.setIfInBounds j (.int k (x : Int)), rfl, hb, ?_, hnc, hcm, by simpa using hcs, ?_⟩⟩
    · simp [World.setCell, Array.getElem?_modify, hg]
    · rw [Array.toList_setIfInBounds, List.take_set, ht]
      simp [litsK, List.map_set]
section
variable {P : Program} (w : World)
/-- append of a slice behind a row of the call's own. -/
theorem run_appk (k : IntKind) (T : TypeId) (by_ base : Nat) (t ty : TypeId) (ht : P.underlying t = some (.slice T)) (hinfo : (P.info? T).map (fun i => (i.zero, i.size, i.bytes)) = some (some (.int k 0), 1, by_))
    (A B : Option Addr) (n c m d : Nat) (xs ys : List Nat) (hown : Owk k T w base A n c xs) (hr : Rk k w B m d ys) (h63 : n + m ≤ maxLen) (hs : ((n + m) + (n + m) / 4 + 192) * by_ ≤ 281474976710656) (hbase : base ≤ w.heap.size) :
    ∃ A' c' w', (Builtin.append_ #[t, t] ty #[.slice A n c, .slice B m d]).run P w = .ok (.slice A' (n + m) c') w' ∧ Owk k T w' base A' (n + m) c' (xs ++ ys) ∧ Below base w w' := by
  obtain ⟨i0, hi, hz0, hz1, hz2⟩ := info_parts hinfo
  rcases B with _ | ad
  · have hm := hr.none_len
    subst hm
    obtain rfl := List.eq_nil_of_length_eq_zero hr.len
    refine ⟨A, c, w, ?_, by simpa using hown, Below.refl _ _⟩
    rcases hown.2 with ⟨hv, rfl⟩ | ⟨g, cap, cur, hv, _, _, hnc, _⟩
    · injection hv with h1 h2 h3
      subst h1 h3
      simp [Builtin.append_, run_underlying ht, sizeOf, typeInfo, hi, Builtin.lenOf, Builtin.firstCells]
    · injection hv with h1 h2 h3
      subst h1 h3
      simp [Builtin.append_, run_underlying ht, sizeOf, typeInfo, hi, Builtin.lenOf, Builtin.firstCells, hnc, storeCells]
  · obtain ⟨v', w', hrun, h2, h3, _⟩ := run_append_own_wide (P := P) w base t ty T i0 (.int k 0) 1 by_ ht hi hz0 hz1 hz2 rfl (by decide) (.slice A n c) n (litsK k xs) hown ad m d (litsK k ys)
      (by rw [litsK_len, hr.len]; omega) hr.cells (litsK_one k ys) h63 hs hbase
    rw [litsK_append] at h2
    have hbel : Below base w w' := (Below.refl base w).grown h3 hbase fun g hg => (hown.lt g hg).1
    rcases h2.2 with ⟨rfl, hn⟩ | ⟨g, cap, cur, rfl, _⟩
    · have hn' : n + m = 0 := hn
      exact ⟨none, 0, w', by rw [hn']; exact hrun, by rw [hn'] at h2 ⊢; exact h2, hbel⟩
    · exact ⟨_, _, w', hrun, h2, hbel⟩
theorem wpList_appk (k : IntKind) (T : TypeId) (by_ : Nat) {ops : Array Oper} {rest : List Oper} {o : Oper} {a : Act} {Q : Exit → Act → World → Prop} (hgd : o.guard = none) (s x : Operand) (t : TypeId)
    (ho : o.op = .call { callee := .builtin .append, args := #[s, x], argTypes := #[t, t] })
    (base : Nat) (ht : P.underlying t = some (.slice T)) (hinfo : (P.info? T).map (fun i => (i.zero, i.size, i.bytes)) = some (some (.int k 0), 1, by_))
    (A B : Option Addr) (n c m d : Nat) (xs ys : List Nat) (hs : a.eval s = .slice A n c) (hx : a.eval x = .slice B m d) (hown : Owk k T w base A n c xs) (hr : Rk k w B m d ys)
    (h63 : n + m ≤ maxLen) (hsz : ((n + m) + (n + m) / 4 + 192) * by_ ≤ 281474976710656) (hbase : base ≤ w.heap.size)
    (h : ∀ A' c' w', Owk k T w' base A' (n + m) c' (xs ++ ys) → Below base w w' → wpList P ops Q rest (a.put o.dst (.slice A' (n + m) c')) w') : wpList P ops Q (o :: rest) a w := by
  refine wpList_plain hgd fun K hK => ?_
  obtain ⟨A', c', w', hrun, h2, h3⟩ := run_appk (P := P) w k T by_ base t o.type ht hinfo A B n c m d xs ys hown hr h63 hsz hbase
  unfold Oper.wp execOp
  simp only [ho, resolve, invoke, builtin, Sem.run_bind, Sem.run_pure, Result.andThen_ok, List.map_toArray, List.map_cons, List.map_nil, hs, hx, hrun]
  exact hK _ _ (h A' c' w' h2 h3)
end

/-- Block g is just the integers xs, and may be written. -/
def Bkk (k : IntKind) (T : TypeId) (w : World) (g : Nat) (xs : List Nat) : Prop := w.heap[g]? = some (.cells (litsK k xs).toArray T (0, 0))
section
variable {k : IntKind} {T : TypeId} {w w' : World} {g : Nat} {xs : List Nat}
theorem Bkk.lt (h : Bkk k T w g xs) : g < w.heap.size := by
  rcases Nat.lt_or_ge g w.heap.size with hlt | hge
  · exact hlt
  · unfold Bkk at h; rw [Array.getElem?_eq_none hge] at h; cases h
theorem Bkk.cell (h : Bkk k T w g xs) {i : Nat} (hi : i < xs.length) : w.cell? ⟨g, i, none⟩ = some (.int k (el xs i)) :=
  (cell_of_row w g i _ T (0, 0) h).trans (by rw [List.getElem?_toArray]; exact litsK_get k xs i hi)
theorem Bkk.frozen (h : Bkk k T w g xs) (i : Nat) : w.frozen? ⟨g, i, none⟩ = false := by
  unfold Bkk at h
  simp [World.frozen?, h]
theorem Bkk.new (k : IntKind) (T : TypeId) (w : World) (xs : List Nat) : Bkk k T (w.alloc (.cells (litsK k xs).toArray T)) w.heap.size xs := heap_alloc_new w _
theorem Bkk.set_ (h : Bkk k T w g xs) (i x : Nat) : Bkk k T (w.setCell ⟨g, i, none⟩ (.int k (x : Int))) g (xs.set i x) := by
  unfold Bkk at h ⊢
  simp [World.setCell, Array.getElem?_modify, h, litsK, List.map_set]
theorem Bkk.rk (h : Bkk k T w g xs) {n : Nat} (hn : xs.length = n) (hm : n ≤ 9223372036854775807) : Rk k w (some ⟨g, 0, none⟩) n n xs :=
  ⟨hn, Nat.le_refl _, hm, fun _ => ⟨g, 0, rfl, h.lt, fun j hj => by rw [Nat.zero_add]; exact h.cell (by omega)⟩⟩
/-- The beginning of the block, as a row that may grow. -/
theorem Bkk.own (h : Bkk k T w g xs) {n c : Nat} (hn : xs.length = c) (hm : c ≤ 9223372036854775807) (hnc : n ≤ c) {base : Nat} (hb : base ≤ g) : Owk k T w base (some ⟨g, 0, none⟩) n c (xs.take n) :=
  ⟨by rw [litsK_len, List.length_take]; omega, .inr ⟨g, c, _, rfl, hb, h, hnc, by unfold maxLen; exact hm, by simp [litsK_len, hn], by simp [litsK, List.map_take]⟩⟩
end
/-- One integer that was just laid in a block of its own. -/
theorem rk_one (k : IntKind) (T : TypeId) (w : World) (v : Int) (N : Nat) (h : v = N) : Rk k (w.alloc (.cells #[.int k v] T)) (some ⟨w.heap.size, 0, none⟩) 1 1 [N] := by
  subst h
  exact (Bkk.new k T w [N]).rk rfl (by omega)
theorem own_one (k : IntKind) (T : TypeId) (w : World) (v : Int) (N : Nat) (h : v = N) : Owk k T (w.alloc (.cells #[.int k v] T)) w.heap.size (some ⟨w.heap.size, 0, none⟩) 1 1 [N] := by
  subst h
  exact (Bkk.new k T w [N]).own (n := 1) (c := 1) rfl (by omega) (by omega) (Nat.le_refl _)

/-- copy of a whole slice over the beginning of a block. -/
theorem wpList_copyk {P : Program} (k : IntKind) (T : TypeId) (by_ : Nat) {w : World} {ops : Array Oper} {rest : List Oper} {o : Oper} {a : Act} {Q : Exit → Act → World → Prop} (hgd : o.guard = none) (d s : Operand) (dT sT : TypeId)
    (ho : o.op = .call { callee := .builtin .copy, args := #[d, s], argTypes := #[dT, sT] }) (hu : P.underlying dT = some (.slice T))
    (hinfo : (P.info? T).map (fun i => (i.zero, i.size, i.bytes)) = some (some (.int k 0), 1, by_))
    (B : Option Addr) (g n c dCap : Nat) (xs zs : List Nat) (hd : a.eval d = .slice (some ⟨g, 0, none⟩) n dCap) (hs : a.eval s = .slice B n c)
    (hB : Bkk k T w g zs) (hl : n ≤ zs.length) (hr : Rk k w B n c xs) (L : Nat) (w0 : World) (hb : Below L w0 w) (hLg : L ≤ g)
    (h : ∀ w', Bkk k T w' g (xs ++ zs.drop n) → Below L w0 w' → wpList P ops Q rest (a.put o.dst (goInt n)) w') : wpList P ops Q (o :: rest) a w := by
  obtain ⟨i0, hi, hz0, hz1, hz2⟩ := info_parts hinfo
  have hlen : (litsK k xs).length = n := by rw [litsK_len, hr.len]
  refine wpList_copy_splice hgd d s dT sT ho T hu (by rw [hi]; simp [hz1]) _ B n dCap n c hd hs g 0 (litsK k zs) T hB (litsK k xs) (by rw [hlen]; simp) (fun hp => ⟨rfl, ?_⟩)
    (by rw [hlen, litsK_len]; omega) (litsK_one k xs) L w0 hb hLg fun w' hw' hbel => ?_
  · rw [hlen] at hp
    obtain ⟨b, off, e, _⟩ := hr.at_ hp
    subst e
    exact ⟨_, rfl, hr.cells⟩
  · rw [hlen]
    refine h w' ?_ hbel
    have h1 := hw'.out
    unfold Bkk
    rw [h1]
    congr 2
    unfold splice
    rw [hlen]
    simp [litsK]
/-- 'make' of cells of one kind, a length and a room. -/
theorem run_make_rowK {P : Program} (t e : TypeId) (i : TypeInfo) (z : Value) (ht : P.underlying t = some (.slice e)) (hi : P.info? e = some i) (hz : i.zero = some z)
    (kl kc : IntKind) (n c : Nat) (hnc : n ≤ c) (hbytes : i.bytes * c ≤ 281474976710656) (h63 : c ≤ 9223372036854775807) (w : World) :
    (Instr.makeSlice t (.int kl (n : Int)) (.int kc (c : Int))).run P w = .ok (.slice (some ⟨w.heap.size, 0, none⟩) n c) (w.alloc (.cells (madeCells z.cells (c * i.size)) e)) := by
  have hb : (i.bytes : Int) * (c : Int) ≤ 281474976710656 := by
    have h : ((i.bytes * c : Nat) : Int) ≤ 281474976710656 := by omega
    rwa [Int.natCast_mul] at h
  have hr := run_make (P := P) w t e i z ht hi hz kl kc n c (by omega) (by omega) hb (by omega)
  simp only [Int.toNat_natCast] at hr
  exact hr
theorem litsK_made (k : IntKind) (n : Nat) : madeCells (Value.int k 0).cells n = (litsK k (zeros n)).toArray := by
  apply Array.ext'
  show (madeCells #[.int k 0] n).toList = _
  rw [toList_madeCells_one]; simp [litsK, zeros]

/-- The string of bytes. -/
def sb (bs : List Nat) : ByteArray := strOfNums (bs.map fun (x : Nat) => (x : Int))
theorem sb_size (bs : List Nat) : (sb bs).size = bs.length := by rw [sb, strOfNums_size, List.length_map]
theorem sb_append (xs ys : List Nat) : sb xs ++ sb ys = sb (xs ++ ys) := by
  apply ByteArray.ext
  simp [sb, strOfNums]
theorem sb_inj {xs ys : List Nat} (hx : Bl 256 xs) (hy : Bl 256 ys) (h : sb xs = sb ys) : xs = ys := by
  have hd : (sb xs).data.toList = (sb ys).data.toList := by rw [h]
  unfold sb at hd
  rw [strOfNums_data, strOfNums_data, List.map_map, List.map_map] at hd
  have hl : xs.length = ys.length := by
    have := congrArg List.length hd
    simpa using this
  refine ext_el hl fun j hj => ?_
  have h1 := congrArg (fun l => l[j]?) hd
  simp only [List.getElem?_map, List.getElem?_eq_getElem hj, List.getElem?_eq_getElem (show j < ys.length by omega), Option.map_some, Function.comp] at h1
  have h2 := congrArg UInt8.toNat (Option.some.inj h1)
  rw [Int.toNat_natCast, Int.toNat_natCast, UInt8.toNat_ofNat', UInt8.toNat_ofNat'] at h2
  have e1 := Bl_el hx (by omega) j
  have e2 := Bl_el hy (by omega) j
  rw [el_get xs j hj] at e1 ⊢
  rw [el_get ys j (by omega)] at e2 ⊢
  omega
theorem sb_eq_iff {xs ys : List Nat} (hx : Bl 256 xs) (hy : Bl 256 ys) : sb xs = sb ys ↔ xs = ys := ⟨sb_inj hx hy, fun h => by rw [h]⟩
theorem sb_beq {xs ys : List Nat} (hx : Bl 256 xs) (hy : Bl 256 ys) : ((sb xs).toList == (sb ys).toList) = decide (xs = ys) := by
  rw [Bool.eq_iff_iff, beq_iff_eq, decide_eq_true_iff, ByteArray.toList_eq, ByteArray.toList_eq]
  constructor
  · intro e
    exact sb_inj hx hy (ByteArray.ext (Array.toList_inj.1 e))
  · intro e; rw [e]
/-- A slice of bytes as a string. -/
theorem run_str {P : Program} (w : World) (src dst e : TypeId) (hs : P.underlying src = some (.slice e)) (he : P.underlying e = some (.int .u8)) (hd : P.underlying dst = some .string) {A : Option Addr} {n c : Nat} {bs : List Nat} (h : Rk .u8 w A n c bs) :
    (convert src dst (.slice A n c)).run P w = .ok (.string (sb bs)) w := by
  rcases Nat.eq_zero_or_pos n with h0 | h0
  · subst h0
    obtain rfl := List.eq_nil_of_length_eq_zero h.len
    have e0 : sb [] = ByteArray.empty := rfl
    rw [run_convert_bytes_string w src dst e _ 0 c hs he hd, e0]
    cases A <;> simp [Conv.bytesToString, loadCells, loadCellsFrom]
  · obtain ⟨b, o, rfl, _, hc⟩ := h.at_ h0
    refine run_convert_bytes_arg (P := P) w src e hs he b o n c (bs.map fun (x : Nat) => (x : Int)) (by rw [List.length_map, h.len]) (fun i hi => ?_) dst hd
    rw [hc i hi, el_get bs i (by rw [h.len]; exact hi)]
    simp [List.getD, List.getElem?_eq_getElem (show i < bs.length by rw [h.len]; exact hi)]
/-- Bytes out of a string lie in a new row. -/
theorem conv_rk (w : World) (e : TypeId) {bs : List Nat} (hb : Bl 256 bs) {c : Nat} (hc : bs.length ≤ c) (hm : c ≤ 9223372036854775807) : Rk .u8 (Lib.bytesWorld w e (sb bs)) (some ⟨w.heap.size, 0, none⟩) bs.length c bs := by
  refine ⟨rfl, hc, hm, fun _ => ⟨w.heap.size, 0, rfl, by rw [Lib.bytesWorld_size]; omega, fun j hj => ?_⟩⟩
  rw [Nat.zero_add, Lib.bytesWorld_cell w e (sb bs) j (by rw [sb_size]; exact hj)]
  have h1 : ((sb bs).data.toList.getD j 0).toNat = el bs j := by
    have := Bl_el hb (by omega) j
    rw [el_get bs j hj] at this ⊢
    unfold sb
    rw [strOfNums_data, List.map_map]
    simp [List.getD, List.getElem?_eq_getElem hj, Function.comp]
    omega
  rw [h1]
theorem conv_below (w : World) (e : TypeId) (s : ByteArray) : Below w.heap.size w (Lib.bytesWorld w e s) := by
  refine ⟨rfl, rfl, rfl, by rw [Lib.bytesWorld_size]; omega, fun g hg => Lib.bytesWorld_at_old w e s g hg⟩
end Go.Proofs.YtehekjlakegkpaaGreat
end
