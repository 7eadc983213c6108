/-
  append of one slice of limbs behind a row of the call's own, whatever its source (nil, empty or not): what is owned then, and that it reads as both lists. For at most a million limbs together.
-/
import Derived.Test.YtcpeofgfppgooaaMem
import Derived.Maps.AppendAt
import Derived.OwnWalk
import Derived.Laws.CopyOwn
namespace Go.Proofs.Ytcpeofgfppgooaa
open Go.RowKit

def lits32 (xs : List Nat) : List Value := xs.map fun (x : Nat) => Value.int .u32 (x : Int)
/-- The slice is a row of the call's own, from block base on, and holds xs. -/
def Ow (w : World) (base : Nat) (A : Option Addr) (n c : Nat) (xs : List Nat) : Prop := w.ownsRow base 50 1 (.slice A n c) n (lits32 xs) ∧ Lim xs
theorem lits32_len (xs : List Nat) : (lits32 xs).length = xs.length := by simp [lits32]
theorem lits32_at (xs : List Nat) (j : Nat) (u : Value) (h : (lits32 xs)[j]? = some u) : j < xs.length ∧ u = .int .u32 (el xs j) := by
  have hj : j < xs.length := by
    rcases Nat.lt_or_ge j xs.length with hj | hj
    · exact hj
    · rw [List.getElem?_eq_none (by rw [lits32_len]; exact hj)] at h; cases h
  refine ⟨hj, ?_⟩
  rw [el_get xs j hj]
  simp [lits32, hj] at h
  exact h.symm
theorem lits32_get (xs : List Nat) (j : Nat) (h : j < xs.length) : (lits32 xs)[j]? = some (.int .u32 (el xs j)) := by
  rw [el_get xs j h]; simp [lits32, h]
theorem lits32_one (xs : List Nat) : ∀ u ∈ lits32 xs, u.oneCell' = true := by
  intro u hu
  simp only [lits32, List.mem_map] at hu
  obtain ⟨x, _, rfl⟩ := hu
  rfl

section
variable {w w' : World} {base n c : Nat} {A : Option Addr} {xs : List Nat}
theorem Ow.len (h : Ow w base A n c xs) : xs.length = n := by have := h.1.1; rw [lits32_len] at this; omega
theorem Ow.nil (w : World) (base : Nat) : Ow w base none 0 0 [] := ⟨World.ownsRow_nil _ _ _ _, Lim_nil⟩
/-- An empty row that was just made. -/
theorem Ow.empty (w : World) : Ow (w.alloc (.cells #[] 50)) w.heap.size (some ⟨w.heap.size, 0, none⟩) 0 0 [] :=
  ⟨World.ownsRow_lit w #[] 0 (Nat.le_refl _) (by unfold maxLen; omega) rfl, Lim_nil⟩
theorem Ow.nw (h : Ow w base A n c xs) : Nw w base A n c xs := by
  have hl := h.len
  rcases h.1.2 with ⟨hv, hn⟩ | ⟨g, cap, cur, hv, hb, hg, hnc, hcm, _, _⟩
  · injection hv with h1 h2 h3
    subst h1 h2 h3
    obtain rfl := List.eq_nil_of_length_eq_zero hl
    exact Nw.nil _ _
  · injection hv with h1 h2 h3
    subst h1 h3
    have hlt : g < w.heap.size := by
      rcases Nat.lt_or_ge g w.heap.size with hlt | hge
      · exact hlt
      · rw [Array.getElem?_eq_none hge] at hg; cases hg
    refine ⟨⟨hl, hnc, by unfold maxLen at hcm; exact hcm, h.2, fun _ => ⟨g, 0, rfl, hlt, fun j hj => ?_⟩⟩, fun _ => ⟨g, 0, rfl, hb, hlt, fun j _ => ?_⟩⟩
    · rw [Nat.zero_add]
      exact (h.1.cellAt j (by omega)).trans (lits32_get xs j (by omega))
    · rw [Nat.zero_add]; exact h.1.frozenAt j
end

theorem Ow.alloc {w : World} {base n c : Nat} {A : Option Addr} {xs : List Nat} (h : Ow w base A n c xs) (o : Obj) : Ow (w.alloc o) base A n c xs := ⟨h.1.alloc o, h.2⟩
theorem Ow.lt {w : World} {base n c : Nat} {A : Option Addr} {xs : List Nat} (h : Ow w base A n c xs) : ∀ g, (Value.slice A n c).ownBlock = some g → base ≤ g := fun g hg => (h.1.lt g hg).1
/-- One limb that was just laid in a block of its own. -/
theorem rd_one (w : World) (v : Int) (N : Nat) (h : v = N) (hN : N < 4294967296) : Rd (w.alloc (.cells #[.int .u32 v] 50)) (some ⟨w.heap.size, 0, none⟩) 1 1 [N] := by
  subst h
  have hB : Blk (w.alloc (.cells #[.int .u32 (N : Int)] 50)) w.heap.size [N] := Blk.new w [N]
  exact (hB.nw (n := 1) (Lim_cons hN Lim_nil) rfl (by omega) (Nat.le_refl _)).1

section
variable {P : Program} (w : World)
theorem run_app (base : Nat) (t ty : TypeId) (ht : P.underlying t = some (.slice 50)) (hinfo : (P.info? 50).map (fun i => (i.zero, i.size, i.bytes)) = some (some (.int .u32 0), 1, 4))
    (A B : Option Addr) (n c m d : Nat) (xs ys : List Nat) (hown : Ow w base A n c xs) (hr : Rd w B m d ys) (hs : n + m ≤ 1000000) (hbase : base ≤ w.heap.size) :
    ∃ A' c' w', (Builtin.append_ #[t, t] ty #[.slice A n c, .slice B m d]).run P w = .ok (.slice A' (n + m) c') w' ∧ Ow w' base A' (n + m) c' (xs ++ ys) ∧ w.grownBy w' (Value.ownBlock (.slice A n c)) ∧
      ((Value.slice A' (n + m) c').ownBlock = (Value.slice A n c).ownBlock ∨ (Value.slice A' (n + m) c').ownBlock = some w.heap.size) := by
  obtain ⟨i0, hi, hz0, hz1, hz2⟩ := info_parts hinfo
  have happ : lits32 xs ++ lits32 ys = lits32 (xs ++ ys) := by simp [lits32]
  rcases B with _ | ad
  · have hm : m = 0 := by
      rcases Nat.eq_zero_or_pos m with h0 | h0
      · exact h0
      · obtain ⟨b, o, h, _⟩ := hr.at_ h0
        cases h
    subst hm
    obtain rfl := List.eq_nil_of_length_eq_zero hr.len
    refine ⟨A, c, w, ?_, by simpa using hown, World.grownBy.refl w _, .inl rfl⟩
    rcases hown.1.2 with ⟨hv, rfl⟩ | ⟨g, cap, cur, hv, _, _, hnc, _⟩
    · injection hv with h1 h2 h3
      subst h1 h3
      simp [Builtin.append_, run_underlying ht, sizeOf, typeInfo, hi, Builtin.lenOf, Builtin.firstCells]
    · injection hv with h1 h2 h3
      subst h1 h3
      simp [Builtin.append_, run_underlying ht, sizeOf, typeInfo, hi, Builtin.lenOf, Builtin.firstCells, hnc, storeCells]
  · have hcells : ∀ j u, (lits32 ys)[j]? = some u → w.cell? (ad.add j) = some u := by
      intro j u hu
      obtain ⟨hj, rfl⟩ := lits32_at ys j u hu
      rw [hr.len] at hj
      obtain ⟨b, o, h, _, hc⟩ := hr.at_ (by omega)
      injection h with h
      subst h
      have := hc j hj
      unfold Addr.add
      by_cases h0 : j = 0
      · subst h0; simpa using this
      · simpa [h0] using this
    obtain ⟨v', w', hrun, h2, h3, _, h5⟩ := run_append_own_at (P := P) w base t ty 50 i0 (.int .u32 0) 1 4 ht hi hz0 hz1 hz2 rfl (by decide) (.slice A n c) n (lits32 xs) hown.1 ad m d (lits32 ys)
      (by rw [lits32_len, hr.len]; omega) hcells (lits32_one ys) (by unfold maxLen; omega) (by omega) hbase
    rw [happ] at h2
    rcases h2.2 with ⟨rfl, hn⟩ | ⟨g, cap, cur, rfl, _⟩
    · have hn' : n + m = 0 := hn
      refine ⟨none, 0, w', by rw [hn']; exact hrun, ⟨by rw [hn'] at h2 ⊢; exact h2, Lim_append hown.2 hr.lim⟩, h3, ?_⟩
      rw [hn']; exact h5
    · exact ⟨_, _, w', hrun, ⟨h2, Lim_append hown.2 hr.lim⟩, h3, h5⟩

theorem wpList_app {ops : Array Oper} {rest : List Oper} {o : Oper} {a : Act} {Q : Exit → Act → World → Prop} (hgd : o.guard = none) (s x : Operand) (t : TypeId)
    (ho : o.op = .call { callee := .builtin .append, args := #[s, x], argTypes := #[t, t] })
    (base : Nat) (ht : P.underlying t = some (.slice 50)) (hinfo : (P.info? 50).map (fun i => (i.zero, i.size, i.bytes)) = some (some (.int .u32 0), 1, 4))
    (A B : Option Addr) (n c m d : Nat) (xs ys : List Nat) (hs : a.eval s = .slice A n c) (hx : a.eval x = .slice B m d) (hown : Ow w base A n c xs) (hr : Rd w B m d ys) (hsz : n + m ≤ 1000000) (hbase : base ≤ w.heap.size)
    (h : ∀ A' c' w', Ow w' base A' (n + m) c' (xs ++ ys) → w.grownBy w' (Value.ownBlock (.slice A n c)) → wpList P ops Q rest (a.put o.dst (.slice A' (n + m) c')) w') : wpList P ops Q (o :: rest) a w := by
  refine wpList_plain hgd fun K hK => ?_
  obtain ⟨A', c', w', hrun, h2, h3, _⟩ := run_app (P := P) w base t o.type ht hinfo A B n c m d xs ys hown hr hsz hbase
  unfold Oper.wp execOp
  simp only [ho, resolve, invoke, builtin, Sem.run_bind, Sem.run_pure, Result.andThen_ok, List.map_toArray, List.map_cons, List.map_nil, hs, hx, hrun]
  exact hK _ _ (h A' c' w' h2 h3)
/-- append(Nat{}, x...): the natural x in new memory. -/
theorem wpList_app0 {ops : Array Oper} {rest : List Oper} {o : Oper} {a : Act} {Q : Exit → Act → World → Prop} (hgd : o.guard = none) (s x : Operand) (t : TypeId)
    (ho : o.op = .call { callee := .builtin .append, args := #[s, x], argTypes := #[t, t] })
    (ht : P.underlying t = some (.slice 50)) (hinfo : (P.info? 50).map (fun i => (i.zero, i.size, i.bytes)) = some (some (.int .u32 0), 1, 4))
    (B : Option Addr) (m d : Nat) (ys : List Nat) (hs : a.eval s = .slice (some ⟨w.heap.size, 0, none⟩) 0 0) (hx : a.eval x = .slice B m d) (hr : Rd w B m d ys) (hsz : m ≤ 1000000)
    (h : ∀ A' c' w', Nw w' w.heap.size A' m c' ys → Below w.heap.size w w' → wpList P ops Q rest (a.put o.dst (.slice A' m c')) w') : wpList P ops Q (o :: rest) a (w.alloc (.cells #[] 50)) := by
  refine wpList_app _ hgd s x t ho w.heap.size ht hinfo _ B 0 0 m d [] ys hs hx (Ow.empty w) (hr.alloc _) (by omega) (by simp) fun A' c' w' h1 h2 => ?_
  have hn := h1.nw
  simp only [Nat.zero_add, List.nil_append] at hn ⊢
  refine h A' c' w' hn (((Below.refl _ _).alloc (Nat.le_refl _) _).grown h2 (by simp) fun g hgg => ?_)
  simp [Value.ownBlock] at hgg
  omega
/-- copy of a whole slice over the beginning of a row of the call's own. -/
theorem wpList_cp {w : World} {ops : Array Oper} {rest : List Oper} {o : Oper} {a : Act} {Q : Exit → Act → World → Prop} (hgd : o.guard = none) (d s : Operand) (dT sT : TypeId)
    (ho : o.op = .call { callee := .builtin .copy, args := #[d, s], argTypes := #[dT, sT] }) (hu : P.underlying dT = some (.slice 50))
    (hinfo : (P.info? 50).map (fun i => (i.zero, i.size, i.bytes)) = some (some (.int .u32 0), 1, 4))
    (B : Option Addr) (g n c dCap : Nat) (xs zs : List Nat) (hd : a.eval d = .slice (some ⟨g, 0, none⟩) n dCap) (hs : a.eval s = .slice B n c)
    (hB : Blk w g zs) (hl : n ≤ zs.length) (hr : Rd w B n c xs) (L : Nat) (w0 : World) (hb : Below L w0 w) (hLg : L ≤ g)
    (h : ∀ w', Blk w' g (xs ++ zs.drop n) → Below L w0 w' → wpList P ops Q rest (a.put o.dst (goInt n)) w') : wpList P ops Q (o :: rest) a w := by
  obtain ⟨i0, hi, hz0, hz1, hz2⟩ := info_parts hinfo
  have hlen : (lits32 xs).length = n := by rw [lits32_len, hr.len]
  refine wpList_copy_splice hgd d s dT sT ho 50 hu (by rw [hi]; simp [hz1]) _ B n dCap n c hd hs g 0 (lits32 zs) 50 hB (lits32 xs) (by rw [hlen]; simp) (fun hp => ⟨rfl, ?_⟩)
    (by rw [hlen, lits32_len]; omega) (lits32_one xs) L w0 hb hLg fun w' hw' hbel => ?_
  · rw [hlen] at hp
    obtain ⟨b, off, e, _, hc⟩ := hr.at_ hp
    refine ⟨_, e, fun j v hv => ?_⟩
    obtain ⟨hj, rfl⟩ := lits32_at xs j v hv
    rw [hr.len] at hj
    have := hc j hj
    unfold Addr.add
    by_cases h0 : j = 0
    · subst h0; simpa using this
    · simpa [h0] using this
  · rw [hlen]
    refine h w' ?_ hbel
    have h1 := hw'.out
    unfold Blk
    rw [h1]
    congr 2
    unfold splice vals
    rw [hlen]
    simp [lits32]
end
end Go.Proofs.Ytcpeofgfppgooaa
