/-
  Words for memory: a slice whose elements take several cells each, that reads as a list of cells (Sr); append of such a slice behind a row of the call's own. The conditions stand in each theorem.
-/
import Derived.Test.YtblclpagfbpamaaKmem
import Derived.Maps.AppendAt
import Derived.Lib.SmallJoins
namespace Go.Proofs.Ytblclpagfbpamaa
open Go.RowKit
set_option linter.unusedVariables false

/-- A slice reads as these cells, sz of them for each element. -/
def Sr (sz : Nat) (w : World) (A : Option Addr) (n c : Nat) (cs : List Value) : Prop :=
  cs.length = n * sz ∧ n ≤ c ∧ c ≤ maxLen ∧ (A = none → n = 0 ∧ c = 0) ∧ ∀ a, A = some a → ∀ j u, cs[j]? = some u → w.cell? (a.add j) = some u

section
variable {sz : Nat} {w w' : World} {A : Option Addr} {n c : Nat} {cs : List Value}
theorem Sr.len (h : Sr sz w A n c cs) : cs.length = n * sz := h.1
theorem Sr.nil (sz : Nat) (w : World) : Sr sz w none 0 0 [] := ⟨by simp, Nat.le_refl _, Nat.zero_le _, fun _ => ⟨rfl, rfl⟩, fun a e => by cases e⟩
theorem addr_add (g o j : Nat) : (⟨g, o, none⟩ : Addr).add j = ⟨g, o + j, none⟩ := by unfold Addr.add; split <;> simp [*]

/-- A row of the call's own: nil, or a block's beginning. -/
theorem own_forms {base : Nat} {e : TypeId} {v : Value} (h : w.ownsRow base e sz v n cs) : (v = .slice none 0 0 ∧ n = 0 ∧ cs = []) ∨ ∃ g cap, v = .slice (some ⟨g, 0, none⟩) n cap ∧ base ≤ g ∧ n ≤ cap ∧ cap ≤ maxLen ∧ g < w.heap.size ∧ (∃ cur, w.heap[g]? = some (.cells cur e (0, 0)) ∧ cur.size = cap * sz ∧ cur.toList.take (n * sz) = cs) := by
  rcases h.2 with ⟨rfl, rfl⟩ | ⟨g, cap, cur, rfl, hb, hg, h1, h2, h3, h4⟩
  · exact .inl ⟨rfl, rfl, List.eq_nil_of_length_eq_zero (by simpa using h.1)⟩
  · exact .inr ⟨g, cap, rfl, hb, h1, h2, (Array.getElem?_eq_some_iff.1 hg).1, cur, hg, h3, h4⟩
/-- A part of it, from place i on, k elements. -/
theorem own_part {base g cap : Nat} {e : TypeId} (h : w.ownsRow base e sz (.slice (some ⟨g, 0, none⟩) n cap) n cs) (i k : Nat) (hik : i + k ≤ n) : Sr sz w (some ⟨g, i * sz, none⟩) k (cap - i) ((cs.drop (i * sz)).take (k * sz)) := by
  obtain ⟨hl, hf⟩ := h
  rcases hf with ⟨hv, _⟩ | ⟨g', cap', cur, hv, hb, hg, h1, h2, h3, h4⟩
  · cases hv
  · cases hv
    have hm : i * sz + k * sz ≤ n * sz := by rw [← Nat.add_mul]; exact Nat.mul_le_mul_right _ hik
    refine ⟨by simp [hl]; omega, by omega, by unfold maxLen at h2 ⊢; omega, (fun e => by cases e), fun a e j u hu => ?_⟩
    cases e
    rw [addr_add]
    have hj : j < k * sz := by
      rcases Nat.lt_or_ge j (k * sz) with h5 | h5
      · exact h5
      · rw [List.getElem?_eq_none (by simp; omega)] at hu; cases hu
    rw [List.getElem?_take_of_lt hj, List.getElem?_drop] at hu
    rw [← h4, List.getElem?_take_of_lt (by omega), Array.getElem?_toList] at hu
    simp only [World.cell?, hg]
    exact hu
theorem Sr.below {B : Nat} (h : Sr sz w A n c cs) (hb : Below B w w') (hB : ∀ a, A = some a → 0 < n * sz → a.block < B) : Sr sz w' A n c cs := by
  obtain ⟨h1, h2, h3, h4, h5⟩ := h
  refine ⟨h1, h2, h3, h4, fun a e j u hu => ?_⟩
  have hj : 0 < n * sz := by
    have := (List.getElem?_eq_some_iff.1 hu).1
    omega
  have hbl : (a.add j).block < B := by
    have : (a.add j).block = a.block := by unfold Addr.add; split <;> rfl
    rw [this]; exact hB a e hj
  exact (hb.cell (p := a.add j) hbl).trans (h5 a e j u hu)
/-- One element that was just laid in a block of its own. -/
theorem Sr.new (w : World) (t : TypeId) (cs : Array Value) (hs : cs.size = sz) : Sr sz (w.alloc (.cells cs t)) (some ⟨w.heap.size, 0, none⟩) 1 1 cs.toList := by
  refine ⟨by simp [hs], Nat.le_refl _, by unfold maxLen; omega, (fun e => by cases e), fun a e j u hu => ?_⟩
  cases e
  rw [addr_add, (KB.new w t cs).cell]
  simpa using hu
theorem own_below {base B : Nat} {e : TypeId} {v : Value} (h : w.ownsRow base e sz v n cs) (hb : Below B w w') (hB : ∀ g, v.ownBlock = some g → g < B) : w'.ownsRow base e sz v n cs := by
  refine ⟨h.1, ?_⟩
  rcases h.2 with h0 | ⟨g, cap, cur, rfl, h1, hg, h3⟩
  · exact .inl h0
  · exact .inr ⟨g, cap, cur, rfl, h1, (hb.block g (hB g rfl)).trans hg, h3⟩
end

section
variable {P : Program} (w : World)
/-- append of a slice behind a row of the call's own. -/
theorem run_appS (sz by_ : Nat) (z : Value) (T : TypeId) (base : Nat) (t ty : TypeId) (ht : P.underlying t = some (.slice T)) (hinfo : (P.info? T).map (fun i => (i.zero, i.size, i.bytes)) = some (some z, sz, by_)) (hzs : z.cells.size = sz) (hsz : 0 < sz)
    (A B : Option Addr) (n c m d : Nat) (xs ys : List Value) (hown : w.ownsRow base T sz (.slice A n c) n xs) (hr : Sr sz w B m d ys) (h1 : ∀ u ∈ ys, u.oneCell' = true) (h63 : n + m ≤ maxLen) (hs : (n + m) * by_ ≤ 140737488355328) (hbase : base ≤ w.heap.size) :
    ∃ A' c' w', (Builtin.append_ #[t, t] ty #[.slice A n c, .slice B m d]).run P w = .ok (.slice A' (n + m) c') w' ∧ w'.ownsRow base T sz (.slice A' (n + m) c') (n + m) (xs ++ ys) ∧ Turns (fun b => (Value.slice A n c).ownBlock = some b) w w' := by
  obtain ⟨i0, hi, hz0, hz1, hz2⟩ := info_parts hinfo
  rcases B with _ | ad
  · obtain ⟨rfl, rfl⟩ := hr.2.2.2.1 rfl
    obtain rfl := List.eq_nil_of_length_eq_zero (by simpa using hr.len)
    refine ⟨A, c, w, ?_, by simpa using hown, Turns.refl _ _⟩
    rcases hown.2 with ⟨hv, rfl⟩ | ⟨g, cap, cur, hv, _, _, hnc, _⟩
    · injection hv with h1 h2 h3
      subst h1 h3
      simp [Builtin.append_, run_underlying ht, sizeOf, typeInfo, hi, Builtin.lenOf, Builtin.firstCells]
    · injection hv with h1 h2 h3
      subst h1 h3
      simp [Builtin.append_, run_underlying ht, sizeOf, typeInfo, hi, Builtin.lenOf, Builtin.firstCells, hnc, storeCells]
  · obtain ⟨v', w', hrun, h2, h3, _⟩ := run_append_own (P := P) w base t ty T i0 z sz by_ ht hi hz0 hz1 hz2 hzs hsz (.slice A n c) n xs hown ad m d ys hr.len (hr.2.2.2.2 ad rfl) h1 h63 hs hbase
    have hbel : Turns (fun b => (Value.slice A n c).ownBlock = some b) w w' := Turns.grown h3 (fun r e => e)
    rcases h2.2 with ⟨rfl, hn⟩ | ⟨g, cap, cur, rfl, _⟩
    · have hn' : n + m = 0 := hn
      exact ⟨none, 0, w', by rw [hn']; exact hrun, by rw [hn'] at h2 ⊢; exact h2, hbel⟩
    · exact ⟨_, _, w', hrun, h2, hbel⟩
theorem wpList_appS (sz by_ : Nat) (z : Value) (T : TypeId) {ops : Array Oper} {rest : List Oper} {o : Oper} {a : Act} {Q : Exit → Act → World → Prop} (hgd : o.guard = none) (s x : Operand) (t : TypeId)
    (ho : o.op = .call { callee := .builtin .append, args := #[s, x], argTypes := #[t, t] })
    (base : Nat) (ht : P.underlying t = some (.slice T)) (hinfo : (P.info? T).map (fun i => (i.zero, i.size, i.bytes)) = some (some z, sz, by_)) (hzs : z.cells.size = sz) (hsz : 0 < sz)
    (A B : Option Addr) (n c m d : Nat) (xs ys : List Value) (hse : a.eval s = .slice A n c) (hxe : a.eval x = .slice B m d) (hown : w.ownsRow base T sz (.slice A n c) n xs) (hr : Sr sz w B m d ys) (h1 : ∀ u ∈ ys, u.oneCell' = true) (h63 : n + m ≤ maxLen) (hs : (n + m) * by_ ≤ 140737488355328) (hbase : base ≤ w.heap.size)
    (h : ∀ A' c' w', w'.ownsRow base T sz (.slice A' (n + m) c') (n + m) (xs ++ ys) → Turns (fun b => (Value.slice A n c).ownBlock = some b) w w' → Below base w w' → wpList P ops Q rest (a.put o.dst (.slice A' (n + m) c')) w') : wpList P ops Q (o :: rest) a w := by
  refine wpList_plain hgd fun K hK => ?_
  obtain ⟨A', c', w', hrun, h2, h3⟩ := run_appS (P := P) w sz by_ z T base t o.type ht hinfo hzs hsz A B n c m d xs ys hown hr h1 h63 hs hbase
  unfold Oper.wp execOp
  simp only [ho, resolve, invoke, builtin, Sem.run_bind, Sem.run_pure, Result.andThen_ok, List.map_toArray, List.map_cons, List.map_nil, hse, hxe, hrun]
  exact hK _ _ (h A' c' w' h2 h3 (h3.below hbase (fun b hb => (hown.lt b hb).1)))
theorem step_appS (sz by_ : Nat) (z : Value) (T : TypeId) {ops : Array Oper} {o : Oper} {a : Act} {K : Act → World → Prop} {Q : Exit → Act → World → Prop} {E : Prop} (hgd : o.guard = none) (s x : Operand) (t : TypeId)
    (ho : o.op = .call { callee := .builtin .append, args := #[s, x], argTypes := #[t, t] })
    (base : Nat) (ht : P.underlying t = some (.slice T)) (hinfo : (P.info? T).map (fun i => (i.zero, i.size, i.bytes)) = some (some z, sz, by_)) (hzs : z.cells.size = sz) (hsz : 0 < sz)
    (A B : Option Addr) (n c m d : Nat) (xs ys : List Value) (hse : a.eval s = .slice A n c) (hxe : a.eval x = .slice B m d) (hown : w.ownsRow base T sz (.slice A n c) n xs) (hr : Sr sz w B m d ys) (h1 : ∀ u ∈ ys, u.oneCell' = true) (h63 : n + m ≤ maxLen) (hs : (n + m) * by_ ≤ 140737488355328) (hbase : base ≤ w.heap.size)
    (h : ∀ A' c' w', w'.ownsRow base T sz (.slice A' (n + m) c') (n + m) (xs ++ ys) → Turns (fun b => (Value.slice A n c).ownBlock = some b) w w' → Below base w w' → K (a.put o.dst (.slice A' (n + m) c')) w') :
    if Region.wanted o (yielded ops a.tmps) = true then Oper.wp P o a w K Q else E := by
  have hw : Region.wanted o (yielded ops a.tmps) = true := by simp [Region.wanted, hgd]
  rw [if_pos hw]
  obtain ⟨A', c', w', hrun, h2, h3⟩ := run_appS (P := P) w sz by_ z T base t o.type ht hinfo hzs hsz A B n c m d xs ys hown hr h1 h63 hs hbase
  unfold Oper.wp execOp
  simp only [ho, resolve, invoke, builtin, Sem.run_bind, Sem.run_pure, Result.andThen_ok, List.map_toArray, List.map_cons, List.map_nil, hse, hxe, hrun]
  exact h A' c' w' h2 h3 (h3.below hbase (fun b hb => (hown.lt b hb).1))
end
theorem grownBy_setC (W : World) (p : Addr) (u : Value) : W.grownBy (W.setCell p u) (some p.block) :=
  ⟨rfl, rfl, rfl, by simp [World.setCell], fun k _ hk => Below.heap_setCell _ _ _ k (fun e => hk (by rw [e]))⟩
/-- A store into a block that lies below it leaves a row as it is. -/
theorem own_far {w : World} {base sz n : Nat} {t : TypeId} {v : Value} {cs : List Value} (h : w.ownsRow base t sz v n cs) {p : Addr} (hp : p.block < base) (u : Value) : (w.setCell p u).ownsRow base t sz v n cs :=
  h.kept (grownBy_setC w p u) (.inr (fun e => by have := (h.lt _ e).1; omega))
/-- A row of no elements, just made. -/
theorem own_empty {w : World} {b base sz : Nat} {t : TypeId} (h : KB w b t #[]) (hb : base ≤ b) : w.ownsRow base t sz (.slice (some ⟨b, 0, none⟩) 0 0) 0 [] :=
  ⟨by simp, .inr ⟨b, 0, #[], rfl, hb, h, Nat.le_refl _, Nat.zero_le _, by simp, by simp⟩⟩
end Go.Proofs.Ytblclpagfbpamaa
