/-
  Words for memory: a slice whose elements take several cells each, that reads as a list of cells (Sr); append of such a slice behind a row of the call's own. The conditions stand in each theorem.
  phragmen.running: a candidate with the places of those that approve it, and their stakes, together. For every well formed snapshot, and its candidates.
  Laws of copy, clear and append at slices whose elements take several cells each, and of slices.overlaps at two blocks. For whatever program; the conditions stand in each theorem.
  What bits.Mul64, money.Square answer: the two halves of the product. For all numbers below 2^64.
-/
import Derived.Test.YtehekjlakegkpaaGreatX00
import Derived.Maps.AppendAt
import Derived.Lib.SmallJoins
import Derived.Test.YtehekjlakegkpaaGreatX18
import Derived.Laws.CopyOwn
import Derived.Deep.RegionLaw
import Derived.Lib.AppendZerosOnto
import Derived.Laws.Externs
import Derived.Lib.Overlaps
import Derived.Test.YtehekjlakegkpaaGreatX03
import Derived.Lib.Mul64
import Derived.Laws.Bits64b
section
namespace Go.Proofs.YtehekjlakegkpaaGreat
open Go.RowKit
set_option linter.unusedVariables false

/-- A slice reads as these cells, sz of them for each element. -/
def Sr (sz : Nat) (w : World) (A : Option Addr) (n c : Nat) (cs : List Value) : Prop :=
  cs.length = n * sz ∧ n ≤ c ∧ c ≤ maxLen ∧ (A = none → n = 0 ∧ c = 0) ∧ ∀ a, A = some a → ∀ j u, cs[j]? = some u → w.cell? (a.add j) = some u

section
variable {sz : Nat} {w w' : World} {A : Option Addr} {n c : Nat} {cs : List Value}
theorem Sr.len (h : Sr sz w A n c cs) : cs.length = n * sz := h.1
theorem Sr.nil (sz : Nat) (w : World) : Sr sz w none 0 0 [] := ⟨by simp, Nat.le_refl _, Nat.zero_le _, fun _ => ⟨rfl, rfl⟩, fun a e => by cases e⟩
theorem addr_add (g o j : Nat) : (⟨g, o, none⟩ : Addr).add j = ⟨g, o + j, none⟩ := by unfold Addr.add; split <;> simp [*]

/-- A row of the call's own: nil, or a block's beginning. -/
theorem own_forms {base : Nat} {e : TypeId} {v : Value} (h : w.ownsRow base e sz v n cs) : (v = .slice none 0 0 ∧ n = 0 ∧ cs = []) ∨ ∃ g cap, v = .slice (some ⟨g, 0, none⟩) n cap ∧ base ≤ g ∧ n ≤ cap ∧ cap ≤ maxLen ∧ g < w.heap.size ∧ (∃ cur, w.heap[g]? = some (.cells cur e (0, 0)) ∧ cur.size = cap * sz ∧ cur.toList.take (n * sz) = cs) := by
  rcases h.2 with ⟨rfl, rfl⟩ | ⟨g, cap, cur, rfl, hb, hg, h1, h2, h3, h4⟩
  · exact .inl ⟨rfl, rfl, List.eq_nil_of_length_eq_zero (by simpa using h.1)⟩
  · exact .inr ⟨g, cap, rfl, hb, h1, h2, (Array.getElem?_eq_some_iff.1 hg).1, cur, hg, h3, h4⟩
/-- A part of it, from place i on, k elements. -/
theorem own_part {base g cap : Nat} {e : TypeId} (h : w.ownsRow base e sz (.slice (some ⟨g, 0, none⟩) n cap) n cs) (i k : Nat) (hik : i + k ≤ n) : Sr sz w (some ⟨g, i * sz, none⟩) k (cap - i) ((cs.drop (i * sz)).take (k * sz)) := by
  obtain ⟨hl, hf⟩ := h
  rcases hf with ⟨hv, _⟩ | ⟨g', cap', cur, hv, hb, hg, h1, h2, h3, h4⟩
  · cases hv
  · cases hv
    have hm : i * sz + k * sz ≤ n * sz := by rw [← Nat.add_mul]; exact Nat.mul_le_mul_right _ hik
    refine ⟨by simp [hl]; omega, by omega, by unfold maxLen at h2 ⊢; omega, (fun e => by cases e), fun a e j u hu => ?_⟩
    cases e
    rw [addr_add]
    have hj : j < k * sz := by
      rcases Nat.lt_or_ge j (k * sz) with h5 | h5
      · exact h5
      · rw [List.getElem?_eq_none (by simp; omega)] at hu; cases hu
    rw [List.getElem?_take_of_lt hj, List.getElem?_drop] at hu
    rw [← h4, List.getElem?_take_of_lt (by omega), Array.getElem?_toList] at hu
    simp only [World.cell?, hg]
    exact hu
theorem Sr.below {B : Nat} (h : Sr sz w A n c cs) (hb : Below B w w') (hB : ∀ a, A = some a → 0 < n * sz → a.block < B) : Sr sz w' A n c cs := by
  obtain ⟨h1, h2, h3, h4, h5⟩ := h
  refine ⟨h1, h2, h3, h4, fun a e j u hu => ?_⟩
  have hj : 0 < n * sz := by
    have := (List.getElem?_eq_some_iff.1 hu).1
    omega
  have hbl : (a.add j).block < B := by
    have : (a.add j).block = a.block := by unfold Addr.add; split <;> rfl
    rw [this]; exact hB a e hj
  exact (hb.cell (p := a.add j) hbl).trans (h5 a e j u hu)
/-- One element that was just laid in a block of its own. -/
theorem Sr.new (w : World) (t : TypeId) (cs : Array Value) (hs : cs.size = sz) : Sr sz (w.alloc (.cells cs t)) (some ⟨w.heap.size, 0, none⟩) 1 1 cs.toList := by
  refine ⟨by simp [hs], Nat.le_refl _, by unfold maxLen; omega, (fun e => by cases e), fun a e j u hu => ?_⟩
  cases e
  rw [addr_add, (KB.new w t cs).cell]
  simpa using hu
theorem own_below {base B : Nat} {e : TypeId} {v : Value} (h : w.ownsRow base e sz v n cs) (hb : Below B w w') (hB : ∀ g, v.ownBlock = some g → g < B) : w'.ownsRow base e sz v n cs := by
  refine ⟨h.1, ?_⟩
  rcases h.2 with h0 | ⟨g, cap, cur, rfl, h1, hg, h3⟩
  · exact .inl h0
  · exact .inr ⟨g, cap, cur, rfl, h1, (hb.block g (hB g rfl)).trans hg, h3⟩
end

section
variable {P : Program} (w : World)
/-- append of a slice behind a row of the call's own. -/
theorem run_appS (sz by_ : Nat) (z : Value) (T : TypeId) (base : Nat) (t ty : TypeId) (ht : P.underlying t = some (.slice T)) (hinfo : (P.info? T).map (fun i => (i.zero, i.size, i.bytes)) = some (some z, sz, by_)) (hzs : z.cells.size = sz) (hsz : 0 < sz)
    (A B : Option Addr) (n c m d : Nat) (xs ys : List Value) (hown : w.ownsRow base T sz (.slice A n c) n xs) (hr : Sr sz w B m d ys) (h1 : ∀ u ∈ ys, u.oneCell' = true) (h63 : n + m ≤ maxLen) (hs : (n + m) * by_ ≤ 140737488355328) (hbase : base ≤ w.heap.size) :
    ∃ A' c' w', (Builtin.append_ #[t, t] ty #[.slice A n c, .slice B m d]).run P w = .ok (.slice A' (n + m) c') w' ∧ w'.ownsRow base T sz (.slice A' (n + m) c') (n + m) (xs ++ ys) ∧ Turns (fun b => (Value.slice A n c).ownBlock = some b) w w' := by
  obtain ⟨i0, hi, hz0, hz1, hz2⟩ := info_parts hinfo
  rcases B with _ | ad
  · obtain ⟨rfl, rfl⟩ := hr.2.2.2.1 rfl
    obtain rfl := List.eq_nil_of_length_eq_zero (by simpa using hr.len)
    refine ⟨A, c, w, ?_, by simpa using hown, Turns.refl _ _⟩
    rcases hown.2 with ⟨hv, rfl⟩ | ⟨g, cap, cur, hv, _, _, hnc, _⟩
    · injection hv with h1 h2 h3
      subst h1 h3
      simp [Builtin.append_, run_underlying ht, sizeOf, typeInfo, hi, Builtin.lenOf, Builtin.firstCells]
    · injection hv with h1 h2 h3
      subst h1 h3
      simp [Builtin.append_, run_underlying ht, sizeOf, typeInfo, hi, Builtin.lenOf, Builtin.firstCells, hnc, storeCells]
  · obtain ⟨v', w', hrun, h2, h3, _⟩ := run_append_own (P := P) w base t ty T i0 z sz by_ ht hi hz0 hz1 hz2 hzs hsz (.slice A n c) n xs hown ad m d ys hr.len (hr.2.2.2.2 ad rfl) h1 h63 hs hbase
    have hbel : Turns (fun b => (Value.slice A n c).ownBlock = some b) w w' := Turns.grown h3 (fun r e => e)
    rcases h2.2 with ⟨rfl, hn⟩ | ⟨g, cap, cur, rfl, _⟩
    · have hn' : n + m = 0 := hn
      exact ⟨none, 0, w', by rw [hn']; exact hrun, by rw [hn'] at h2 ⊢; exact h2, hbel⟩
    · exact ⟨_, _, w', hrun, h2, hbel⟩
theorem wpList_appS (sz by_ : Nat) (z : Value) (T : TypeId) {ops : Array Oper} {rest : List Oper} {o : Oper} {a : Act} {Q : Exit → Act → World → Prop} (hgd : o.guard = none) (s x : Operand) (t : TypeId)
    (ho : o.op = .call { callee := .builtin .append, args := #[s, x], argTypes := #[t, t] })
    (base : Nat) (ht : P.underlying t = some (.slice T)) (hinfo : (P.info? T).map (fun i => (i.zero, i.size, i.bytes)) = some (some z, sz, by_)) (hzs : z.cells.size = sz) (hsz : 0 < sz)
    (A B : Option Addr) (n c m d : Nat) (xs ys : List Value) (hse : a.eval s = .slice A n c) (hxe : a.eval x = .slice B m d) (hown : w.ownsRow base T sz (.slice A n c) n xs) (hr : Sr sz w B m d ys) (h1 : ∀ u ∈ ys, u.oneCell' = true) (h63 : n + m ≤ maxLen) (hs : (n + m) * by_ ≤ 140737488355328) (hbase : base ≤ w.heap.size)
    (h : ∀ A' c' w', w'.ownsRow base T sz (.slice A' (n + m) c') (n + m) (xs ++ ys) → Turns (fun b => (Value.slice A n c).ownBlock = some b) w w' → Below base w w' → wpList P ops Q rest (a.put o.dst (.slice A' (n + m) c')) w') : wpList P ops Q (o :: rest) a w := by
  refine wpList_plain hgd fun K hK => ?_
  obtain ⟨A', c', w', hrun, h2, h3⟩ := run_appS (P := P) w sz by_ z T base t o.type ht hinfo hzs hsz A B n c m d xs ys hown hr h1 h63 hs hbase
  unfold Oper.wp execOp
  simp only [ho, resolve, invoke, builtin, Sem.run_bind, Sem.run_pure, Result.andThen_ok, List.map_toArray, List.map_cons, List.map_nil, hse, hxe, hrun]
  exact hK _ _ (h A' c' w' h2 h3 (h3.below hbase (fun b hb => (hown.lt b hb).1)))
theorem step_appS (sz by_ : Nat) (z : Value) (T : TypeId) {ops : Array Oper} {o : Oper} {a : Act} {K : Act → World → Prop} {Q : Exit → Act → World → Prop} {E : Prop} (hgd : o.guard = none) (s x : Operand) (t : TypeId)
    (ho : o.op = .call { callee := .builtin .append, args := #[s, x], argTypes := #[t, t] })
    (base : Nat) (ht : P.underlying t = some (.slice T)) (hinfo : (P.info? T).map (fun i => (i.zero, i.size, i.bytes)) = some (some z, sz, by_)) (hzs : z.cells.size = sz) (hsz : 0 < sz)
    (A B : Option Addr) (n c m d : Nat) (xs ys : List Value) (hse : a.eval s = .slice A n c) (hxe : a.eval x = .slice B m d) (hown : w.ownsRow base T sz (.slice A n c) n xs) (hr : Sr sz w B m d ys) (h1 : ∀ u ∈ ys, u.oneCell' = true) (h63 : n + m ≤ maxLen) (hs : (n + m) * by_ ≤ 140737488355328) (hbase : base ≤ w.heap.size)
    (h : ∀ A' c' w', w'.ownsRow base T sz (.slice A' (n + m) c') (n + m) (xs ++ ys) → Turns (fun b => (Value.slice A n c).ownBlock = some b) w w' → Below base w w' → K (a.put o.dst (.slice A' (n + m) c')) w') :
    if Region.wanted o (yielded ops a.tmps) = true then Oper.wp P o a w K Q else E := by
  have hw : Region.wanted o (yielded ops a.tmps) = true := by simp [Region.wanted, hgd]
  rw [if_pos hw]
  obtain ⟨A', c', w', hrun, h2, h3⟩ := run_appS (P := P) w sz by_ z T base t o.type ht hinfo hzs hsz A B n c m d xs ys hown hr h1 h63 hs hbase
  unfold Oper.wp execOp
  simp only [ho, resolve, invoke, builtin, Sem.run_bind, Sem.run_pure, Result.andThen_ok, List.map_toArray, List.map_cons, List.map_nil, hse, hxe, hrun]
  exact h A' c' w' h2 h3 (h3.below hbase (fun b hb => (hown.lt b hb).1))
end
theorem grownBy_setC (W : World) (p : Addr) (u : Value) : W.grownBy (W.setCell p u) (some p.block) :=
  ⟨rfl, rfl, rfl, by simp [World.setCell], fun k _ hk => Below.heap_setCell _ _ _ k (fun e => hk (by rw [e]))⟩
/-- A store into a block that lies below it leaves a row as it is. -/
theorem own_far {w : World} {base sz n : Nat} {t : TypeId} {v : Value} {cs : List Value} (h : w.ownsRow base t sz v n cs) {p : Addr} (hp : p.block < base) (u : Value) : (w.setCell p u).ownsRow base t sz v n cs :=
  h.kept (grownBy_setC w p u) (.inr (fun e => by have := (h.lt _ e).1; omega))
/-- A row of no elements, just made. -/
theorem own_empty {w : World} {b base sz : Nat} {t : TypeId} (h : KB w b t #[]) (hb : base ≤ b) : w.ownsRow base t sz (.slice (some ⟨b, 0, none⟩) 0 0) 0 [] :=
  ⟨by simp, .inr ⟨b, 0, #[], rfl, hb, h, Nat.le_refl _, Nat.zero_le _, by simp, by simp⟩⟩
end Go.Proofs.YtehekjlakegkpaaGreat
end
section
namespace Go.Proofs.YtehekjlakegkpaaGreat
open Go.RowKit
set_option linter.unusedVariables false

theorem skN_append (x : Int) (us vs : List Vr) : skN x (us ++ vs) = skN x us + skN x vs := by simp [skN]
theorem skN_one (x : Int) (v : Vr) : skN x [v] = if apv v x = true then v.st else 0 := by
  unfold skN
  by_cases h : apv v x = true
  · rw [if_pos h]; simp [h]
  · rw [if_neg h]; simp [h]
theorem skN_take_succ {vs : List Vr} {k : Nat} {v : Vr} (h : vs[k]? = some v) (x : Int) : skN x (vs.take (k + 1)) = skN x (vs.take k) + if apv v x = true then v.st else 0 := by
  rw [List.take_add_one, h, skN_append, ← skN_one]; rfl
theorem skN_take_le (x : Int) (vs : List Vr) (k : Nat) : skN x (vs.take k) ≤ skN x vs := by
  have := skN_append x (vs.take k) (vs.drop k)
  rw [List.take_append_drop] at this; omega
theorem tot_sum (xs : List Nat) : tot xs = xs.sum := by
  induction xs with
  | nil => rfl
  | cons x xs ih => simp only [tot, List.sum_cons, ih]
theorem Fd.sum {vs : List Vr} {cs : List Int} (h : Fd vs cs) : (vs.map Vr.st).sum < 18446744073709551616 := by
  have := h.2.2.2.1
  rw [tot_sum] at this; exact this
/-- The places of those that approve it. -/
def plT (vs : List Vr) (x : Int) (k : Nat) : List Nat := (List.range k).filter fun j => (vs[j]?.map fun v => apv v x) == some true
def plN (vs : List Vr) (x : Int) : List Nat := plT vs x vs.length
theorem plT_succ {vs : List Vr} {k : Nat} {v : Vr} (h : vs[k]? = some v) (x : Int) : plT vs x (k + 1) = plT vs x k ++ if apv v x = true then [k] else [] := by
  unfold plT
  rw [List.range_succ, List.filter_append]
  congr 1
  simp only [List.filter_cons, List.filter_nil, h, Option.map_some]
  by_cases a : apv v x = true
  · rw [a]; rfl
  · rw [show apv v x = false from by simpa using a]; rfl
theorem plT_len (vs : List Vr) (x : Int) (k : Nat) : (plT vs x k).length ≤ k := by
  unfold plT
  exact Nat.le_trans (List.length_filter_le _ _) (by simp)
theorem plT_lt {vs : List Vr} {x : Int} {k j : Nat} (h : j ∈ plT vs x k) : j < k := by
  unfold plT at h
  exact List.mem_range.1 (List.mem_filter.1 h).1
theorem wrap_u (n : Int) : IntKind.u64.wrap n = n % 18446744073709551616 := by simp [IntKind.wrap, IntKind.bits, IntKind.signed]
/-! Readings that survive. -/
theorem Turns.cell {F : Nat → Prop} {w w' : World} (h : Turns F w w') {p : Addr} (hp : p.block < w.heap.size) (hF : ¬ F p.block) : w'.cell? p = w.cell? p := World.cell?_of_block (w := w) (h.block p.block hp hF)
theorem Ri.turns {F : Nat → Prop} {w w' : World} {A : Option Addr} {n c : Nat} {zs : List Int} (h : Ri w A n c zs) (ht : Turns F w w') (hF : ∀ a, A = some a → 0 < n → ¬ F a.block) : Ri w' A n c zs :=
  ⟨h.1, h.2.1, h.2.2.1, h.2.2.2.1, fun hn => by
    obtain ⟨b, o, e, hb, hc⟩ := h.at_ hn
    exact ⟨b, o, e, Nat.lt_of_lt_of_le hb ht.size, fun j hj => (ht.cell (p := ⟨b, o + j, none⟩) hb (hF ⟨b, o, none⟩ e hn)).trans (hc j hj)⟩⟩
theorem Turns.alloc' {F : Nat → Prop} {w w' : World} (h : Turns F w w') (o : Obj) : Turns F w (w'.alloc o) := h.trans (Turns.alloc F w' o) fun b hb => .inl hb
theorem Turns.setCell' {F : Nat → Prop} {w w' : World} (h : Turns F w w') {p : Addr} (hp : F p.block) (u : Value) : Turns F w (w'.setCell p u) := h.trans (Turns.setCell w' p u hp) fun b hb => .inl hb
theorem Turns.bel {F : Nat → Prop} {w w1 w2 : World} {B : Nat} (h : Turns F w w1) (hb : Below B w1 w2) (hB : w.heap.size ≤ B) (h1 : B ≤ w1.heap.size) : Turns F w w2 :=
  ⟨hb.os.trans h.os, hb.tape.trans h.tape, hb.output.trans h.output, Nat.le_trans h.size hb.size, fun b hl hF => (hb.block b (by omega)).trans (h.block b hl hF)⟩
theorem Owk.far {k : IntKind} {T : TypeId} {w : World} {base n c : Nat} {A : Option Addr} {xs : List Nat} (h : Owk k T w base A n c xs) {p : Addr} (hp : p.block < base) (u : Value) : Owk k T (w.setCell p u) base A n c xs := own_far h hp u

/-- A candidate, the places of its approvers, their stakes. -/
def OutRun (w : World) (x : Int) (xs : List Nat) (st : Nat) : Ending → World → Prop := fun e w' =>
  ∃ A n c, e = .returned (.agg #[.int .i64 x, .slice A n c, .int .u64 (st : Int)]) ∧ Owk .i64 3 w' w.heap.size A n c xs ∧ Below w.heap.size w w'
/-- Three blocks that were just made. -/
theorem boxK3 (w : World) (t1 t2 t3 : TypeId) (c1 c2 c3 : Array Value) :
    KB (((w.alloc (.cells c1 t1)).alloc (.cells c2 t2)).alloc (.cells c3 t3)) w.heap.size t1 c1 ∧ KB (((w.alloc (.cells c1 t1)).alloc (.cells c2 t2)).alloc (.cells c3 t3)) (w.heap.size + 1) t2 c2 ∧
    KB (((w.alloc (.cells c1 t1)).alloc (.cells c2 t2)).alloc (.cells c3 t3)) (w.heap.size + 2) t3 c3 ∧ Below w.heap.size w (((w.alloc (.cells c1 t1)).alloc (.cells c2 t2)).alloc (.cells c3 t3)) ∧ (((w.alloc (.cells c1 t1)).alloc (.cells c2 t2)).alloc (.cells c3 t3)).heap.size = w.heap.size + 3 := by
  have h1 := KB.new w t1 c1
  have h2 := KB.new (w.alloc (.cells c1 t1)) t2 c2
  have h3 := KB.new ((w.alloc (.cells c1 t1)).alloc (.cells c2 t2)) t3 c3
  have e1 : (w.alloc (.cells c1 t1)).heap.size = w.heap.size + 1 := by simp
  have e2 : ((w.alloc (.cells c1 t1)).alloc (.cells c2 t2)).heap.size = w.heap.size + 2 := by simp
  rw [e1] at h2
  rw [e2] at h3
  exact ⟨(h1.alloc _).alloc _, h2.alloc _, h3, (((Below.refl _ _).alloc (Nat.le_refl _) _).alloc (by omega) _).alloc (by omega) _, by simp⟩
theorem KB.put3 {W : World} {g : Nat} {t : TypeId} {a b c : Value} (h : KB W g t #[a, b, c]) (x y z : Value) : KB (((W.setCell ⟨g, 0, none⟩ x).setCell ⟨g, 1, none⟩ y).setCell ⟨g, 2, none⟩ z) g t #[x, y, z] := by
  simpa using ((h.set 0 x).set 1 y).set 2 z
set_option maxHeartbeats 3200000 in
theorem running_any (s : Sn) (x : Int) (w : World) (h : s.In w) (hfd : Fd s.vs s.cs) (hx : x ∈ s.cs) :
    Calls Tryz.prog 136 #[s.val, .int .i64 x] w (OutRun w x (plN s.vs x) (skN x s.vs)) := by
  obtain ⟨A, n, c, B, m, d, vs, cs⟩ := s
  have hAp := fun W g => approvers_any ⟨A, n, c, B, m, d, vs, cs⟩ x W g
  have HX := Lib.hid (apM_bl vs cs x)
  have HM := Lib.hid (fun v hv => mem_apM hfd (v := v) hv hx)
  dsimp only at hfd hx HM
  have HS := Lib.hid hfd.sum
  have hxs : apM vs cs x = apM vs cs x := rfl
  unfold Sn.val at hAp ⊢
  dsimp only at hAp ⊢
  generalize apM vs cs x = xs at *
  have HA := Lib.hid hAp
  have HV := Lib.hid h.1
  have HL := Lib.hid h.1.len
  have hcap := h.1.cap
  have hmax := h.1.max
  have h32 : n ≤ 32 := by have := hfd.1; have := HL.out; dsimp only at *; omega
  have HI := Lib.hid h
  have HZ := Lib.hid (boxK3 w 25 180 180 #[.slice A n c, .slice B m d] #[.int .i64 0, .slice none 0 0, .int .u64 0] #[.int .i64 x, .slice none 0 0, .int .u64 0])
  clear hAp h hxs
  go_enter Tryz.func136, Tryz.ntmps136
  go_wp2_with fail
  generalize ((w.alloc (Obj.cells #[Value.slice A n c, Value.slice B m d] 25)).alloc (Obj.cells #[Value.int IntKind.i64 0, Value.slice none 0 0, Value.int IntKind.u64 0] 180)).alloc (Obj.cells #[Value.int IntKind.i64 x, Value.slice none 0 0, Value.int IntKind.u64 0] 180) = W3 at *
  obtain ⟨hk1, hk2, hk3, hb3, hs3⟩ := HZ.out
  refine (HA.out W3 (HI.out.below hb3 (Nat.le_refl _))).mono ?_
  rintro e w2 ⟨A2, n2, c2, rfl, hO2, hb2⟩
  have hs2 := hb2.size
  have HR2 := Lib.hid (ri_of_rk hO2.rk HX.out)
  have HN2 := Lib.hid (fun (a : Addr) (e : A2 = some a) (hn : 0 < n2) => show ¬ a.block = w.heap.size + 2 from fun hh => by
    obtain ⟨g, e', hg, _⟩ := hO2.addr hn
    rw [e] at e'
    injection e' with e'
    subst e'
    dsimp only at hh
    omega)
  have hk1' := hk1.below hb2 hk1.lt
  have hk2' := hk2.below hb2 hk2.lt
  have hk3' := hk3.below hb2 hk3.lt
  have HB2 := Lib.hid (hb3.trans (hb2.mono hb3.size))
  have x0 := hk1'.cell 0
  have x1 := hk1'.cell 1
  simp at x0 x1
  clear hk1 hk2 hk3 hb3 hO2 HZ
  go_wp2_with fail
  clear x0 x1
  go_loopw [17] (fun tv wr => ∃ (k m' c' : Nat) (A' : Option Addr), k ≤ n ∧ m' ≤ k ∧ tv = .int .i64 (k : Int) ∧ Owk .i64 3 wr w2.heap.size A' m' c' (plT vs x k) ∧ KB wr (w.heap.size + 2) 180 #[.int .i64 x, .slice A' m' c', .int .u64 (skN x (vs.take k) : Nat)] ∧ Turns (fun b => b = w.heap.size + 2) w2 wr) (fun tv _ => n - (intOf tv).toNat)
  case atStart => exact ⟨0, 0, 0, none, by omega, by omega, rfl, Owk.nil _ _ _ _, hk3', Turns.refl _ _⟩
  case round =>
    obtain ⟨k, m', c', A', hk, hmk, rfl, hO, hK, hT⟩ := hrel
    have hbw : Below w.heap.size w wr := HB2.out.trans (hT.below (by omega) (fun b hb => by omega))
    by_cases hlt : k < n
    · obtain ⟨b, o, v, rfl, hbb, hve, ok, ri, e0, e1, e2⟩ := HV.out.at_ hlt
      have d0 := (hbw.cell (p := ⟨b, o + k * 3, none⟩) hbb).trans e0
      have d1 := (hbw.cell (p := ⟨b, o + k * 3 + 1, none⟩) hbb).trans e1
      have d2 := (hbw.cell (p := ⟨b, o + k * 3 + 2, none⟩) hbb).trans e2
      have hmem := HM.out v (List.mem_of_getElem? hve)
      have hpl := plT_succ hve x
      have hsk := skN_take_succ hve x
      have hskl := skN_take_le x vs (k + 1)
      have hskl2 := skN_le x vs
      have hs := HS.out
      have hb7' : Below wr.heap.size wr (wr.alloc (.cells #[.int .i64 v.id, .int .u64 (v.st : Int), .slice v.a v.n v.c] 43)) := (Below.refl _ _).alloc (Nat.le_refl _) _
      have hK7 := KB.new wr 43 #[.int .i64 v.id, .int .u64 (v.st : Int), .slice v.a v.n v.c]
      have hT7 := hT.alloc' (.cells #[.int .i64 v.id, .int .u64 (v.st : Int), .slice v.a v.n v.c] 43)
      have hO7 := hO.below hb7'
      have hKK7 := hK.below hb7' hK.lt
      have hC := contains_any A2 n2 c2 (ints xs) v.id _ (HR2.out.turns hT7 HN2.out)
      have hts := hT.size
      rw [hmem] at hC
      have hst : v.st < 18446744073709551616 := ok.1
      obtain ⟨vi, vst, va, vn, vc, vp⟩ := v
      dsimp only at d0 d1 d2 hpl hsk hC hK7 hT7 hO7 hKK7 hst
      clear e0 e1 e2 hve ok ri hmem hb7' HM HR2 HN2 hk1' hk3' HX
      generalize apv ⟨vi, vst, va, vn, vc, vp⟩ x = r at *
      go_upto_region 6 with (fail)
      generalize (wr.alloc (.cells #[.int .i64 vi, .int .u64 (vst : Int), .slice va vn vc] 43)) = w7 at *
      have y0 := hK7.cell 0
      have y1 := hK7.cell 1
      simp at y0 y1
      clear d0 d1 d2
      go_wp2_with fail
      refine hC.mono ?_
      rintro e w8 ⟨rfl, rfl⟩
      cases r with
      | false =>
        go_wp2
        go_roundw
        case rel => exact ⟨k + 1, m', c', A', by omega, by omega, by go_num, by rw [hpl, if_neg (by simp), List.append_nil]; exact hO7, by rw [hsk, if_neg (by simp)]; exact hKK7, hT7⟩
        case measure => simp [intOf]; omega
      | true =>
        have hKV := (hK7.alloc (.cells #[.int .i64 (k : Int)] 3))
        have hKW := (hKK7.alloc (.cells #[.int .i64 (k : Int)] 3))
        have hTW := hT7.alloc' (.cells #[.int .i64 (k : Int)] 3)
        have q0 := hKK7.cell 1
        simp at q0
        have hs7 := hT7.size
        have hne : ¬ (Value.slice A' m' c').ownBlock = some wr.heap.size := fun e => by have := (World.ownsRow.lt hO _ e).2; omega
        go_wp2_with (at_builtin; refine wpList_appS _ 1 8 _ 3 rfl (.tmp 27) (.tmp 29) 23 rfl w2.heap.size Tryz.underlying23 infoI' rfl (by decide) _ _ _ _ 1 1 (litsK .i64 (plT vs x k)) [.int .i64 (k : Int)] rfl rfl (hO7.alloc _) (Sr.new _ _ #[.int .i64 (k : Int)] rfl) (by simp [Value.oneCell']) (by unfold maxLen; omega) (by omega) (by first | omega | (simp; omega) | simp) ?_; intro A1 c1 w1 hO1 hT1 hb1; have hK1 := hKW.below hb1 (by omega); have hV1 := hKV.turns hT1 hne; have hK2 := hK1.set 1 (.slice A1 (m' + 1) c1); have hV2 := hV1.far (p := ⟨w.heap.size + 2, 1, none⟩) (by dsimp only; omega) (.slice A1 (m' + 1) c1); have f1 := hK1.frozen 1; have z1 := hK1.cell 1; have f2 := hK2.frozen 2; have z2 := hK2.cell 2; have v2 := hV2.cell 1; simp at z1 z2 v2)
        have e9 : skN x (List.take (k + 1) vs) = skN x (List.take k vs) + vst := by rw [hsk, if_pos trivial]
        have hw : IntKind.u64.wrap ((skN x (List.take k vs) : Int) + (vst : Int)) = ((skN x (List.take (k + 1) vs) : Nat) : Int) := by rw [wrap_u]; omega
        go_roundw
        case rel =>
          rw [hw]
          refine ⟨k + 1, m' + 1, c1, A1, by omega, by omega, by go_num, ?_, ?_, ?_⟩
          · show World.ownsRow _ _ _ 1 _ _ (litsK .i64 _)
            rw [hpl, if_pos trivial, ← litsK_append]
            exact own_far (own_far hO1 (p := ⟨w.heap.size + 1 + 1, 1, none⟩) (by dsimp only; omega) _) (p := ⟨w.heap.size + 1 + 1, 2, none⟩) (by dsimp only; omega) _
          · simpa using hK2.set 2 (.int .u64 ((skN x (List.take (k + 1) vs) : Nat) : Int))
          · exact ((hTW.bel hb1 (Nat.le_refl _) (by simp; omega)).setCell' (p := ⟨w.heap.size + 1 + 1, 1, none⟩) rfl _).setCell' (p := ⟨w.heap.size + 1 + 1, 2, none⟩) rfl _
        case measure => simp [intOf]; omega
    · obtain rfl : k = n := by omega
      have hl : vs.take k = vs := List.take_of_length_le (by rw [HL.out]; exact Nat.le_refl _)
      rw [hl] at hK
      have hpn : plT vs x k = plN vs x := by unfold plN; rw [HL.out]
      rw [hpn] at hO
      have hkr := hk2'.turns hT (by omega)
      have z0 := hK.cell 0
      have z1 := hK.cell 1
      have z2 := hK.cell 2
      have f0 := hkr.frozen 0
      have f1 := hkr.frozen 1
      have f2 := hkr.frozen 2
      have r0 := hkr.cell 0
      have r1 := hkr.cell 1
      have r2 := hkr.cell 2
      simp at z0 z1 z2 r0 r1 r2
      have hkF := hkr.put3 (.int .i64 x) (.slice A' m' c') (.int .u64 ((skN x vs : Nat) : Int))
      have HF := Lib.hid (show OutRun w x (plN vs x) (skN x vs) (.returned (.agg #[.int .i64 x, .slice A' m' c', .int .u64 ((skN x vs : Nat) : Int)])) (((wr.setCell ⟨w.heap.size + 1, 0, none⟩ (.int .i64 x)).setCell ⟨w.heap.size + 1, 1, none⟩ (.slice A' m' c')).setCell ⟨w.heap.size + 1, 2, none⟩ (.int .u64 ((skN x vs : Nat) : Int))) from
        ⟨_, _, _, rfl, (((hO.far (p := ⟨w.heap.size + 1, 0, none⟩) (by dsimp only; omega) _).far (p := ⟨w.heap.size + 1, 1, none⟩) (by dsimp only; omega) _).far (p := ⟨w.heap.size + 1, 2, none⟩) (by dsimp only; omega) _).low (by omega),
          ((hbw.setCell (p := ⟨w.heap.size + 1, 0, none⟩) (by dsimp only; omega) _).setCell (p := ⟨w.heap.size + 1, 1, none⟩) (by dsimp only; omega) _).setCell (p := ⟨w.heap.size + 1, 2, none⟩) (by dsimp only; omega) _⟩)
      have k0 := hkF.cell 0
      have k1 := hkF.cell 1
      have k2 := hkF.cell 2
      simp at k0 k1 k2
      go_wp2
      refine bodyPost_ret (v := .agg #[.int .i64 x, .slice A' m' c', .int .u64 ((skN x vs : Nat) : Int)]) (by simp [results, Tryz.results136, go_sem, k0, k1, k2]) rfl ?_
      exact HF.out
end Go.Proofs.YtehekjlakegkpaaGreat
end
section
namespace Go.Proofs.YtehekjlakegkpaaGreat
open Go.RowKit
set_option linter.unusedVariables false

section
variable {P : Program}
theorem run_copyS (w : World) (dT sT ty elem : TypeId) (sz g o dLen dCap : Nat) (a : Addr) (sLen sCap : Nat) (cur : Array Value) (t : TypeId) (cs : List Value)
    (hu : P.underlying dT = some (.slice elem)) (hs : (P.info? elem).map (·.size) = some sz)
    (hg : w.heap[g]? = some (.cells cur t (0, 0))) (hn : cs.length = Nat.min sLen dLen * sz)
    (hsrc : ∀ j v, cs[j]? = some v → w.cell? (a.add j) = some v) (hfit : o + cs.length ≤ cur.size) (h1 : ∀ v ∈ cs, v.oneCell' = true) :
    (Builtin.copy_ #[dT, sT] ty #[.slice (some ⟨g, o, none⟩) dLen dCap, .slice (some a) sLen sCap]).run P w =
      .ok (goInt (Nat.min sLen dLen)) (w.setRow g (cur.toList.take o ++ cs ++ cur.toList.drop (o + cs.length)).toArray) := by
  have hl := run_loadCells_list (P := P) w a cs hsrc
  have hst := run_storeCells_at P g o t cs 0 cur w hg (by simpa using hfit) h1
  cases hq : P.info? elem with
  | none => simp [hq] at hs
  | some i =>
    have hi : i.size = sz := by simpa [hq] using hs
    rw [hn] at hl
    simp [Builtin.copy_, run_underlying hu, Builtin.lenOf, Builtin.firstCells, sizeOf, typeInfo, hq, hi, hl, hst]
theorem run_copyS_none (w : World) (dT sT ty elem : TypeId) (sz : Nat) (d a : Option Addr) (dLen dCap sLen sCap : Nat) (hu : P.underlying dT = some (.slice elem)) (hs : (P.info? elem).map (·.size) = some sz) (hn : Nat.min sLen dLen = 0) :
    (Builtin.copy_ #[dT, sT] ty #[.slice d dLen dCap, .slice a sLen sCap]).run P w = .ok (goInt 0) w := by
  cases hq : P.info? elem with
  | none => simp [hq] at hs
  | some i =>
    have hl : ∀ (x : Addr), (loadCells x 0).run P w = .ok #[] w := fun x => by simpa using run_loadCells_list (P := P) w x [] (by simp)
    cases d <;> cases a <;> simp [Builtin.copy_, run_underlying hu, Builtin.lenOf, Builtin.firstCells, sizeOf, typeInfo, hq, hn, storeCells, hl]
theorem turns_setRow (w : World) (g : Nat) (cs : Array Value) : Turns (fun b => b = g) w (w.setRow g cs) :=
  ⟨rfl, rfl, rfl, by simp [World.setRow], fun k _ hk => setRow_other w g k cs hk⟩
/-- What copy makes: the block spliced, nothing else turned. -/
theorem run_copyK (w : World) (dT sT ty elem : TypeId) (sz g off dLen dCap : Nat) (dp sp : Option Addr) (sLen sCap : Nat) (cur : List Value) (t : TypeId) (cs : List Value)
    (hu : P.underlying dT = some (.slice elem)) (hs : (P.info? elem).map (·.size) = some sz) (hsz : 0 < sz)
    (hg : KB w g t cur.toArray) (hn : cs.length = Nat.min sLen dLen * sz)
    (hpos : 0 < cs.length → dp = some ⟨g, off, none⟩ ∧ ∃ ad, sp = some ad ∧ ∀ j v, cs[j]? = some v → w.cell? (ad.add j) = some v)
    (hfit : off + cs.length ≤ cur.length) (h1 : ∀ v ∈ cs, v.oneCell' = true) :
    ∃ w', (Builtin.copy_ #[dT, sT] ty #[.slice dp dLen dCap, .slice sp sLen sCap]).run P w = .ok (goInt (Nat.min sLen dLen)) w' ∧ KB w' g t (splice cur off cs).toArray ∧ Turns (fun b => b = g) w w' := by
  by_cases h0 : cs.length = 0
  · obtain rfl : cs = [] := List.eq_nil_of_length_eq_zero h0
    have hm : Nat.min sLen dLen = 0 := by
      rcases Nat.eq_zero_or_pos (Nat.min sLen dLen) with h | h
      · exact h
      · have := Nat.mul_pos h hsz; simp at hn; omega
    have hr := run_copyS_none (P := P) w dT sT ty elem sz dp sp dLen dCap sLen sCap hu hs hm
    exact ⟨w, by rw [hr, hm]; rfl, by simpa [splice] using hg, Turns.refl _ _⟩
  · obtain ⟨rfl, ad, rfl, hsrc⟩ := hpos (by omega)
    have hr := run_copyS (P := P) w dT sT ty elem sz g off dLen dCap ad sLen sCap cur.toArray t cs hu hs hg hn hsrc (by simpa using hfit) h1
    refine ⟨_, hr, ?_, turns_setRow w g _⟩
    have := setRow_heap w g cur.toArray (cur.take off ++ cs ++ cur.drop (off + cs.length)).toArray t (0, 0) hg
    simpa [splice, KB] using this
theorem wpList_copyK {w : World} {ops : Array Oper} {rest : List Oper} {o : Oper} {a : Act} {Q : Exit → Act → World → Prop} (hgd : o.guard = none) (d s : Operand) (dT sT : TypeId)
    (ho : o.op = .call { callee := .builtin .copy, args := #[d, s], argTypes := #[dT, sT] }) (elem : TypeId) (sz g off dLen dCap : Nat) (dp sp : Option Addr) (sLen sCap : Nat) (cur : List Value) (t : TypeId) (cs : List Value)
    (hu : P.underlying dT = some (.slice elem)) (hs : (P.info? elem).map (·.size) = some sz) (hsz : 0 < sz)
    (hd : a.eval d = .slice dp dLen dCap) (hse : a.eval s = .slice sp sLen sCap) (hg : KB w g t cur.toArray) (hn : cs.length = Nat.min sLen dLen * sz)
    (hpos : 0 < cs.length → dp = some ⟨g, off, none⟩ ∧ ∃ ad, sp = some ad ∧ ∀ j v, cs[j]? = some v → w.cell? (ad.add j) = some v)
    (hfit : off + cs.length ≤ cur.length) (h1 : ∀ v ∈ cs, v.oneCell' = true)
    (h : ∀ w', KB w' g t (splice cur off cs).toArray → Turns (fun b => b = g) w w' → wpList P ops Q rest (a.put o.dst (goInt (Nat.min sLen dLen))) w') : wpList P ops Q (o :: rest) a w := by
  refine wpList_plain hgd fun K hK => ?_
  obtain ⟨w', hr, h2, h3⟩ := run_copyK (P := P) w dT sT o.type elem sz g off dLen dCap dp sp sLen sCap cur t cs hu hs hsz hg hn hpos hfit h1
  unfold Oper.wp
  simp [execOp, ho, resolve, invoke, builtin, hd, hse, hr, Result.andThen]
  exact hK _ _ (h w' h2 h3)
theorem step_copyK {w : World} {ops : Array Oper} {o : Oper} {a : Act} {K : Act → World → Prop} {Q : Exit → Act → World → Prop} {E : Prop} (hgd : o.guard = none) (d s : Operand) (dT sT : TypeId)
    (ho : o.op = .call { callee := .builtin .copy, args := #[d, s], argTypes := #[dT, sT] }) (elem : TypeId) (sz g off dLen dCap : Nat) (dp sp : Option Addr) (sLen sCap : Nat) (cur : List Value) (t : TypeId) (cs : List Value)
    (hu : P.underlying dT = some (.slice elem)) (hs : (P.info? elem).map (·.size) = some sz) (hsz : 0 < sz)
    (hd : a.eval d = .slice dp dLen dCap) (hse : a.eval s = .slice sp sLen sCap) (hg : KB w g t cur.toArray) (hn : cs.length = Nat.min sLen dLen * sz)
    (hpos : 0 < cs.length → dp = some ⟨g, off, none⟩ ∧ ∃ ad, sp = some ad ∧ ∀ j v, cs[j]? = some v → w.cell? (ad.add j) = some v)
    (hfit : off + cs.length ≤ cur.length) (h1 : ∀ v ∈ cs, v.oneCell' = true)
    (h : ∀ w', KB w' g t (splice cur off cs).toArray → Turns (fun b => b = g) w w' → K (a.put o.dst (goInt (Nat.min sLen dLen))) w') :
    if Region.wanted o (yielded ops a.tmps) = true then Oper.wp P o a w K Q else E := by
  have hw : Region.wanted o (yielded ops a.tmps) = true := by simp [Region.wanted, hgd]
  rw [if_pos hw]
  obtain ⟨w', hr, h2, h3⟩ := run_copyK (P := P) w dT sT o.type elem sz g off dLen dCap dp sp sLen sCap cur t cs hu hs hsz hg hn hpos hfit h1
  unfold Oper.wp
  simp [execOp, ho, resolve, invoke, builtin, hd, hse, hr, Result.andThen]
  exact h w' h2 h3
/-- The same, whatever the capacities. -/
theorem run_copyA (w : World) (dT sT elem : TypeId) (sz g off dLen : Nat) (dp sp : Option Addr) (sLen : Nat) (cur : List Value) (t : TypeId) (cs : List Value)
    (hu : P.underlying dT = some (.slice elem)) (hs : (P.info? elem).map (·.size) = some sz) (hsz : 0 < sz)
    (hg : KB w g t cur.toArray) (k : Nat) (hk : Nat.min sLen dLen = k) (hn : cs.length = k * sz)
    (hpos : 0 < cs.length → dp = some ⟨g, off, none⟩ ∧ ∃ ad, sp = some ad ∧ ∀ j v, cs[j]? = some v → w.cell? (ad.add j) = some v)
    (hfit : off + cs.length ≤ cur.length) (h1 : ∀ v ∈ cs, v.oneCell' = true) :
    ∃ w', (∀ ty dCap sCap, (Builtin.copy_ #[dT, sT] ty #[.slice dp dLen dCap, .slice sp sLen sCap]).run P w = .ok (goInt k) w') ∧ KB w' g t (splice cur off cs).toArray ∧ Turns (fun b => b = g) w w' := by
  subst hk
  by_cases h0 : cs.length = 0
  · obtain rfl : cs = [] := List.eq_nil_of_length_eq_zero h0
    have hm : Nat.min sLen dLen = 0 := by
      rcases Nat.eq_zero_or_pos (Nat.min sLen dLen) with h | h
      · exact h
      · have := Nat.mul_pos h hsz; simp at hn; omega
    exact ⟨w, fun ty dCap sCap => by rw [run_copyS_none (P := P) w dT sT ty elem sz dp sp dLen dCap sLen sCap hu hs hm, hm]; rfl, by simpa [splice] using hg, Turns.refl _ _⟩
  · obtain ⟨rfl, ad, rfl, hsrc⟩ := hpos (by omega)
    refine ⟨_, fun ty dCap sCap => run_copyS (P := P) w dT sT ty elem sz g off dLen dCap ad sLen sCap cur.toArray t cs hu hs hg hn hsrc (by simpa using hfit) h1, ?_, turns_setRow w g _⟩
    have := setRow_heap w g cur.toArray (cur.take off ++ cs ++ cur.drop (off + cs.length)).toArray t (0, 0) hg
    simpa [splice, KB] using this
theorem wpList_copyR {w : World} {ops : Array Oper} {rest : List Oper} {o : Oper} {a : Act} {Q : Exit → Act → World → Prop} (hgd : o.guard = none) (d s : Operand) (dT sT : TypeId)
    (ho : o.op = .call { callee := .builtin .copy, args := #[d, s], argTypes := #[dT, sT] }) {v u v' : Value} {w' : World} (hd : a.eval d = v) (hse : a.eval s = u)
    (hr : (Builtin.copy_ #[dT, sT] o.type #[v, u]).run P w = .ok v' w') (h : wpList P ops Q rest (a.put o.dst v') w') : wpList P ops Q (o :: rest) a w := by
  refine wpList_plain hgd fun K hK => ?_
  unfold Oper.wp
  simp [execOp, ho, resolve, invoke, builtin, hd, hse, hr, Result.andThen]
  exact hK _ _ h
theorem step_copyR {w : World} {ops : Array Oper} {o : Oper} {a : Act} {K : Act → World → Prop} {Q : Exit → Act → World → Prop} {E : Prop} (hgd : o.guard = none) (d s : Operand) (dT sT : TypeId)
    (ho : o.op = .call { callee := .builtin .copy, args := #[d, s], argTypes := #[dT, sT] }) {v u v' : Value} {w' : World} (hd : a.eval d = v) (hse : a.eval s = u)
    (hr : (Builtin.copy_ #[dT, sT] o.type #[v, u]).run P w = .ok v' w') (h : K (a.put o.dst v') w') :
    if Region.wanted o (yielded ops a.tmps) = true then Oper.wp P o a w K Q else E := by
  have hw : Region.wanted o (yielded ops a.tmps) = true := by simp [Region.wanted, hgd]
  rw [if_pos hw]
  unfold Oper.wp
  simp [execOp, ho, resolve, invoke, builtin, hd, hse, hr, Result.andThen]
  exact h
theorem step_appR {w : World} {ops : Array Oper} {o : Oper} {a : Act} {K : Act → World → Prop} {Q : Exit → Act → World → Prop} {E : Prop} (hgd : o.guard = none) (d s : Operand) (dT sT : TypeId)
    (ho : o.op = .call { callee := .builtin .append, args := #[d, s], argTypes := #[dT, sT] }) {v u v' : Value} {w' : World} (hd : a.eval d = v) (hse : a.eval s = u)
    (hr : (Builtin.append_ #[dT, sT] o.type #[v, u]).run P w = .ok v' w') (h : K (a.put o.dst v') w') :
    if Region.wanted o (yielded ops a.tmps) = true then Oper.wp P o a w K Q else E := by
  have hw : Region.wanted o (yielded ops a.tmps) = true := by simp [Region.wanted, hgd]
  rw [if_pos hw]
  unfold Oper.wp
  simp [execOp, ho, resolve, invoke, builtin, hd, hse, hr, Result.andThen]
  exact h
theorem wpList_clearR {w : World} {ops : Array Oper} {rest : List Oper} {o : Oper} {a : Act} {Q : Exit → Act → World → Prop} (hgd : o.guard = none) (d : Operand) (dT : TypeId)
    (ho : o.op = .call { callee := .builtin .clear, args := #[d], argTypes := #[dT] }) {v v' : Value} {w' : World} (hd : a.eval d = v)
    (hr : (Builtin.clear_ #[dT] o.type #[v]).run P w = .ok v' w') (h : wpList P ops Q rest (a.put o.dst v') w') : wpList P ops Q (o :: rest) a w := by
  refine wpList_plain hgd fun K hK => ?_
  unfold Oper.wp
  simp [execOp, ho, resolve, invoke, builtin, hd, hr, Result.andThen]
  exact hK _ _ h
/-- clear of a part of a block. -/
theorem run_clearS (w : World) (dT elem : TypeId) (z : Value) (g off n : Nat) (cur : List Value) (t : TypeId) (hu : P.underlying dT = some (.slice elem)) (hz : ∀ W, (zeroValue elem).run P W = .ok z W) (hg : KB w g t cur.toArray)
    (hfit : off + n * z.cells.size ≤ cur.length) (h1 : ∀ v ∈ (Builtin.zeroCells z.cells n).toList, v.oneCell' = true) (hn : 0 < n) :
    ∃ w', (∀ ty c, (Builtin.clear_ #[dT] ty #[.slice (some ⟨g, off, none⟩) n c]).run P w = .ok (.tuple #[]) w') ∧ KB w' g t (splice cur off (Builtin.zeroCells z.cells n).toList).toArray ∧ Turns (fun b => b = g) w w' := by
  have hs : (Builtin.zeroCells z.cells n).toList.length = n * z.cells.size := by simp [Builtin.zeroCells]
  have hst := run_storeCells_at P g off t (Builtin.zeroCells z.cells n).toList 0 cur.toArray w hg (by rw [hs]; simpa using hfit) h1
  simp only [Nat.add_zero] at hst
  refine ⟨w.setRow g (cur.take off ++ (Builtin.zeroCells z.cells n).toList ++ cur.drop (off + (Builtin.zeroCells z.cells n).toList.length)).toArray, ?_, ?_, turns_setRow w g _⟩
  · intro ty c
    obtain ⟨m, rfl⟩ : ∃ m, n = m + 1 := ⟨n - 1, by omega⟩
    simp [Builtin.clear_, run_underlying hu, hz, hst]
  · have := setRow_heap w g cur.toArray (cur.take off ++ (Builtin.zeroCells z.cells n).toList ++ cur.drop (off + (Builtin.zeroCells z.cells n).toList.length)).toArray t (0, 0) hg
    simpa [splice, KB] using this
end
end Go.Proofs.YtehekjlakegkpaaGreat
end
section
namespace Go.Proofs.YtehekjlakegkpaaGreat
open Go.RowKit

/-- The lower half of a word. -/
theorem and_low (a : Nat) (ha : a < 18446744073709551616) : bits .and .u64 (a : Int) 4294967295 = ((a % 4294967296 : Nat) : Int) := by
  have h := bits_and_u64_nat a 4294967295 ha (by omega)
  rw [show a &&& 4294967295 = a % 4294967296 from Nat.and_two_pow_sub_one_eq_mod a 32] at h
  exact h
theorem half_cast (a : Nat) : (a : Int) / 4294967296 = ((a / 4294967296 : Nat) : Int) := by omega
theorem wrap_fits (a : Nat) (ha : a < 18446744073709551616) : IntKind.u64.wrap (a : Int) = (a : Int) := by rw [IntKind.wrap_u64]; omega
theorem wrap_low (a : Nat) : IntKind.u64.wrap (a : Int) = ((a % 18446744073709551616 : Nat) : Int) := by rw [IntKind.wrap_u64]; omega
/-- The end of a call that gives two numbers, and leaves the world alone. -/
def OutP (w : World) (a b : Nat) (e : Ending) (w' : World) : Prop := e = .returned (.tuple #[.int .u64 (a : Int), .int .u64 (b : Int)]) ∧ w = w'
set_option maxHeartbeats 1000000 in
theorem mul64_any (x y : Nat) (w : World) (hx : x < 18446744073709551616) (hy : y < 18446744073709551616) :
    Calls Tryz.prog 206 #[.int .u64 x, .int .u64 y] w (OutP w (x * y / 18446744073709551616) (x * y % 18446744073709551616)) := by
  obtain ⟨b1, b2, b3, hh⟩ := Lib.mul64_hi x y hx hy
  have m1 := Lib.half_mul_le (a := x / 4294967296) (b := y / 4294967296) (by omega) (by omega)
  have m2 := Lib.half_mul_le (a := x / 4294967296) (b := y % 4294967296) (by omega) (by omega)
  have m3 := Lib.half_mul_le (a := x % 4294967296) (b := y / 4294967296) (by omega) (by omega)
  have n1 : x / 4294967296 * (y / 4294967296) < 18446744073709551616 := by omega
  have n2 : x / 4294967296 * (y % 4294967296) < 18446744073709551616 := by omega
  have n3 : x % 4294967296 * (y / 4294967296) < 18446744073709551616 := by omega
  have n4 : x / 4294967296 * (y / 4294967296) + (x / 4294967296 * (y % 4294967296) + x % 4294967296 * (y % 4294967296) / 4294967296) / 4294967296 < 18446744073709551616 := by omega
  have n5 : x / 4294967296 * (y / 4294967296) + (x / 4294967296 * (y % 4294967296) + x % 4294967296 * (y % 4294967296) / 4294967296) / 4294967296 + ((x / 4294967296 * (y % 4294967296) + x % 4294967296 * (y % 4294967296) / 4294967296) % 4294967296 + x % 4294967296 * (y / 4294967296)) / 4294967296 < 18446744073709551616 := by omega
  go_enter Tryz.func206, Tryz.ntmps206
  go_wp2
  simp only [and_low x hx, and_low y hy, half_cast, ← Int.natCast_mul, ← Int.natCast_add, wrap_fits _ b1, wrap_fits _ n2, wrap_fits _ b2, and_low _ b2, wrap_fits _ n3, wrap_fits _ b3, wrap_fits _ n1, wrap_fits _ n4, wrap_fits _ n5, wrap_low (x * y)]
  rw [hh]
  go_ret2
  exact ⟨rfl, rfl⟩
end Go.Proofs.YtehekjlakegkpaaGreat
end
