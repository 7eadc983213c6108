/-
  A region that draws its order, in the body of a range over a function: what is shown of it elsewhere holds there, where no call is deferred; and append as one of its steps. The conditions stand in each theorem.
-/
import Derived.Test.YtblclpagfbpamaaVino
import Derived.Shelf.RegionOpen
import Derived.Deep.AppendLies
namespace Go.Proofs.Ytblclpagfbpamaa
open Go.RowKit Go.Shelf
set_option linter.unusedVariables false
attribute [local go_sem] Oper.semAt_some

/-- No operation defers a call. -/
def noDefer (ops : Array Oper) : Bool := ops.toList.all fun o => match o.op with | .defer _ => false | _ => true
theorem noDefer_spec {ops : Array Oper} (h : noDefer ops = true) {i : Nat} {o : Oper} (hi : ops[i]? = some o) (c : Call) : o.op ≠ .defer c := fun e => by
  unfold noDefer at h
  rw [List.all_eq_true] at h
  have hm : o ∈ ops.toList := by
    obtain ⟨hlt, rfl⟩ := Array.getElem?_eq_some_iff.1 hi
    exact Array.getElem_mem_toList hlt
  have := h o hm
  rw [e] at this
  cases this
theorem op_inRound {l n : Nat} {P : Program} {o : Oper} {a : Act} {w : World} {K : Act → World → Prop} {Q : Exit → Act → World → Prop} (hd : ∀ c, o.op ≠ .defer c) (h : o.wpIn Fence.wide n P a w K Q) : o.wpIn (Fence.wide.inRound l) n P a w K Q := by
  refine ⟨h.1, ?_⟩
  have h2 := h.2
  rw [show Fence.wide.round = none from rfl, Oper.semAt_none] at h2
  rw [Fence.inRound_round, Oper.semAt_some l a.eval o hd]
  exact h2
theorem any_inRound {l n : Nat} {P : Program} {md : Region.Mode} {ops : Array Oper} {Q : Exit → Act → World → Prop} (hd : noDefer ops = true) : ∀ (fuel : Nat) (listed : Array Bool) (a : Act) (w : World), wpAnyIn Fence.wide n P md ops Q fuel listed a w → wpAnyIn (Fence.wide.inRound l) n P md ops Q fuel listed a w
  | 0, _, _, _, h => h
  | fuel + 1, listed, a, w, h => by
    refine ⟨h.1, fun i hi => ?_⟩
    have h2 := h.2 i hi
    unfold wpOpIn at h2 ⊢
    cases ho : ops[i]? with
    | none =>
      rw [ho] at h2
      exact any_inRound hd fuel _ _ _ h2
    | some o =>
      rw [ho] at h2
      dsimp only at h2 ⊢
      split
      · rename_i hw
        rw [if_pos hw] at h2
        exact op_inRound (noDefer_spec hd ho) (Oper.wpIn_mono (fun a' w' h3 => any_inRound hd fuel _ a' w' h3) h2)
      · rename_i hw
        rw [if_neg hw] at h2
        exact ⟨h2.1, any_inRound hd fuel _ _ _ h2.2⟩
/-- A region that draws, in a round. -/
theorem region_inRound {l n id : Nat} {ops : Array Oper} {Q : Exit → Act → World → Prop} {a : Act} {w : World} (hd : noDefer ops = true) (h : wpAnyIn Fence.wide n Try.prog .any ops Q ops.size (Array.replicate ops.size false) a w.drew) :
    (Code.region id ops true).wpIn (Fence.wide.inRound l) n Try.prog Q a w := wpIn_region_any (by kernel_rfl) (any_inRound hd _ _ _ _ h)
/-- append of a slice behind a row of the call's own, as a step of a region that draws: where the longer row lies. -/
theorem stepIn_appL {F : Fence} {n' : Nat} {P : Program} (w : World) (sz by_ : Nat) (z : Value) (T : TypeId) {ops : Array Oper} {o : Oper} {a : Act} {K : Act → World → Prop} {Q : Exit → Act → World → Prop} {E : Prop} (hgd : o.guard = none) (s x : Operand) (t : TypeId)
    (ho : o.op = .call { callee := .builtin .append, args := #[s, x], argTypes := #[t, t] })
    (base : Nat) (ht : P.underlying t = some (.slice T)) (hinfo : (P.info? T).map (fun i => (i.zero, i.size, i.bytes)) = some (some z, sz, by_)) (hzs : z.cells.size = sz) (hsz : 0 < sz)
    (A : Option Addr) (b : Addr) (n c m d : Nat) (xs ys : List Value) (hse : a.eval s = .slice A n c) (hxe : a.eval x = .slice (some b) m d) (hm : 0 < m) (hown : w.ownsRow base T sz (.slice A n c) n xs) (hr : Sr sz w (some b) m d ys) (h1 : ∀ u ∈ ys, u.oneCell' = true) (h63 : n + m ≤ maxLen) (hs : (n + m) * by_ ≤ 140737488355328) (hbase : base ≤ w.heap.size)
    (h : ∀ g c' w', w'.ownsRow base T sz (.slice (some ⟨g, 0, none⟩) (n + m) c') (n + m) (xs ++ ys) → w.grownBy w' (Value.slice A n c).ownBlock → ((Value.slice A n c).ownBlock = some g ∨ g = w.heap.size) → K (a.put o.dst (.slice (some ⟨g, 0, none⟩) (n + m) c')) w') :
    if Region.wanted o (yielded ops a.tmps) = true then Oper.wpIn F n' P o a w K Q else E := by
  have hw : Region.wanted o (yielded ops a.tmps) = true := by simp [Region.wanted, hgd]
  rw [if_pos hw]
  obtain ⟨i0, hi, hz0, hz1, hz2⟩ := info_parts hinfo
  obtain ⟨g, c', w', hrun, h2, h3, h4, _⟩ := run_append_lies (P := P) w t o.type base T i0 z sz by_ ht hi hz0 hz1 hz2 hzs hsz (.slice A n c) n xs hown b m d ys hr.len (hr.2.2.2.2 b rfl) h1 hm h63 hs hbase _ rfl
  unfold Oper.wpIn
  refine ⟨?_, ?_⟩
  · simp [Oper.about, ho, resolve, Target.leads, Sem.run_pure]
  · rw [Oper.semAt_plain F _ _ (by rw [ho]; intro c hc'; cases hc')]
    simp only [execOp, ho, resolve, invoke, builtin, Sem.run_bind, Sem.run_pure, Result.andThen_ok, List.map_toArray, List.map_cons, List.map_nil, hse, hxe, hrun]
    exact h g c' w' h2 h3 h4
/-- .. and at the operation, in a region that does not draw. -/
theorem wpListIn_appL {F : Fence} {n' : Nat} {P : Program} (w : World) (sz by_ : Nat) (z : Value) (T : TypeId) {ops : Array Oper} {rest : List Oper} {o : Oper} {a : Act} {Q : Exit → Act → World → Prop} (hgd : o.guard = none) (s x : Operand) (t : TypeId)
    (ho : o.op = .call { callee := .builtin .append, args := #[s, x], argTypes := #[t, t] })
    (base : Nat) (ht : P.underlying t = some (.slice T)) (hinfo : (P.info? T).map (fun i => (i.zero, i.size, i.bytes)) = some (some z, sz, by_)) (hzs : z.cells.size = sz) (hsz : 0 < sz)
    (A : Option Addr) (b : Addr) (n c m d : Nat) (xs ys : List Value) (hse : a.eval s = .slice A n c) (hxe : a.eval x = .slice (some b) m d) (hm : 0 < m) (hown : w.ownsRow base T sz (.slice A n c) n xs) (hr : Sr sz w (some b) m d ys) (h1 : ∀ u ∈ ys, u.oneCell' = true) (h63 : n + m ≤ maxLen) (hs : (n + m) * by_ ≤ 140737488355328) (hbase : base ≤ w.heap.size)
    (h : ∀ g c' w', w'.ownsRow base T sz (.slice (some ⟨g, 0, none⟩) (n + m) c') (n + m) (xs ++ ys) → w.grownBy w' (Value.slice A n c).ownBlock → ((Value.slice A n c).ownBlock = some g ∨ g = w.heap.size) → wpListIn F n' P ops Q rest (a.put o.dst (.slice (some ⟨g, 0, none⟩) (n + m) c')) w') :
    wpListIn F n' P ops Q (o :: rest) a w := by
  refine wpListIn_plain hgd fun K hK => ?_
  obtain ⟨i0, hi, hz0, hz1, hz2⟩ := info_parts hinfo
  obtain ⟨g, c', w', hrun, h2, h3, h4, _⟩ := run_append_lies (P := P) w t o.type base T i0 z sz by_ ht hi hz0 hz1 hz2 hzs hsz (.slice A n c) n xs hown b m d ys hr.len (hr.2.2.2.2 b rfl) h1 hm h63 hs hbase _ rfl
  unfold Oper.wpIn
  refine ⟨?_, ?_⟩
  · simp [Oper.about, ho, resolve, Target.leads, Sem.run_pure]
  · rw [Oper.semAt_plain F _ _ (by rw [ho]; intro c hc'; cases hc')]
    simp only [execOp, ho, resolve, invoke, builtin, Sem.run_bind, Sem.run_pure, Result.andThen_ok, List.map_toArray, List.map_cons, List.map_nil, hse, hxe, hrun]
    exact hK _ _ (h g c' w' h2 h3 h4)
end Go.Proofs.Ytblclpagfbpamaa
