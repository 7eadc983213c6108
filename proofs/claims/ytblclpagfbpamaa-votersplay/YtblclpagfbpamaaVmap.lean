/-
  A map from integers to structs of three numbers, as a function from keys to these: what a look-up (with and without 'ok'), a store, a delete and len give. For whatever program; the conditions stand in each theorem.
-/
import Derived.Maps.OwnSet
import Derived.Maps.OwnIn
import Derived.Test.YtblclpagfbpamaaKmap
namespace Go.Proofs
namespace Ytblclpagfbpamaa
open Go.RowKit Go.Maps
set_option linter.unusedVariables false

/-- A stake, a bag, a handle. -/
abbrev V3 := Nat × Nat × Int
/-- How an element reads. -/
def voE : Value → Option (DataW Unit × List MemPlace)
  | .agg a => match a.toList with
    | [.int .u64 s, .int .i64 b, .int .i64 h] => some (.agg [.lit (.int .u64 s), .lit (.int .i64 b), .lit (.int .i64 h)], [])
    | _ => none
  | _ => none
/-- Three numbers, or zeros. -/
def voP (x : V3) : Value := .agg #[.int .u64 (x.1 : Nat), .int .i64 (x.2.1 : Nat), .int .i64 x.2.2]
def voD (x : V3) : DataW Unit := .agg [.lit (.int .u64 (x.1 : Nat)), .lit (.int .i64 (x.2.1 : Nat)), .lit (.int .i64 x.2.2)]
def v00 : V3 := (0, 0, 0)
theorem voE_P (x : V3) : voE (voP x) = some (voD x, []) := rfl
theorem voE_inv {v : Value} {x : V3} {ps : List MemPlace} (h : voE v = some (voD x, ps)) : v = voP x := by
  unfold voE at h
  split at h
  · rename_i a
    split at h
    · rename_i s b g e
      simp only [voD, Option.some.injEq, Prod.mk.injEq, DataW.agg.injEq, List.cons.injEq, DataW.lit.injEq, Lit.int.injEq, true_and, and_true] at h
      obtain ⟨⟨h1, h2, h3⟩, _⟩ := h
      unfold voP
      congr 1
      apply Array.ext'
      rw [e, h1, h2, h3]
    · cases h
  · cases h

/-- The map mv holds just the keys that f knows, each with its three numbers; there are n of them. -/
def Mv (P : Program) (k : TypeId) (w : World) (mv : Option Nat) (f : Int → Option V3) (n : Nat) : Prop :=
  match mv with
  | none => n = 0 ∧ ∀ h, f h = none
  | some m => ∃ D : DataW Unit, w.ownsMap P k voE m n D ∧ Maps.size D = n ∧ (∀ h, Maps.has D (.int .i64 h) = (f h).isSome) ∧ ∀ h, D.atKey (.int .i64 h) (voD v00) = voD ((f h).getD v00)

section
variable {P : Program} {k : TypeId} {w w' : World} {mv : Option Nat} {f : Int → Option V3} {n : Nat}

theorem Mv.lt {m : Nat} (h : Mv P k w (some m) f n) : m < w.heap.size := by obtain ⟨D, h, _⟩ := h; exact h.lt
theorem Mv.isMap {m : Nat} (h : Mv P k w (some m) f n) : ∃ es c, w.heap[m]? = some (.map es c) := by obtain ⟨D, ⟨es, c, hb, _⟩, _⟩ := h; exact ⟨es, c, hb⟩
theorem Mv.keep (h : Mv P k w mv f n) (hk : ∀ m, mv = some m → w'.heap[m]? = w.heap[m]?) : Mv P k w' mv f n := by
  cases mv with
  | none => exact h
  | some m =>
    obtain ⟨D, ⟨es, c, hb, hr⟩, h2⟩ := h
    exact ⟨D, ⟨es, c, (hk m rfl).trans hb, hr⟩, h2⟩
theorem Mv.congr (h : Mv P k w mv f n) {g : Int → Option V3} (hg : ∀ x, g x = f x) : Mv P k w mv g n := by
  have : g = f := funext hg
  rw [this]; exact h
/-- 'm[h]'. -/
theorem Mv.look {t e : TypeId} (h : Mv P k w mv f n) (hk : P.underlying k = some (.int .i64)) (ht : P.underlying t = some (.map k e)) (hz : (zeroValue e).run P w = .ok (voP v00) w) {x : Int} (hx : (Lit.int .i64 x).wf = true) :
    (Instr.lookup t (.map mv) (.int .i64 x) false).run P w = .ok (voP ((f x).getD v00)) w := by
  cases mv with
  | none =>
    rw [h.2 x]
    exact Maps.look_nil false (int_keyed hk) ht hz (keyOf_int_mk hk hx)
  | some m =>
    obtain ⟨D, ho, _, _, hat⟩ := h
    obtain ⟨v, ps, hr, hv⟩ := ho.lookup (int_keyed hk) ht hz (voE_P v00) (keyOf_int_mk hk hx)
    rw [hat x] at hv
    rw [hr, voE_inv hv]
/-- 'x, ok := m[h]'. -/
theorem Mv.look2 {t e : TypeId} (h : Mv P k w mv f n) (hk : P.underlying k = some (.int .i64)) (ht : P.underlying t = some (.map k e)) (hz : (zeroValue e).run P w = .ok (voP v00) w) {x : Int} (hx : (Lit.int .i64 x).wf = true) :
    (Instr.lookup t (.map mv) (.int .i64 x) true).run P w = .ok (.tuple #[voP ((f x).getD v00), .bool (f x).isSome]) w := by
  cases mv with
  | none =>
    rw [h.2 x]
    exact Maps.look_nil true (int_keyed hk) ht hz (keyOf_int_mk hk hx)
  | some m =>
    obtain ⟨D, ho, _, hh, hat⟩ := h
    obtain ⟨v, ps, hr, hv⟩ := ho.look_ok (int_keyed hk) ht hz (voE_P v00) (keyOf_int_mk hk hx)
    rw [hat x] at hv
    rw [hr, voE_inv hv, hh x]
/-- 'len(m)'. -/
theorem Mv.len {t e : TypeId} (h : Mv P k w mv f n) (ht : P.underlying t = some (.map k e)) (ty : TypeId) : (Builtin.len_ #[t] ty #[.map mv]).run P w = .ok (.int .i64 n) w := by
  cases mv with
  | none =>
    obtain ⟨rfl, _⟩ := h
    exact Maps.len_nil ht ty
  | some m =>
    obtain ⟨D, ho, hs, _⟩ := h
    rw [ho.len ht ty, hs]
/-- 'm[h] = x'. -/
theorem Mv.store {m : Nat} {t e : TypeId} (h : Mv P k w (some m) f n) (hk : P.underlying k = some (.int .i64)) (ht : P.underlying t = some (.map k e)) (hn : n < maxLen) {x : Int} (hx : (Lit.int .i64 x).wf = true) (v : V3) :
    ∃ w', (Instr.mapUpdate t (.map (some m)) (.int .i64 x) (voP v)).run P w = .ok () w' ∧ Mv P k w' (some m) (upd f x (some v)) (if (f x).isSome then n else n + 1) ∧ w.grownBy w' (some m) := by
  obtain ⟨D, ho, hs, hh, hat⟩ := h
  obtain ⟨w', hr, ho', ht'⟩ := ho.store (int_keyed hk) ht hn (keyOf_int_mk hk hx) (voE_P v)
  have hsz := size_put (k := .int .i64 x) (d := voD v) (ho.tidy (int_keyed hk))
  rw [hh x, hs] at hsz
  have hsz' : Maps.size (D.put (.int .i64 x) (voD v)) = if (f x).isSome then n else n + 1 := hsz
  refine ⟨w', hr, ⟨_, ?_, hsz', fun y => ?_, fun y => ?_⟩, ht'.grown⟩
  · obtain ⟨es, c, hb, F, hsz2, hD⟩ := ho'
    refine ⟨es, c, hb, F, ?_, hD⟩
    rw [hD] at hsz'
    simp [Maps.size, length_sorted] at hsz'
    cases hfx : f x <;> rw [hfx] at hsz' <;> simp at hsz' ⊢ <;> omega
  · by_cases e : y = x
    · subst e; rw [upd_same]; exact has_put_same ho.isMap ((int_keyed hk).key (keyOf_int_mk hk hx)) _
    · rw [upd_other _ _ e, has_put_other (fun h => e (by injection h)), hh y]
  · by_cases e : y = x
    · subst e; rw [upd_same]; exact atKey_put_same ho.isMap ((int_keyed hk).key (keyOf_int_mk hk hx)) _ _
    · rw [upd_other _ _ e, atKey_put_other (fun h => e (by injection h)), hat y]
/-- 'delete(m, h)', h a key. -/
theorem Mv.drop {m : Nat} {t e : TypeId} (h : Mv P k w (some m) f n) (hk : P.underlying k = some (.int .i64)) (ht : P.underlying t = some (.map k e)) {x : Int} (hx : (Lit.int .i64 x).wf = true) {b : V3} (hf : f x = some b) (ty : TypeId) :
    ∃ w', (Builtin.delete_ #[t, k] ty #[.map (some m), .int .i64 x]).run P w = .ok (.tuple #[]) w' ∧ Mv P k w' (some m) (upd f x none) (n - 1) ∧ w.grownBy w' (some m) := by
  obtain ⟨D, ho, hs, hh, hat⟩ := h
  obtain ⟨w', hr, ho', ht'⟩ := ho.drop (int_keyed hk) ht (keyOf_int_mk hk hx) ty
  have hsz := size_del (k := .int .i64 x) (ho.tidy (int_keyed hk))
  rw [hh x, hf, hs] at hsz
  simp only [Option.isSome_some, if_true] at hsz
  have hsz' : Maps.size (D.del (.int .i64 x)) = n - 1 := by omega
  refine ⟨w', hr, ⟨_, ?_, hsz', fun y => ?_, fun y => ?_⟩, ht'.grown⟩
  · obtain ⟨es, c, hb, F, hsz2, hD⟩ := ho'
    refine ⟨es, c, hb, F, ?_, hD⟩
    rw [hD] at hsz'
    simp [Maps.size, length_sorted] at hsz'
    omega
  · by_cases e : y = x
    · subst e; rw [upd_same]; exact has_del_same
    · rw [upd_other _ _ e, has_del_other (fun h => e (by injection h)), hh y]
  · by_cases e : y = x
    · subst e; rw [upd_same]; exact atKey_del_same _
    · rw [upd_other _ _ e, atKey_del_other (fun h => e (by injection h)), hat y]
/-- 'make(map[int]T)'. -/
theorem Mv.made (P : Program) (k : TypeId) (w : World) : Mv P k (w.alloc (.map #[] 0)) (some w.heap.size) (fun _ => none) 0 :=
  ⟨.map [], World.ownsMap_made w P k voE, rfl, fun _ => rfl, fun _ => rfl⟩

/-- The store, at the operation. -/
theorem wpList_voStore {ops : Array Oper} {rest : List Oper} {o : Oper} {a : Act} {Q : Exit → Act → World → Prop} (hg : o.guard = none) (mo xo vo : Operand) (t : TypeId) (hop : o.op = Op.mapUpdate t mo xo vo)
    {m : Nat} {e : TypeId} (h : Mv P k w (some m) f n) (hk : P.underlying k = some (.int .i64)) (ht : P.underlying t = some (.map k e)) (hn : n < maxLen) {x : Int} (hx : (Lit.int .i64 x).wf = true) (b : V3)
    (hm : a.eval mo = .map (some m)) (hxe : a.eval xo = .int .i64 x) (hv : a.eval vo = voP b)
    (hK : ∀ w', Mv P k w' (some m) (upd f x (some b)) (if (f x).isSome then n else n + 1) → w.grownBy w' (some m) → wpList P ops Q rest (a.put o.dst undef) w') :
    wpList P ops Q (o :: rest) a w := by
  refine wpList_plain hg fun K' hK' => ?_
  obtain ⟨w', hrun, r1, r2⟩ := h.store hk ht hn hx b
  unfold Oper.wp
  simp [execOp, hop, hm, hxe, hv, hrun, Result.andThen]
  exact hK' _ _ (hK w' r1 r2)
/-- The delete, at the operation. -/
theorem wpList_voDrop {ops : Array Oper} {rest : List Oper} {o : Oper} {a : Act} {Q : Exit → Act → World → Prop} (hg : o.guard = none) (mo xo : Operand) (t : TypeId) (hop : o.op = Op.call { callee := Callee.builtin Builtin.delete, args := #[mo, xo], argTypes := #[t, k] })
    {m : Nat} {e : TypeId} (h : Mv P k w (some m) f n) (hk : P.underlying k = some (.int .i64)) (ht : P.underlying t = some (.map k e)) {x : Int} (hx : (Lit.int .i64 x).wf = true) {b : V3} (hf : f x = some b)
    (hm : a.eval mo = .map (some m)) (hxe : a.eval xo = .int .i64 x)
    (hK : ∀ w', Mv P k w' (some m) (upd f x none) (n - 1) → w.grownBy w' (some m) → wpList P ops Q rest (a.put o.dst (.tuple #[])) w') :
    wpList P ops Q (o :: rest) a w := by
  refine wpList_plain hg fun K' hK' => ?_
  obtain ⟨w', hrun, r1, r2⟩ := h.drop hk ht hx hf o.type
  unfold Oper.wp
  simp [execOp, hop, resolve, invoke, builtin, hm, hxe, hrun, Result.andThen]
  exact hK' _ _ (hK w' r1 r2)
end
end Ytblclpagfbpamaa
end Go.Proofs
