/-
  A map from integers to bools of which only true is ever stored, as a function from keys to bools: what a look-up, a store and len give. For whatever program; the conditions stand in each theorem.
-/
import Derived.Maps.OwnSet
import Derived.Maps.OwnIn
import Derived.Test.YtgdmmcjhbpklhaaKring
namespace Go.Proofs
namespace Ytgdmmcjhbpklhaa
open Go.RowKit Go.Maps
set_option linter.unusedVariables false

/-- How an element reads. -/
def boE : Value → Option (DataW Unit × List MemPlace)
  | .bool b => some (.lit (.bool b), [])
  | _ => none
theorem boE_inv {v : Value} {x : Bool} {ps : List MemPlace} (h : boE v = some (.lit (.bool x), ps)) : v = .bool x := by
  unfold boE at h
  split at h
  · simp only [Option.some.injEq, Prod.mk.injEq, DataW.lit.injEq, Lit.bool.injEq] at h
    rw [h.1]
  · cases h

/-- The map m holds true at just the keys that f knows; there are n of them. -/
def Mbo (P : Program) (k : TypeId) (w : World) (m : Nat) (f : Int → Bool) (n : Nat) : Prop :=
  ∃ D : DataW Unit, w.ownsMap P k boE m n D ∧ Maps.size D = n ∧ (∀ h, Maps.has D (.int .i64 h) = f h) ∧ ∀ h, D.atKey (.int .i64 h) (.lit (.bool false)) = .lit (.bool (f h))

section
variable {P : Program} {k : TypeId} {w w' : World} {m : Nat} {f : Int → Bool} {n : Nat}

theorem Mbo.lt (h : Mbo P k w m f n) : m < w.heap.size := by obtain ⟨D, h, _⟩ := h; exact h.lt
theorem Mbo.isMap (h : Mbo P k w m f n) : ∃ es c, w.heap[m]? = some (.map es c) := by obtain ⟨D, ⟨es, c, hb, _⟩, _⟩ := h; exact ⟨es, c, hb⟩
theorem Mbo.keep (h : Mbo P k w m f n) (hk : w'.heap[m]? = w.heap[m]?) : Mbo P k w' m f n := by
  obtain ⟨D, ⟨es, c, hb, hr⟩, h2⟩ := h
  exact ⟨D, ⟨es, c, hk.trans hb, hr⟩, h2⟩
theorem Mbo.congr (h : Mbo P k w m f n) {g : Int → Bool} (hg : ∀ x, g x = f x) : Mbo P k w m g n := by
  have : g = f := funext hg
  rw [this]; exact h
/-- 'm[h]'. -/
theorem Mbo.look {t e : TypeId} (h : Mbo P k w m f n) (hk : P.underlying k = some (.int .i64)) (ht : P.underlying t = some (.map k e)) (hz : (zeroValue e).run P w = .ok (.bool false) w) {x : Int} (hx : (Lit.int .i64 x).wf = true) :
    (Instr.lookup t (.map (some m)) (.int .i64 x) false).run P w = .ok (.bool (f x)) w := by
  obtain ⟨D, ho, _, _, hat⟩ := h
  obtain ⟨v, ps, hr, hv⟩ := ho.lookup (int_keyed hk) ht hz (zd := .lit (.bool false)) (zp := []) rfl (keyOf_int_mk hk hx)
  rw [hat x] at hv
  rw [hr, boE_inv hv]
/-- 'len(m)'. -/
theorem Mbo.len {t e : TypeId} (h : Mbo P k w m f n) (ht : P.underlying t = some (.map k e)) (ty : TypeId) : (Builtin.len_ #[t] ty #[.map (some m)]).run P w = .ok (.int .i64 n) w := by
  obtain ⟨D, ho, hs, _⟩ := h
  rw [ho.len ht ty, hs]
/-- 'm[h] = true', h a new key. -/
theorem Mbo.store {t e : TypeId} (h : Mbo P k w m f n) (hk : P.underlying k = some (.int .i64)) (ht : P.underlying t = some (.map k e)) (hn : n < maxLen) {x : Int} (hx : (Lit.int .i64 x).wf = true) (hf : f x = false) :
    ∃ w', (Instr.mapUpdate t (.map (some m)) (.int .i64 x) (.bool true)).run P w = .ok () w' ∧ Mbo P k w' m (upd f x true) (n + 1) ∧ w.grownBy w' (some m) := by
  obtain ⟨D, ho, hs, hh, hat⟩ := h
  obtain ⟨w', hr, ho', ht'⟩ := ho.store (int_keyed hk) ht hn (keyOf_int_mk hk hx) (show boE (.bool true) = some (.lit (.bool true), []) from rfl)
  refine ⟨w', hr, ⟨_, ho', ?_, fun y => ?_, fun y => ?_⟩, ht'.grown⟩
  · rw [size_put (ho.tidy (int_keyed hk)), hh x, hf, hs]; rfl
  · by_cases e : y = x
    · subst e; rw [upd_same]; exact has_put_same ho.isMap ((int_keyed hk).key (keyOf_int_mk hk hx)) _
    · rw [upd_other _ _ e, has_put_other (fun h => e (by injection h)), hh y]
  · by_cases e : y = x
    · subst e; rw [upd_same]; exact atKey_put_same ho.isMap ((int_keyed hk).key (keyOf_int_mk hk hx)) _ _
    · rw [upd_other _ _ e, atKey_put_other (fun h => e (by injection h)), hat y]
/-- 'map[int]bool{}'. -/
theorem Mbo.made (P : Program) (k : TypeId) (w : World) : Mbo P k (w.alloc (.map #[] 0)) w.heap.size (fun _ => false) 0 :=
  ⟨.map [], World.ownsMap_made w P k boE, rfl, fun _ => rfl, fun _ => rfl⟩
/-- The store, at the operation. -/
theorem wpList_boStore {ops : Array Oper} {rest : List Oper} {o : Oper} {a : Act} {Q : Exit → Act → World → Prop} (hg : o.guard = none) (mo xo vo : Operand) (t : TypeId) (hop : o.op = Op.mapUpdate t mo xo vo)
    {e : TypeId} (h : Mbo P k w m f n) (hk : P.underlying k = some (.int .i64)) (ht : P.underlying t = some (.map k e)) (hn : n < maxLen) {x : Int} (hx : (Lit.int .i64 x).wf = true) (hf : f x = false)
    (hm : a.eval mo = .map (some m)) (hxe : a.eval xo = .int .i64 x) (hv : a.eval vo = .bool true)
    (hK : ∀ w', Mbo P k w' m (upd f x true) (n + 1) → w.grownBy w' (some m) → wpList P ops Q rest (a.put o.dst undef) w') :
    wpList P ops Q (o :: rest) a w := by
  refine wpList_plain hg fun K' hK' => ?_
  obtain ⟨w', hrun, r1, r2⟩ := h.store hk ht hn hx hf
  unfold Oper.wp
  simp [execOp, hop, hm, hxe, hv, hrun, Result.andThen]
  exact hK' _ _ (hK w' r1 r2)
end
end Ytgdmmcjhbpklhaa
end Go.Proofs
