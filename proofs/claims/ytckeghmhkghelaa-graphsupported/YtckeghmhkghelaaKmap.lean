/-
  A map from integers to pointers, as a function from keys to blocks: what a look-up, a store, a delete and len give. For whatever program; the conditions stand in each theorem.
-/
import Derived.Maps.OwnSet
import Derived.Maps.OwnIn
import Derived.Test.YtckeghmhkghelaaKring
namespace Go.Proofs
namespace Ytckeghmhkghelaa
open Go.RowKit Go.Maps
set_option linter.unusedVariables false

/-- How an element reads: a pointer to a block's first place. -/
def chE : Value → Option (DataW Unit × List MemPlace)
  | .pointer none => some (.nil, [])
  | .pointer (some ⟨b, 0, none⟩) => some (.lit (.int .i64 b), [])
  | _ => none
/-- A pointer to a block, or nil. -/
def chP : Option Nat → Value
  | none => .pointer none
  | some b => .pointer (some ⟨b, 0, none⟩)
def chD : Option Nat → DataW Unit
  | none => .nil
  | some b => .lit (.int .i64 b)
theorem chE_P (x : Option Nat) : chE (chP x) = some (chD x, []) := by cases x <;> rfl
theorem chE_inv {v : Value} {x : Option Nat} {ps : List MemPlace} (h : chE v = some (chD x, ps)) : v = chP x := by
  unfold chE at h
  split at h
  · cases x with
    | none => rfl
    | some b => simp [chD] at h
  · cases x with
    | none => simp [chD] at h
    | some b =>
      rename_i b'
      simp only [chD, Option.some.injEq, Prod.mk.injEq, DataW.lit.injEq, Lit.int.injEq, true_and] at h
      have : b' = b := by omega
      subst this; rfl
  · cases h

/-- The map mv holds just the keys that f knows, each with its block; there are n of them. -/
def Mp (P : Program) (k : TypeId) (w : World) (mv : Option Nat) (f : Int → Option Nat) (n : Nat) : Prop :=
  match mv with
  | none => n = 0 ∧ ∀ h, f h = none
  | some m => ∃ D : DataW Unit, w.ownsMap P k chE m n D ∧ Maps.size D = n ∧ (∀ h, Maps.has D (.int .i64 h) = (f h).isSome) ∧ ∀ h, D.atKey (.int .i64 h) .nil = chD (f h)

section
variable {P : Program} {k : TypeId} {w w' : World} {mv : Option Nat} {f : Int → Option Nat} {n : Nat}

theorem Mp.lt {m : Nat} (h : Mp P k w (some m) f n) : m < w.heap.size := by obtain ⟨D, h, _⟩ := h; exact h.lt
theorem Mp.isMap {m : Nat} (h : Mp P k w (some m) f n) : ∃ es c, w.heap[m]? = some (.map es c) := by obtain ⟨D, ⟨es, c, hb, _⟩, _⟩ := h; exact ⟨es, c, hb⟩
theorem Mp.keep (h : Mp P k w mv f n) (hk : ∀ m, mv = some m → w'.heap[m]? = w.heap[m]?) : Mp P k w' mv f n := by
  cases mv with
  | none => exact h
  | some m =>
    obtain ⟨D, ⟨es, c, hb, hr⟩, h2⟩ := h
    exact ⟨D, ⟨es, c, (hk m rfl).trans hb, hr⟩, h2⟩
theorem Mp.congr (h : Mp P k w mv f n) {g : Int → Option Nat} (hg : ∀ x, g x = f x) : Mp P k w mv g n := by
  have : g = f := funext hg
  rw [this]; exact h

/-- 'm[h]'. -/
theorem Mp.look {t e : TypeId} (h : Mp P k w mv f n) (hk : P.underlying k = some (.int .i64)) (ht : P.underlying t = some (.map k e)) (hz : (zeroValue e).run P w = .ok (.pointer none) w) {x : Int} (hx : (Lit.int .i64 x).wf = true) :
    (Instr.lookup t (.map mv) (.int .i64 x) false).run P w = .ok (chP (f x)) w := by
  cases mv with
  | none =>
    rw [h.2 x]
    exact Maps.look_nil false (int_keyed hk) ht hz (keyOf_int_mk hk hx)
  | some m =>
    obtain ⟨D, ho, _, _, hat⟩ := h
    obtain ⟨v, ps, hr, hv⟩ := ho.lookup (int_keyed hk) ht hz (zd := .nil) (zp := []) rfl (keyOf_int_mk hk hx)
    rw [hat x] at hv
    rw [hr, chE_inv hv]
/-- 'len(m)'. -/
theorem Mp.len {t e : TypeId} (h : Mp P k w mv f n) (ht : P.underlying t = some (.map k e)) (ty : TypeId) : (Builtin.len_ #[t] ty #[.map mv]).run P w = .ok (.int .i64 n) w := by
  cases mv with
  | none =>
    obtain ⟨rfl, _⟩ := h
    exact Maps.len_nil ht ty
  | some m =>
    obtain ⟨D, ho, hs, _⟩ := h
    rw [ho.len ht ty, hs]
/-- 'm[h] = p', h a new key. -/
theorem Mp.store {m : Nat} {t e : TypeId} (h : Mp P k w (some m) f n) (hk : P.underlying k = some (.int .i64)) (ht : P.underlying t = some (.map k e)) (hn : n < maxLen) {x : Int} (hx : (Lit.int .i64 x).wf = true) (hf : f x = none) (b : Nat) :
    ∃ w', (Instr.mapUpdate t (.map (some m)) (.int .i64 x) (.pointer (some ⟨b, 0, none⟩))).run P w = .ok () w' ∧ Mp P k w' (some m) (upd f x (some b)) (n + 1) ∧ w.grownBy w' (some m) := by
  obtain ⟨D, ho, hs, hh, hat⟩ := h
  obtain ⟨w', hr, ho', ht'⟩ := ho.store (int_keyed hk) ht hn (keyOf_int_mk hk hx) (chE_P (some b))
  refine ⟨w', hr, ⟨_, ho', ?_, fun y => ?_, fun y => ?_⟩, ht'.grown⟩
  · rw [size_put (ho.tidy (int_keyed hk)), hh x, hf, hs]; rfl
  · by_cases e : y = x
    · subst e; rw [upd_same]; exact has_put_same ho.isMap ((int_keyed hk).key (keyOf_int_mk hk hx)) _
    · rw [upd_other _ _ e, has_put_other (fun h => e (by injection h)), hh y]
  · by_cases e : y = x
    · subst e; rw [upd_same]; exact atKey_put_same ho.isMap ((int_keyed hk).key (keyOf_int_mk hk hx)) _ _
    · rw [upd_other _ _ e, atKey_put_other (fun h => e (by injection h)), hat y]
/-- 'delete(m, h)', h a key. -/
theorem Mp.drop {m : Nat} {t e : TypeId} (h : Mp P k w (some m) f n) (hk : P.underlying k = some (.int .i64)) (ht : P.underlying t = some (.map k e)) {x : Int} (hx : (Lit.int .i64 x).wf = true) {b : Nat} (hf : f x = some b) (ty : TypeId) :
    ∃ w', (Builtin.delete_ #[t, k] ty #[.map (some m), .int .i64 x]).run P w = .ok (.tuple #[]) w' ∧ Mp P k w' (some m) (upd f x none) (n - 1) ∧ w.grownBy w' (some m) := by
  obtain ⟨D, ho, hs, hh, hat⟩ := h
  obtain ⟨w', hr, ho', ht'⟩ := ho.drop (int_keyed hk) ht (keyOf_int_mk hk hx) ty
  have hsz := size_del (k := .int .i64 x) (ho.tidy (int_keyed hk))
  rw [hh x, hf, hs] at hsz
  simp only [Option.isSome_some, if_true] at hsz
  have hsz' : Maps.size (D.del (.int .i64 x)) = n - 1 := by omega
  refine ⟨w', hr, ⟨_, ?_, hsz', fun y => ?_, fun y => ?_⟩, ht'.grown⟩
  · obtain ⟨es, c, hb, F, hsz2, hD⟩ := ho'
    refine ⟨es, c, hb, F, ?_, hD⟩
    rw [hD] at hsz'
    simp [Maps.size, length_sorted] at hsz'
    omega
  · by_cases e : y = x
    · subst e; rw [upd_same]; exact has_del_same
    · rw [upd_other _ _ e, has_del_other (fun h => e (by injection h)), hh y]
  · by_cases e : y = x
    · subst e; rw [upd_same]; exact atKey_del_same _
    · rw [upd_other _ _ e, atKey_del_other (fun h => e (by injection h)), hat y]
/-- 'make(map[int]*T)'. -/
theorem Mp.made (P : Program) (k : TypeId) (w : World) : Mp P k (w.alloc (.map #[] 0)) (some w.heap.size) (fun _ => none) 0 :=
  ⟨.map [], World.ownsMap_made w P k chE, rfl, fun _ => rfl, fun _ => rfl⟩

/-! The store, at the operation. -/
theorem wpList_chStore {ops : Array Oper} {rest : List Oper} {o : Oper} {a : Act} {Q : Exit → Act → World → Prop} (hg : o.guard = none) (mo xo vo : Operand) (t : TypeId) (hop : o.op = Op.mapUpdate t mo xo vo)
    {m : Nat} {e : TypeId} (h : Mp P k w (some m) f n) (hk : P.underlying k = some (.int .i64)) (ht : P.underlying t = some (.map k e)) (hn : n < maxLen) {x : Int} (hx : (Lit.int .i64 x).wf = true) (hf : f x = none) (b : Nat)
    (hm : a.eval mo = .map (some m)) (hxe : a.eval xo = .int .i64 x) (hv : a.eval vo = .pointer (some ⟨b, 0, none⟩))
    (hK : ∀ w', Mp P k w' (some m) (upd f x (some b)) (n + 1) → w.grownBy w' (some m) → wpList P ops Q rest (a.put o.dst undef) w') :
    wpList P ops Q (o :: rest) a w := by
  refine wpList_plain hg fun K' hK' => ?_
  obtain ⟨w', hrun, r1, r2⟩ := h.store hk ht hn hx hf b
  unfold Oper.wp
  simp [execOp, hop, hm, hxe, hv, hrun, Result.andThen]
  exact hK' _ _ (hK w' r1 r2)
/-- The delete, at the operation. -/
theorem wpList_chDrop {ops : Array Oper} {rest : List Oper} {o : Oper} {a : Act} {Q : Exit → Act → World → Prop} (hg : o.guard = none) (mo xo : Operand) (t : TypeId) (hop : o.op = Op.call { callee := Callee.builtin Builtin.delete, args := #[mo, xo], argTypes := #[t, k] })
    {m : Nat} {e : TypeId} (h : Mp P k w (some m) f n) (hk : P.underlying k = some (.int .i64)) (ht : P.underlying t = some (.map k e)) {x : Int} (hx : (Lit.int .i64 x).wf = true) {b : Nat} (hf : f x = some b)
    (hm : a.eval mo = .map (some m)) (hxe : a.eval xo = .int .i64 x)
    (hK : ∀ w', Mp P k w' (some m) (upd f x none) (n - 1) → w.grownBy w' (some m) → wpList P ops Q rest (a.put o.dst (.tuple #[])) w') :
    wpList P ops Q (o :: rest) a w := by
  refine wpList_plain hg fun K' hK' => ?_
  obtain ⟨w', hrun, r1, r2⟩ := h.drop hk ht hx hf o.type
  unfold Oper.wp
  simp [execOp, hop, resolve, invoke, builtin, hm, hxe, hrun, Result.andThen]
  exact hK' _ _ (hK w' r1 r2)
end
end Ytckeghmhkghelaa
end Go.Proofs
