/-
  PROVED: the law RatioRules returns true for every three pairs of 64-bit numbers, and what is handed in reads as it did. No condition besides the row's own.
-/
import Derived.Test.YteicihaigkgbnaaRows
import Derived.Test.YteicihaigkgbnaaArg
import Derived.Test.YteicihaigkgbnaaArr2
import Derived.Test.YteicihaigkgbnaaRatioRulesWalk
import Derived.WalkKit
import Derived.ProofKit
import Derived.OpenShut
import Derived.ShutString
import Derived.ChangeOld
import Derived.Below
import Derived.Lib.SmallJoins
namespace Go.Proofs.Yteicihaigkgbnaa.ratioRules
open Go.ChangeShapes Go.WideShapes Go.ChangeAt Go.RowKit
open Go.ChangeMaps (open_string shut_string)
set_option linter.unusedVariables false

theorem own : ownKnob Try.prog.godebug = none := by kernel_rfl
theorem laidOut : laidOutB Try.prog = true := by kernel_rfl

def IsRow (k : IntKind) (w : World) (a : Option Addr) (len cap : Nat) (zs : List Int) : Prop :=
  (a = none ∧ len = 0 ∧ cap = 0 ∧ zs = []) ∨
  ∃ x, a = some x ∧ len ≤ cap ∧ cap ≤ maxLen ∧ zs.length = cap ∧ (∀ i, i < zs.length → w.cell? (x.add i) = some (.int k (zs.getD i 0))) ∧ ∀ n ∈ zs, (Lit.int k n).wf = true

theorem walk (p0 q0 : Int) (p1 q1 : Int) (p2 q2 : Int) (w : World) (w0 : (Lit.int .u64 p0).wf = true) (x0 : (Lit.int .u64 q0).wf = true) (w1 : (Lit.int .u64 p1).wf = true) (x1 : (Lit.int .u64 q1).wf = true) (w2 : (Lit.int .u64 p2).wf = true) (x2 : (Lit.int .u64 q2).wf = true) :
    Calls Try.prog 7 #[.agg #[.int .u64 p0, .int .u64 q0], .agg #[.int .u64 p1, .int .u64 q1], .agg #[.int .u64 p2, .int .u64 q2]] w fun e w' => e = .returned (.bool true) ∧ Below w.heap.size w w' := by
  have g0 := bounds_u64 w0
  have g1 := bounds_u64 x0
  have g2 := bounds_u64 w1
  have g3 := bounds_u64 x1
  have g4 := bounds_u64 w2
  have g5 := bounds_u64 x2
  obtain ⟨a0, rfl⟩ := Int.eq_ofNat_of_zero_le g0.1
  obtain ⟨a1, rfl⟩ := Int.eq_ofNat_of_zero_le g1.1
  obtain ⟨b0, rfl⟩ := Int.eq_ofNat_of_zero_le g2.1
  obtain ⟨b1, rfl⟩ := Int.eq_ofNat_of_zero_le g3.1
  obtain ⟨c0, rfl⟩ := Int.eq_ofNat_of_zero_le g4.1
  obtain ⟨c1, rfl⟩ := Int.eq_ofNat_of_zero_le g5.1
  exact rrules_walk a0 a1 b0 b1 c0 c1 w (by omega) (by omega) (by omega) (by omega) (by omega) (by omega)

set_option maxRecDepth 100000 in
theorem lifted (os : Os) (started : os.Started) (H : Type) (enc : TypeId × Value → H) :
    ReturnsInHanded {} Try.checked os 7 .any (Rows.ratioRulesSpec.pre6 enc Try.prog Try.f7 Rows.ratioRulesRow.domain false) (Rows.ratioRulesSpec.post enc Try.prog Try.f7 false true false false) := by
  refine returnsInHanded_of_change (C := Try.checked) own started (by kernel_rfl) Try.func7
    (ChangeSpec.witness6 (enc := enc) (C := Try.checked) false ⟨#[], #[.agg #[.int .u64 0, .int .u64 0], .agg #[.int .u64 0, .int .u64 0], .agg #[.int .u64 0, .int .u64 0]], []⟩ 8 (by kernel_rfl) (by kernel_rfl) (by kernel_rfl) (by kernel_rfl)) ?_
  intro W base args ds gs before hval0 hW hcnd _
  have hval : ∀ (j : Nat) t v, Try.f7.params[j]? = some t → args[j]? = some v → Value.okWide Try.prog W .any base t v := hval0
  have hW' := hW
  obtain ⟨p, q, hA0, hV, rfl, hfz, hnd⟩ := hW
  have hA : DataW.TrodAll enc Try.prog W 0 (fun _ => true) true Try.f7.params.toList args.toList ds p := hA0
  rw [Try.params7] at hA hval
  obtain ⟨v0, vs0, d0, ds0, p0', q0', hargs, rfl, rfl, h0, r0⟩ := trodAll_cons hA
  obtain ⟨v1, vs1, d1, ds1, p1', q1', rfl, rfl, rfl, h1, r1⟩ := trodAll_cons r0
  obtain ⟨v2, vs2, d2, ds2, p2', q2', rfl, rfl, rfl, h2, r2⟩ := trodAll_cons r1
  obtain ⟨rfl, rfl, rfl⟩ := trodAll_nil r2
  obtain rfl : args = #[v0, v1, v2] := by cases args; simp_all
  obtain ⟨rfl, rfl⟩ := trodVars_none hV
  have k0 := h0
  have lt0 : ∀ x ∈ p0', x.block < W.heap.size := by obtain ⟨m, hm⟩ := k0; exact DataW.trod_lt m _ _ _ hm
  obtain ⟨p0, q0, rfl, w0, x0⟩ := open_arr2 Try.underlying57 Try.underlying26 (by kernel_rfl) (by kernel_rfl) (hval 0 57 v0 rfl rfl) h0
  have k1 := h1
  have lt1 : ∀ x ∈ p1', x.block < W.heap.size := by obtain ⟨m, hm⟩ := k1; exact DataW.trod_lt m _ _ _ hm
  obtain ⟨p1, q1, rfl, w1, x1⟩ := open_arr2 Try.underlying57 Try.underlying26 (by kernel_rfl) (by kernel_rfl) (hval 1 57 v1 rfl rfl) h1
  have k2 := h2
  have lt2 : ∀ x ∈ p2', x.block < W.heap.size := by obtain ⟨m, hm⟩ := k2; exact DataW.trod_lt m _ _ _ hm
  obtain ⟨p2, q2, rfl, w2, x2⟩ := open_arr2 Try.underlying57 Try.underlying26 (by kernel_rfl) (by kernel_rfl) (hval 2 57 v2 rfl rfl) h2
  clear hA0 hval0
  refine (walk p0 q0 p1 q1 p2 q2 W w0 x0 w1 x1 w2 x2).mono fun e W' ⟨he, bel⟩ => ?_
  subst he
  exact ⟨_, rfl, _, _, _, [], _, [], hW', trodAll_mk1 (shut_bool Try.underlying4 _), (trodAll_cons_mk (Below.trod laidOut (by kernel_rfl) (of_decide_eq_true (by kernel_rfl)) k0 bel lt0) (trodAll_cons_mk (Below.trod laidOut (by kernel_rfl) (of_decide_eq_true (by kernel_rfl)) k1 bel lt1) (trodAll_cons_mk (Below.trod laidOut (by kernel_rfl) (of_decide_eq_true (by kernel_rfl)) k2 bel lt2) trodAll_mk0))), rfl, bel.frame _, fun h => by cases h⟩

theorem over : Rows.ratioRulesRow.holds Try.pinned (OpenSpec.ofChange Rows.ratioRulesSpec) :=
  OpenClaim.holds_of_wide 7 Try.f7 rfl rfl rfl rfl rfl rfl rfl ⟨rfl, rfl, rfl, rfl, rfl⟩ rfl rfl rfl rfl rfl (by kernel_rfl) Try.func7 (by kernel_rfl)
    (of_decide_eq_true (by kernel_rfl)) (by unfold Func.isWrapper; first | (rw [if_pos (by decide +kernel)]; kernel_rfl) | (rw [if_neg (by decide +kernel)]; exact ⟨rfl, rfl⟩))
    (fun os started H enc _ => lifted os started H enc)

theorem proved : Rows.RatioRulesSaid := over
end Go.Proofs.Yteicihaigkgbnaa.ratioRules
namespace Go.Proofs.Yteicihaigkgbnaa
theorem ratioRules_holds : Rows.RatioRulesSaid := ratioRules.proved
#print axioms ratioRules_holds
end Go.Proofs.Yteicihaigkgbnaa
