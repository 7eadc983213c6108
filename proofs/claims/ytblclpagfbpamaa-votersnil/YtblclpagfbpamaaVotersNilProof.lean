/-
  PROVED: for every call the law VotersNil returns true: there are no voters in nil ones, and nothing is done. No conditions.
-/
import Derived.Test.YtblclpagfbpamaaRows
import Derived.Test.YtblclpagfbpamaaVargs
import Derived.Test.YtblclpagfbpamaaBrow
import Derived.Test.YtblclpagfbpamaaVotersNilWalk
import Derived.WalkKit
import Derived.ProofKit
import Derived.OpenShut
import Derived.ShutString
import Derived.ChangeOld
import Derived.Below
import Derived.Lib.SmallJoins
namespace Go.Proofs.Ytblclpagfbpamaa.votersNil
open Go.ChangeShapes Go.WideShapes Go.ChangeAt Go.RowKit
open Go.ChangeMaps (open_string shut_string)
set_option linter.unusedVariables false

theorem own : ownKnob Try.prog.godebug = none := by kernel_rfl
theorem laidOut : laidOutB Try.prog = true := by kernel_rfl

theorem walk (k0 a0 b0 v0 : Int) (w : World) (w0a : (Lit.int .i64 a0).wf = true) (w0b : (Lit.int .i64 b0).wf = true) (w0v : (Lit.int .u64 v0).wf = true) :
    Calls Try.prog 6 #[.agg #[.int .i64 k0, .int .i64 a0, .int .i64 b0, .int .u64 v0]] w fun e w' => e = .returned (.bool true) ∧ Below w.heap.size w w' := by
  have bd := bounds_u64 w0v
  obtain ⟨v, rfl⟩ := Int.eq_ofNat_of_zero_le bd.1
  exact vnil_walk k0 a0 b0 v w0a w

set_option maxRecDepth 100000 in
theorem lifted (os : Os) (started : os.Started) (H : Type) (enc : TypeId × Value → H) :
    ReturnsInHanded {} Try.checked os 6 .any (Rows.votersNilSpec.pre6 enc Try.prog Try.f6 Rows.votersNilRow.domain false) (Rows.votersNilSpec.post enc Try.prog Try.f6 false true false false) := by
  refine returnsInHanded_of_change (C := Try.checked) own started (by kernel_rfl) Try.func6
    (ChangeSpec.witness6 (enc := enc) (C := Try.checked) false ⟨#[], #[.agg #[.int .i64 0, .int .i64 0, .int .i64 0, .int .u64 0]], []⟩ 8 (by kernel_rfl) (by kernel_rfl) (by kernel_rfl) (by kernel_rfl)) ?_
  intro W base args ds gs before hval0 hW hcnd _
  have hval : ∀ (j : Nat) t v, Try.f6.params[j]? = some t → args[j]? = some v → Value.okWide Try.prog W .any base t v := hval0
  have hW' := hW
  obtain ⟨p, q, hA0, hV, rfl, hfz, hnd⟩ := hW
  have hA : DataW.TrodAll enc Try.prog W 0 (fun _ => true) true Try.f6.params.toList args.toList ds p := hA0
  rw [Try.params6] at hA hval
  obtain ⟨x0, vs0, d0, ds0, p0', q0', hargs, rfl, rfl, h0, r0⟩ := trodAll_cons hA
  obtain ⟨rfl, rfl, rfl⟩ := trodAll_nil r0
  obtain rfl : args = #[x0] := by cases args; simp_all
  obtain ⟨rfl, rfl⟩ := trodVars_none hV
  have k_0 := h0
  have lt0 : ∀ x ∈ p0', x.block < W.heap.size := by obtain ⟨m, hm⟩ := k_0; exact DataW.trod_lt m _ _ _ hm
  obtain ⟨e0, e1, e2, e3, y0, y1, y2, y3, u, rfl, _, _, t0, t1, t2, t3⟩ := Go.Joins.open_agg4 Try.underlying36 (by kernel_rfl) (by kernel_rfl) (hval 0 36 x0 rfl rfl) h0
  obtain ⟨k0, hk0, _, _⟩ := DataW.trod_int Try.underlying3 t0
  obtain ⟨a0, ha0, _, w0a⟩ := DataW.trod_int Try.underlying3 t1
  obtain ⟨b0, hb0, _, w0b⟩ := DataW.trod_int Try.underlying3 t2
  obtain ⟨v0, hv0, _, w0v⟩ := DataW.trod_int Try.underlying34 t3
  simp at hk0 ha0 hb0 hv0
  subst hk0 ha0 hb0 hv0
  clear hA0 hval0
  refine (walk k0 a0 b0 v0 W w0a w0b w0v).mono fun e W' ⟨he, bel⟩ => ?_
  subst he
  exact ⟨_, rfl, _, _, _, [], _, [], hW', trodAll_mk1 (shut_bool Try.underlying4 _), (trodAll_cons_mk (Below.trod laidOut (by kernel_rfl) (of_decide_eq_true (by kernel_rfl)) k_0 bel lt0) trodAll_mk0), rfl, bel.frame _, fun h => by cases h⟩

theorem over : Rows.votersNilRow.holds Try.pinned (OpenSpec.ofChange Rows.votersNilSpec) :=
  OpenClaim.holds_of_wide 6 Try.f6 rfl rfl rfl rfl rfl rfl rfl ⟨rfl, rfl, rfl, rfl, rfl⟩ rfl rfl rfl rfl rfl (by kernel_rfl) Try.func6 (by kernel_rfl)
    (of_decide_eq_true (by kernel_rfl)) (by unfold Func.isWrapper; first | (rw [if_pos (by decide +kernel)]; kernel_rfl) | (rw [if_neg (by decide +kernel)]; exact ⟨rfl, rfl⟩))
    (fun os started H enc _ => lifted os started H enc)

theorem proved : Rows.VotersNilSaid := over
end Go.Proofs.Ytblclpagfbpamaa.votersNil
namespace Go.Proofs.Ytblclpagfbpamaa
theorem votersNil_holds : Rows.VotersNilSaid := votersNil.proved
#print axioms votersNil_holds
end Go.Proofs.Ytblclpagfbpamaa
