/-
  Account of the ledger: what it tells lies in memory of its own. The conditions stand in each theorem.
-/
import Derived.Test.YtahleoidbnlllaaLdel
import Derived.Test.YtahleoidbnlllaaLsix
namespace Go.Proofs.Ytahleoidbnlllaa
open Go.RowKit
set_option linter.unusedVariables false

variable {base : Nat} {w : World} {s : Lm}
/-- What Account answers. -/
def AccTo (w : World) (s : Lm) (i : Int) (e : Ending) (w' : World) : Prop :=
  Below w.heap.size w w' ∧ match s.ab.ac i with
    | none => e = .returned (.tuple #[.agg #[.int .u64 0, .int .u64 0, .int .u64 0, .slice none 0 0], .bool false])
    | some x => ∃ v, e = .returned (.tuple #[.agg #[.int .u64 (x.f : Nat), .int .u64 (x.b : Nat), .int .u64 (x.d : Nat), v], .bool true]) ∧ w'.ownsRow w.heap.size 53 2 v x.ch.length (ccs x.ch)
set_option maxHeartbeats 1600000 in
theorem acc_any (h : Lg TP base w s) (hok : s.ab.ok) (i : Int) :
    Calls Try.prog 26 #[.pointer (some ⟨s.L, 0, none⟩), .int .i64 i] w (AccTo w s i) := by
  have hl := hok.len32
  unfold AccTo
  have bA : Below w.heap.size w (w.alloc (.cells #[.int .u64 0, .int .u64 0, .int .u64 0, .slice none 0 0] 49)) := (Below.refl _ _).alloc (Nat.le_refl _) _
  have hA := h.below bA
  rcases s.cases i with ⟨ha, hi⟩ | ⟨k, x, rfl, hx, ha⟩
  · rw [ha]
    have hf := fnd_no hA hi hl
    clear h hA
    go_enter Try.func26, Try.ntmps26
    go_wp2_with fail
    refine hf.mono ?_
    rintro e w' ⟨rfl, rfl⟩
    go_wp2
    refine bodyPost_ret (v := .tuple #[.agg #[.int .u64 0, .int .u64 0, .int .u64 0, .slice none 0 0], .bool false]) (by simp [results, Try.results26, go_sem]) rfl ?_
    exact ⟨bA, rfl⟩
  · rw [ha]
    obtain ⟨g, cap, hv, hc, hg1, hg2⟩ := h.vform hx
    have hkl := (List.getElem?_eq_some_iff.1 hx).1
    have hf := fnd_yes hA hx hv hl
    obtain ⟨e0, e1, e2, e3, ef⟩ := hA.acell hx hv
    have hco : chOk x.ch := ac_ch hok ha
    have h8 := hco.len
    obtain ⟨A, cc, hxv, _⟩ := own_sc (h.chs k x (fun e => e) hx) (by omega)
    have hB := hA.alloc (.cells #[.int .u64 (x.f : Nat), .int .u64 (x.b : Nat), .int .u64 (x.d : Nat), .slice A x.ch.length cc] 49)
    have bB := bA.alloc (by simp) (.cells #[.int .u64 (x.f : Nat), .int .u64 (x.b : Nat), .int .u64 (x.d : Nat), .slice A x.ch.length cc] 49)
    have kA := (KB.new w 49 #[.int .u64 0, .int .u64 0, .int .u64 0, .slice none 0 0]).alloc (.cells #[.int .u64 (x.f : Nat), .int .u64 (x.b : Nat), .int .u64 (x.d : Nat), .slice A x.ch.length cc] 49)
    have kB := KB.new (w.alloc (.cells #[.int .u64 0, .int .u64 0, .int .u64 0, .slice none 0 0] 49)) 49 #[.int .u64 (x.f : Nat), .int .u64 (x.b : Nat), .int .u64 (x.d : Nat), .slice A x.ch.length cc]
    have hclo := clo_any (hB.chs k x (fun e => e) hx) h8
    obtain ⟨_, _, _, j3, _⟩ := hB.acell hx hv
    rw [hxv] at e3 hclo j3
    have HF := Lib.hid hf
    have HCL := Lib.hid hclo
    have BB := Lib.hid bB
    have KA := Lib.hid kA
    have KBB := Lib.hid kB
    clear h hA hxv ha hf hclo hB bB kA kB ef
    go_enter Try.func26, Try.ntmps26
    go_wp2_with fail
    refine HF.out.mono ?_
    rintro e w' ⟨rfl, rfl⟩
    go_wp2_with fail
    generalize hw0 : ((w.alloc (.cells #[.int .u64 0, .int .u64 0, .int .u64 0, .slice none 0 0] 49)).alloc (.cells #[.int .u64 (x.f : Nat), .int .u64 (x.b : Nat), .int .u64 (x.d : Nat), .slice A x.ch.length cc] 49)) = w0 at HCL BB KA KBB ⊢
    have hs0 : w0.heap.size = w.heap.size + 2 := by rw [← hw0]; simp
    clear hw0 j3 e0 e1 e2 e3 bA
    refine HCL.out.mono ?_
    rintro e w1 ⟨v', rfl, ho, hb⟩
    have kA := KA.out.below hb KA.out.lt
    have kB := KBB.out.below hb KBB.out.lt
    simp only [World.size_alloc] at kB
    obtain ⟨P, q, r, rfl⟩ : ∃ P q r, v' = .slice P q r := by
      rcases own_forms ho with ⟨e, _⟩ | ⟨g', cap', e, _⟩
      · exact ⟨_, _, _, e⟩
      · exact ⟨_, _, _, e⟩
    have b1 := BB.out.trans (hb.mono (by omega))
    have kB' := kB.set 3 (.slice P q r)
    have kA' := kA.far (p := ⟨w.heap.size + 1, 3, none⟩) (by simp) (.slice P q r)
    have z0 := kA'.cell 0
    have z1 := kA'.cell 1
    have z2 := kA'.cell 2
    have z3 := kA'.cell 3
    have zf := kA'.frozen 0
    have zf1 := kA'.frozen 1
    have zf2 := kA'.frozen 2
    have zf3 := kA'.frozen 3
    have y3 := kB.cell 3
    have y3f := kB.frozen 3
    have x0 := kB'.cell 0
    have x1 := kB'.cell 1
    have x2 := kB'.cell 2
    have x3 := kB'.cell 3
    simp at z0 z1 z2 z3 y3 x0 x1 x2 x3
    have HO := Lib.hid ho
    have B1 := Lib.hid b1
    have kF := (((kA'.set 0 (.int .u64 (x.f : Nat))).set 1 (.int .u64 (x.b : Nat))).set 2 (.int .u64 (x.d : Nat))).set 3 (.slice P q r)
    have c0 := kF.cell 0
    have c1 := kF.cell 1
    have c2 := kF.cell 2
    have c3 := kF.cell 3
    simp at c0 c1 c2 c3
    have C0 := Lib.hid c0
    have C1 := Lib.hid c1
    have C2 := Lib.hid c2
    have C3 := Lib.hid c3
    clear ho b1 kA kB kB' kA' hb kF c0 c1 c2 c3
    go_wp2
    have c0 := C0.out
    have c1 := C1.out
    have c2 := C2.out
    have c3 := C3.out
    have hX : ∀ b, b < w0.heap.size → w.heap.size ≤ b → ∀ g', (Value.slice P q r).ownBlock = some g' → g' ≠ b := fun b hb _ g' e he => by
      have := (HO.out.lt g' e).1
      omega
    refine bodyPost_ret (v := .tuple #[.agg #[.int .u64 (x.f : Nat), .int .u64 (x.b : Nat), .int .u64 (x.d : Nat), .slice P q r], .bool true]) (by simp [results, Try.results26, go_sem, c0, c1, c2, c3]) rfl ?_
    refine ⟨((((B1.out.setCell (by simp) _).setCell (by simp) _).setCell (by simp) _).setCell (by simp) _).setCell (by simp) _, .slice P q r, rfl, ?_⟩
    refine own_keep (own_base HO.out (by omega)) (fun g' e => ?_)
    have h1 := hX w.heap.size (by omega) (Nat.le_refl _) g' e
    have h2 := hX (w.heap.size + 1) (by omega) (by omega) g' e
    rw [Below.heap_setCell _ _ _ g' (fun e => h1 e), Below.heap_setCell _ _ _ g' (fun e => h1 e), Below.heap_setCell _ _ _ g' (fun e => h1 e), Below.heap_setCell _ _ _ g' (fun e => h1 e), Below.heap_setCell _ _ _ g' (fun e => h2 e)]
end Go.Proofs.Ytahleoidbnlllaa
