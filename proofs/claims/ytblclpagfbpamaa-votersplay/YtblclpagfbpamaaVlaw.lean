/-
  The law's own all: numbers and stakes, in the order of all, in new memory. The conditions stand in each theorem.
-/
import Derived.Test.YtblclpagfbpamaaVall
namespace Go.Proofs.Ytblclpagfbpamaa
open Go.RowKit Go.Shelf
set_option linter.unusedVariables false
attribute [local go_sem] Oper.semAt_some

/-- The reference's rows of numbers and stakes. -/
def vcs (L : List Vt) : List Value := L.flatMap fun x => [.int .i64 x.id, .int .u64 (x.st : Nat), .int .i64 0]
theorem vcs_append (L K : List Vt) : vcs (L ++ K) = vcs L ++ vcs K := by simp [vcs]
theorem vcs_one (L : List Vt) : ∀ u ∈ vcs L, u.oneCell' = true := by
  intro u hu
  simp only [vcs, List.mem_flatMap] at hu
  obtain ⟨x, _, hx⟩ := hu
  simp at hx
  rcases hx with rfl | rfl | rfl <;> rfl
theorem rvInfo : (Try.prog.info? 47).map (fun i => (i.zero, i.size, i.bytes)) = some (some (.agg #[.int .i64 0, .int .u64 0, .int .i64 0]), 3, 24) := by kernel_rfl

/-- What is said between two rounds of a loop that appends. -/
def AppI {α : Type} (B : Nat) (t e : TypeId) (sz : Nat) (len : List α → Nat) (cs : List α → List Value) (w : World) (K : Nat → Prop) (pre : List α) (W : World) : Prop :=
  HoldsU w.heap.size B t e sz K (len pre) (cs pre) W ∧ Below w.heap.size w W
theorem AppI.abi {α : Type} {B : Nat} {t e : TypeId} {sz : Nat} {len : List α → Nat} {cs : List α → List Value} {w : World} {C : Nat} (hC : w.heap.size ≤ C) : Abi C (AppI B t e sz len cs w) :=
  ⟨fun K pre W W' row ⟨h1, h3⟩ hg hr => ⟨h1.turn hg (fun r e => (hr r e).2), h3.grown hg h3.size (fun k e => Nat.le_trans hC (hr k e).1)⟩, fun K pre W W' ⟨h1, h3⟩ hg => ⟨h1.keep hg, h3.grown hg h3.size (fun k e => by cases e)⟩⟩

set_option maxRecDepth 100000 in
set_option maxHeartbeats 2000000 in
theorem lall_of (p : Option Addr) (w : World) (L : List Vt) (hl : L.length ≤ 1000000)
    (hq : ∀ (Bv : Nat) (K0 : Nat → Prop) (W : World), Below w.heap.size w W → Bv < W.heap.size → W.cell? ⟨Bv, 0, none⟩ = some (.pointer p) → SeqU 54 #[.pointer (some ⟨Bv, 0, none⟩)] (fun x : Vt => #[Value.int .i64 x.id, .int .u64 (x.st : Nat)]) K0 (fun pre x _ => pre ++ [x] <+: L) (fun ys _ => ys = L) (fun pre => pre <+: L) W) :
    Calls Try.prog 29 #[.pointer p] w fun e w' => (∃ A c, e = .returned (.slice A L.length c) ∧ w'.ownsRow w.heap.size 47 3 (.slice A L.length c) L.length (vcs L)) ∧ Below w.heap.size w w' := by
  obtain ⟨W0, hW0⟩ : ∃ W0, W0 = w.alloc (.cells #[.slice none 0 0] 31) := ⟨_, rfl⟩
  obtain ⟨W1, hW1⟩ : ∃ W1, W1 = W0.alloc (.cells #[.pointer p] 25) := ⟨_, rfl⟩
  have b0 : Below w.heap.size w W0 := by rw [hW0]; exact (Below.refl _ w).alloc (Nat.le_refl _) _
  have z0 : W0.heap.size = w.heap.size + 1 := by rw [hW0]; simp
  have b1 : Below w.heap.size w W1 := by rw [hW1]; exact b0.alloc b0.size _
  have z1 : W1.heap.size = w.heap.size + 2 := by rw [hW1, World.size_alloc, z0]
  have bxL : Boxed W1 w.heap.size 31 (.slice none 0 0) := by rw [hW1, hW0]; exact (Boxed.new w _ _).alloc _
  have bxI : W1.cell? ⟨w.heap.size + 1, 0, none⟩ = some (.pointer p) := by
    rw [hW1, ← z0]; exact (Boxed.new W0 25 _).cell
  have hseq := hq (w.heap.size + 1) (fun k => k ≠ w.heap.size ∧ k < W1.heap.size) W1 b1 (by omega) bxI
  have h0 : AppI w.heap.size 31 47 3 List.length vcs w (fun k => k ≠ w.heap.size ∧ k < W1.heap.size) [] W1 := ⟨⟨⟨none, 0, bxL, ⟨rfl, .inl ⟨rfl, rfl⟩⟩, fun g e => by cases e⟩, fun hh => hh.1 rfl, fun q hq => hq.2⟩, b1⟩
  have hIn := callsIn_wide (n := 8) |>.2 (vall_any p W0)
  rw [← hW1] at hIn
  rw [hW0] at hIn
  have HZ := Lib.hid (And.intro z0 z1)
  clear hW0 hW1 z0 z1 b0 bxL bxI hq b1
  refine (callsIn_wide (n := 9)).1 ?_
  refine callsIn_of_wp_marks Try.func29 rfl trivial ?_ rfl
  simp only [Try.ntmps29, List.size_toArray, List.length_cons, List.length_nil, Nat.reduceAdd, Nat.reduceSub, Array.replicate_succ, Array.replicate_zero, List.push_toArray, List.append_toArray, List.nil_append, List.cons_append]
  gi_wp2_with fail
  refine ⟨trivial, ?_⟩
  refine hIn.mono ?_
  rintro e w3 ⟨rfl, hw3⟩
  rw [hw3]
  clear hIn hw3
  gi_wp2_with fail
  refine range_U (α := Vt) (gf := 54) (lb := #[.pointer (some ⟨w.heap.size + 1, 0, none⟩)]) rfl (enters_of Try.func54 (by kernel_rfl) rfl) hseq (fun k hk => hk.2) (fun _ => rfl) (AppI w.heap.size 31 47 3 List.length vcs w) (fun _ _ _ => False) (AppI.abi (by have := HZ.out.2; omega)) (fun _ _ _ _ _ hh _ _ => hh) h0
    (fun x => { tmps := #[.pointer p, undef, .slice none 0 0, .pointer (some ⟨w.heap.size, 0, none⟩), .int .i64 x.id, .int .u64 (x.st : Nat), .pointer p, .func (.func 54) #[] #[.pointer (some ⟨w.heap.size + 1, 0, none⟩)], .int .i64 x.id, .int .u64 (x.st : Nat), undef, undef, undef, undef, undef, undef, undef], defers := [] }) ?assign (fun pre x W l o o' h _ _ => h) ?body ?done (fun xs W l o h => .inl h) (fun D c pre W _ _ h _ => h.elim)
  case assign =>
    intro l x W C hC
    gi_wp2
    trace_state
    exact hC
  case body =>
    rintro l K pre x W hpx ⟨⟨⟨A, c, q1, q2, q3⟩, q4, q5⟩, h3⟩
    have hple := hpx.length_le
    simp at hple
    have cL := q1.cell
    have fL := q1.frozen
    have b2 : Below W.heap.size W (W.alloc (.cells #[.int .i64 x.id, .int .u64 (x.st : Nat), .int .i64 0] 47)) := (Below.refl _ W).alloc (Nat.le_refl _) _
    have ho : (W.alloc (.cells #[.int .i64 x.id, .int .u64 (x.st : Nat), .int .i64 0] 47)).ownsRow w.heap.size 47 3 (.slice A pre.length c) pre.length (vcs pre) := own_below q2 b2 (fun g e => (q2.lt g e).2)
    have hsr : Sr 3 (W.alloc (.cells #[.int .i64 x.id, .int .u64 (x.st : Nat), .int .i64 0] 47)) (some ⟨W.heap.size, 0, none⟩) 1 1 (vcs [x]) := by
      have := Sr.new (sz := 3) W 47 #[.int .i64 x.id, .int .u64 (x.st : Nat), .int .i64 0] rfl
      simpa [vcs] using this
    have cL2 : (W.alloc (.cells #[.int .i64 x.id, .int .u64 (x.st : Nat), .int .i64 0] 47)).cell? ⟨w.heap.size, 0, none⟩ = some (.slice A pre.length c) := (World.cell?_alloc_lt W _ ⟨w.heap.size, 0, none⟩ q1.lt).trans cL
    have hbs : w.heap.size ≤ (W.alloc (.cells #[.int .i64 x.id, .int .u64 (x.st : Nat), .int .i64 0] 47)).heap.size := Nat.le_trans h3.size b2.size
    have fin : ∀ g c' w1, w1.ownsRow w.heap.size 47 3 (.slice (some ⟨g, 0, none⟩) (pre.length + 1) c') (pre.length + 1) (vcs pre ++ vcs [x]) → (W.alloc (.cells #[.int .i64 x.id, .int .u64 (x.st : Nat), .int .i64 0] 47)).grownBy w1 (Value.slice A pre.length c).ownBlock → ((Value.slice A pre.length c).ownBlock = some g ∨ g = (W.alloc (.cells #[.int .i64 x.id, .int .u64 (x.st : Nat), .int .i64 0] 47)).heap.size) →
        w1.cell? ⟨w.heap.size, 0, none⟩ = some (.slice A pre.length c) ∧ w1.frozen? ⟨w.heap.size, 0, none⟩ = false ∧ KeepsFrom W1.heap.size W (w1.setCell ⟨w.heap.size, 0, none⟩ (.slice (some ⟨g, 0, none⟩) (pre.length + 1) c')) ∧ Turns (fun k => ¬ K k) W (w1.setCell ⟨w.heap.size, 0, none⟩ (.slice (some ⟨g, 0, none⟩) (pre.length + 1) c')) ∧ AppI w.heap.size 31 47 3 List.length vcs w K (pre ++ [x]) (w1.setCell ⟨w.heap.size, 0, none⟩ (.slice (some ⟨g, 0, none⟩) (pre.length + 1) c')) := fun g c' w1 o1 g1 hw1 => by
      obtain ⟨r1, r2, r3, r4, r5, r6, _⟩ := HoldsU.app (by decide) (Nat.le_refl _) h3.size q1 q2 q3 q4 q5 b2 o1 g1 hw1
      refine ⟨r1, r2, r4.from _, r5, ⟨?_, h3.trans r6⟩⟩
      rw [List.length_append, vcs_append]
      exact r3
    have FN := Lib.hid fin
    have HO := Lib.hid ho
    have HSR := Lib.hid hsr
    clear fin ho hsr b2 q1 q2 q3 q4 q5 h3
    gi_wp2_with (gi_at_builtin; refine wpListIn_appL _ 3 24 _ 47 rfl (.tmp 10) (.tmp 14) 31 rfl w.heap.size Try.underlying31 rvInfo rfl (by decide) A ⟨W.heap.size, 0, none⟩ pre.length c 1 1 (vcs pre) (vcs [x]) (by simp [Act.eval]) (by simp [Act.eval]) (by omega) HO.out HSR.out (vcs_one _) (by unfold maxLen; omega) (by omega) hbs ?_; intro g c' w1 o1 g1 hw1; obtain ⟨z0, zf, z4⟩ := FN.out g c' w1 o1 g1 hw1; have Z4 := Lib.hid z4; clear o1 g1 hw1 z4)
    exact Z4.out
  case done =>
    rintro D K xs W hD rfl ⟨⟨⟨A, c, q1, q2, _⟩, _, _⟩, h3⟩ hK
    have cL := q1.cell
    have hzz := HZ.out.2
    have hfin : (W.putObj D (.deferred none)).ownsRow w.heap.size 47 3 (.slice A xs.length c) xs.length (vcs xs) ∧ Below w.heap.size w (W.putObj D (.deferred none)) :=
      ⟨ownsRow_putObj q2 _ hK rfl, h3.trans (belowK_b (w := w) (Nat.le_refl _) W D _ _ (by omega) hK rfl rfl)⟩
    have HFIN := Lib.hid hfin
    clear q1 q2 h3 hfin hzz
    gi_wp2
    exact ⟨by simp, .inl ⟨_, _, rfl, run_takeDeferred hK, _, results_tmp rfl _ _ _, ⟨A, c, rfl, HFIN.out.1⟩, HFIN.out.2⟩⟩
end Go.Proofs.Ytblclpagfbpamaa
