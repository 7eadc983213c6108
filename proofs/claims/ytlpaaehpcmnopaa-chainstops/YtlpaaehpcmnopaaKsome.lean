/-
  The law's own function some: how many members of a chain of numbers come, until so many have. The conditions stand in each theorem.
-/
import Derived.Test.YtlpaaehpcmnopaaKalli
import Derived.RangeFuncBox
namespace Go.Proofs.Ytlpaaehpcmnopaa
open Go.RowKit Go.Shelf
set_option linter.unusedVariables false
attribute [local go_sem] Oper.semAt_some

set_option maxRecDepth 100000 in
set_option maxHeartbeats 2000000 in
theorem some_any (s : ChS Int) (n : Nat) (w : World) (hc : Gdi w s) (hlen : s.hs.length ≤ 1000) (hn : n ≤ 1000) :
    Calls Try.prog 20 #[.pointer (some ⟨s.C, 0, none⟩), .int .i64 n] w fun e w' => e = .returned (.int .i64 (min s.hs.length n : Nat)) ∧ Below w.heap.size w w' := by
  refine (callsIn_wide (n := 3)).1 ?_
  refine callsIn_of_wp_marks Try.func20 rfl trivial ?_ rfl
  simp only [Try.ntmps20, List.size_toArray, List.length_cons, List.length_nil, Nat.reduceAdd, Nat.reduceSub, Array.replicate_succ, Array.replicate_zero, List.push_toArray, List.append_toArray, List.nil_append, List.cons_append]
  gi_wp2_with fail
  refine ⟨trivial, ?_⟩
  refine (callsIn_wide.2 (All_anyi _ _)).mono ?_
  rintro e w' ⟨rfl, rfl⟩
  gi_wp2_with fail
  have b0 := Boxed.new w 3 (.int .i64 n)
  have b1 := Boxed.new (w.alloc (.cells #[.int .i64 n] 3)) 3 (.int .i64 0)
  have b2 := Boxed.new ((w.alloc (.cells #[.int .i64 n] 3)).alloc (.cells #[.int .i64 0] 3)) 3 (.int .i64 0)
  have bN := Boxed.new (((w.alloc (.cells #[.int .i64 n] 3)).alloc (.cells #[.int .i64 0] 3)).alloc (.cells #[.int .i64 0] 3)) 24 (.pointer (some ⟨s.C, 0, none⟩))
  simp only [World.size_alloc] at b1 b2 bN
  have hB0 : Below w.heap.size w ((((w.alloc (.cells #[.int .i64 n] 3)).alloc (.cells #[.int .i64 0] 3)).alloc (.cells #[.int .i64 0] 3)).alloc (.cells #[.pointer (some ⟨s.C, 0, none⟩)] 24)) := ((((Below.refl _ w).alloc (Nat.le_refl _) _).alloc (by simp) _).alloc (by simp; omega) _).alloc (by simp; omega) _
  have hft : ∀ b, s.foot b → b < w.heap.size := fun b hb => hc.ch.lt hb
  have hc0 := hc.below hB0 hft
  refine wpIn_rangeFunc_ownG rfl (by omega) (gf := 50) (lb := #[.pointer (some ⟨w.heap.size + 1 + 1 + 1, 0, none⟩)]) rfl trivial (enters_of Try.func50 (by kernel_rfl) rfl)
    (All_stopsi 2 (w.heap.size + 1 + 1 + 1) w.heap.size s _ (by simp) (by simp; omega) bN.cell hc0 hft (by omega)) belowK_t (belowK_b (by simp; omega)) (Below.refl _ _) (fun _ => rfl)
    (fun pre W => (Boxed W w.heap.size 3 (.int .i64 n) ∧ Boxed W (w.heap.size + 1) 3 (.int .i64 0) ∧ Boxed W (w.heap.size + 1 + 1) 3 (.int .i64 (pre.length : Int))) ∧ pre.length ≤ n ∧ Below w.heap.size w W)
    (fun c pre W => Boxed W (w.heap.size + 1) 3 (.int .i64 n) ∧ (c = .ret ∧ pre.length = n + 1) ∧ Below w.heap.size w W)
    (OwnFrom.and (OwnFrom.and ((boxed_own _ _ (fun _ => _)).from _) (OwnFrom.and ((boxed_own _ _ (fun _ => _)).from _) ((boxed_own _ _ (fun pre : List (Int × Int) => .int .i64 (pre.length : Int))).from _))) (OwnFrom.and (ownFrom_pure _ _) (ownFrom_below (Nat.le_refl _) (by simp; omega))))
    (fun c => OwnFrom.and ((boxed_own _ _ (fun _ => _)).from _) (OwnFrom.and (ownFrom_pure _ _) (ownFrom_below (Nat.le_refl _) (by simp; omega))))
    ⟨⟨((b0.alloc _).alloc _).alloc _, (b1.alloc _).alloc _, b2.alloc _⟩, Nat.zero_le _, hB0⟩
    (fun x => { tmps := #[.pointer (some ⟨s.C, 0, none⟩), .int .i64 n, undef, .pointer (some ⟨w.heap.size, 0, none⟩), .pointer (some ⟨w.heap.size + 1, 0, none⟩), .pointer (some ⟨w.heap.size + 1 + 1, 0, none⟩), .pointer (some ⟨s.C, 0, none⟩), Value.func (.func 50) #[] #[.pointer (some ⟨w.heap.size + 1 + 1 + 1, 0, none⟩)], .int .i64 x.1, .int .i64 x.2, undef, undef, undef, undef, undef, undef, undef], defers := [] }) ?assign ?body ?done ?stop
  case assign =>
    intro l x W K hK
    gi_wp2
    simpa using hK
  case body =>
    rintro l pre x W ⟨⟨h0, h1, h2⟩, hle, hB⟩ hlt
    have c0 := h0.cell
    have c1 := h1.cell
    have c2 := h2.cell
    have f1 := h1.frozen
    have f2 := h2.frozen
    have HN := Lib.hid hle
    by_cases he : pre.length = n
    · have hq : ((pre.length : Int) == (n : Int)) = true := by simp [he]
      have HE := Lib.hid he
      clear he hle
      gi_wp2
      refine ⟨(KeepsOthers.setCell _ _ _).from _, ?_, ⟨rfl, by simp [HE.out]⟩, hB.setCell (p := ⟨w.heap.size + 1, 0, none⟩) (by simp) _⟩
      have := h1.set (.int .i64 n)
      rwa [← HE.out] at this ⊢
    · have hq : ((pre.length : Int) == (n : Int)) = false := by simp; omega
      have HE := Lib.hid he
      have hwr : IntKind.i64.wrap ((pre.length : Int) + 1) = (pre.length : Int) + 1 := IntWalk.i64_in _ (by omega)
      clear he hle
      gi_wp2
      refine ⟨(KeepsOthers.setCell _ _ _).from _, (Below.refl _ W).setCell (p := ⟨w.heap.size + 1 + 1, 0, none⟩) (by simp; omega) _, ⟨h0.other (by omega) _, h1.other (by omega) _, ?_⟩, ?_, hB.setCell (p := ⟨w.heap.size + 1 + 1, 0, none⟩) (by simp; omega) _⟩
      · have := h2.set (.int .i64 ((pre.length : Int) + 1))
        simpa using this
      · have := HN.out
        have := HE.out
        simp; omega
  case done =>
    rintro D ys W hD rfl ⟨⟨h0, h1, h2⟩, hle, hB⟩ hK
    have c1 := h1.cell
    have c2 := h2.cell
    have f1 := h1.frozen
    gi_wp2
    have hD' : D ≠ w.heap.size + 1 := by simp at hD; omega
    have hK4 : (W.setCell ⟨w.heap.size + 1, 0, none⟩ (.int .i64 (s.row.length : Int))).heap[D]? = some (.deferred (some [])) := (Below.heap_setCell W ⟨w.heap.size + 1, 0, none⟩ _ _ hD').trans hK
    have h5 := h1.set (.int .i64 (s.row.length : Int))
    have hc5 : ((W.setCell ⟨w.heap.size + 1, 0, none⟩ (.int .i64 (s.row.length : Int))).putObj D (.deferred none)).cell? ⟨w.heap.size + 1, 0, none⟩ = some (.int .i64 (s.row.length : Int)) := (World.cell?_of_block (World.putObj_heap_other (k := w.heap.size + 1) (Ne.symm hD'))).trans h5.cell
    refine ⟨by simp, .inl ⟨_, _, rfl, run_takeDeferred hK4, .int .i64 (s.row.length : Int), ?_, ?_, ?_⟩⟩
    · simp [results, Try.f20, go_sem, hc5]
    · rw [row_len] at hle ⊢
      rw [Nat.min_eq_left hle]
    · exact (hB.setCell (p := ⟨w.heap.size + 1, 0, none⟩) (by simp) _).trans (belowK_b (w := w) (Nat.le_refl _) _ D _ _ (by simp at hD; omega) hK4 rfl rfl)
  case stop =>
    rintro D c pre W hD hpre ⟨h1, ⟨rfl, hl⟩, hB⟩ hK
    have c1 := h1.cell
    gi_wp2
    have hD' : D ≠ w.heap.size + 1 := by simp at hD; omega
    have hc5 : (W.putObj D (.deferred none)).cell? ⟨w.heap.size + 1, 0, none⟩ = some (.int .i64 (n : Int)) := (World.cell?_of_block (World.putObj_heap_other (k := w.heap.size + 1) (Ne.symm hD'))).trans c1
    refine ⟨by simp, .inl ⟨_, _, rfl, run_takeDeferred hK, .int .i64 (n : Int), ?_, ?_, ?_⟩⟩
    · simp [results, Try.f20, go_sem, hc5]
    · have h1 := hpre.length_le
      rw [row_len, hl] at h1
      rw [Nat.min_eq_right (by omega)]
    · exact hB.trans (belowK_b (w := w) (Nat.le_refl _) _ D _ _ (by simp at hD; omega) hK rfl rfl)
end Go.Proofs.Ytlpaaehpcmnopaa
