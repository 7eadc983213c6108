/-
  The law's own some: how many are gone through, till so many were. The conditions stand in each theorem.
-/
import Derived.Test.YtblclpagfbpamaaVsome
namespace Go.Proofs.Ytblclpagfbpamaa
open Go.RowKit Go.Shelf
set_option linter.unusedVariables false
attribute [local go_sem] Oper.semAt_some

theorem res_some {tmps : Array Value} {W : World} {g : Nat} {x : Value} (hb : Boxed W g 3 x) (h4 : tmps.getD 4 undef = .pointer (some ⟨g, 0, none⟩)) : (results Try.f27 tmps).run Try.prog W = .ok x W := by
  have hc := hb.cell
  have h4' : tmps[4]?.getD undef = .pointer (some ⟨g, 0, none⟩) := by simpa using h4
  simp [results, h4', asAddr, loadVar, hc, go_sem]

/-- What some says between two rounds. -/
structure SomI (w : World) (n : Nat) (K : Nat → Prop) (pre : List Vt) (W : World) : Prop where
  bn : Boxed W w.heap.size 3 (.int .i64 (n : Nat))
  br : Boxed W (w.heap.size + 1) 3 (.int .i64 0)
  bk : Boxed W (w.heap.size + 2) 3 (.int .i64 (pre.length : Nat))
  le : pre.length ≤ n
  k1 : ¬ K (w.heap.size + 1)
  k2 : ¬ K (w.heap.size + 2)
  bel : Below w.heap.size w W
theorem SomI.abi {w : World} {n C : Nat} (hC : w.heap.size ≤ C) : Abi C (SomI w n) := by
  have kp : ∀ {W W' : World} {row : Option Nat} {b : Nat} {v : Value}, Boxed W b 3 v → W.grownBy W' row → (∀ r, row = some r → ∃ o : Obj, W.heap[r]? = some o ∧ o.isCells = false) → Boxed W' b 3 v := fun {W W' row b v} h hg hr => h.kept hg (fun e' => by
    obtain ⟨o, ho, hc⟩ := hr _ e'.symm
    rw [show W.heap[b]? = _ from h] at ho; cases ho; cases hc)
  refine ⟨fun K pre W W' row h hg hr => ?_, fun K pre W W' h hg => ?_⟩
  · exact ⟨kp h.bn hg (fun r e => (hr r e).2), kp h.br hg (fun r e => (hr r e).2), kp h.bk hg (fun r e => (hr r e).2), h.le, h.k1, h.k2, h.bel.grown hg h.bel.size (fun k e => Nat.le_trans hC (hr k e).1)⟩
  · have l1 := h.br.lt
    have l2 := h.bk.lt
    exact ⟨kp h.bn hg (fun r e => by cases e), kp h.br hg (fun r e => by cases e), kp h.bk hg (fun r e => by cases e), h.le, fun hk => hk.elim h.k1 (fun hh => by omega), fun hk => hk.elim h.k2 (fun hh => by omega), h.bel.grown hg h.bel.size (fun k e => by cases e)⟩

set_option maxRecDepth 100000 in
set_option maxHeartbeats 4000000 in
theorem lsome_of (p : Option Addr) (w : World) (L : List Vt) (n : Nat) (hn : n ≤ 1000000) (hl : L.length ≤ 1000000)
    (hq : ∀ (Bv : Nat) (K0 : Nat → Prop) (W : World), Below w.heap.size w W → Bv < W.heap.size → W.cell? ⟨Bv, 0, none⟩ = some (.pointer p) → SeqU 54 #[.pointer (some ⟨Bv, 0, none⟩)] (fun x : Vt => #[Value.int .i64 x.id, .int .u64 (x.st : Nat)]) K0 (fun pre x _ => pre ++ [x] <+: L) (fun ys _ => ys = L) (fun pre => pre <+: L) W) :
    Calls Try.prog 27 #[.pointer p, .int .i64 (n : Nat)] w fun e w' => e = .returned (.int .i64 (min n L.length : Nat)) ∧ Below w.heap.size w w' := by
  obtain ⟨W0, hW0⟩ : ∃ W0, W0 = ((w.alloc (.cells #[.int .i64 (n : Nat)] 3)).alloc (.cells #[.int .i64 0] 3)).alloc (.cells #[.int .i64 0] 3) := ⟨_, rfl⟩
  obtain ⟨W1, hW1⟩ : ∃ W1, W1 = W0.alloc (.cells #[.pointer p] 25) := ⟨_, rfl⟩
  have b0 : Below w.heap.size w W0 := by rw [hW0]; exact (((Below.refl _ w).alloc (Nat.le_refl _) _).alloc (by simp) _).alloc (by simp; omega) _
  have z0 : W0.heap.size = w.heap.size + 3 := by rw [hW0]; simp
  have b1 : Below w.heap.size w W1 := by rw [hW1]; exact b0.alloc b0.size _
  have z1 : W1.heap.size = w.heap.size + 4 := by rw [hW1, World.size_alloc, z0]
  have bxN : Boxed W1 w.heap.size 3 (.int .i64 (n : Nat)) := by rw [hW1, hW0]; exact (((Boxed.new w _ _).alloc _).alloc _).alloc _
  have bxR : Boxed W1 (w.heap.size + 1) 3 (.int .i64 0) := by
    rw [hW1, hW0]
    have := Boxed.new (w.alloc (.cells #[.int .i64 (n : Nat)] 3)) 3 (.int .i64 0)
    rw [World.size_alloc] at this
    exact (this.alloc _).alloc _
  have bxK : Boxed W1 (w.heap.size + 2) 3 (.int .i64 0) := by
    rw [hW1, hW0]
    have := Boxed.new ((w.alloc (.cells #[.int .i64 (n : Nat)] 3)).alloc (.cells #[.int .i64 0] 3)) 3 (.int .i64 0)
    rw [World.size_alloc, World.size_alloc] at this
    exact this.alloc _
  have bxI : W1.cell? ⟨w.heap.size + 3, 0, none⟩ = some (.pointer p) := by
    rw [hW1, ← z0]; exact (Boxed.new W0 25 _).cell
  have hseq := hq (w.heap.size + 3) (fun k => k ≠ w.heap.size + 1 ∧ k ≠ w.heap.size + 2 ∧ k < W1.heap.size) W1 b1 (by omega) bxI
  have h0 : SomI w n (fun k => k ≠ w.heap.size + 1 ∧ k ≠ w.heap.size + 2 ∧ k < W1.heap.size) [] W1 := ⟨bxN, bxR, bxK, Nat.zero_le _, fun h => h.1 rfl, fun h => h.2.1 rfl, b1⟩
  have hIn := callsIn_wide (n := 8) |>.2 (vall_any p W0)
  rw [← hW1] at hIn
  rw [hW0] at hIn
  have HZ := Lib.hid (And.intro z0 z1)
  clear hW0 hW1 z0 z1 b0 bxN bxR bxK bxI hq b1
  refine (callsIn_wide (n := 9)).1 ?_
  refine callsIn_of_wp_marks Try.func27 rfl trivial ?_ rfl
  simp only [Try.ntmps27, List.size_toArray, List.length_cons, List.length_nil, Nat.reduceAdd, Nat.reduceSub, Array.replicate_succ, Array.replicate_zero, List.push_toArray, List.append_toArray, List.nil_append, List.cons_append]
  gi_wp2_with fail
  refine ⟨trivial, ?_⟩
  refine hIn.mono ?_
  rintro e w3 ⟨rfl, hw3⟩
  rw [hw3]
  clear hIn hw3
  gi_wp2_with fail
  simp only [Nat.add_assoc, Nat.reduceAdd]
  refine range_U (α := Vt) (gf := 54) (lb := #[.pointer (some ⟨w.heap.size + 3, 0, none⟩)]) rfl (enters_of Try.func54 (by kernel_rfl) rfl) hseq (fun k hk => hk.2.2) (fun _ => rfl) (SomI w n) (fun c pre W => c = .ret ∧ Boxed W (w.heap.size + 1) 3 (.int .i64 (n : Nat)) ∧ n < pre.length ∧ Below w.heap.size w W) (SomI.abi (by have := HZ.out.2; omega)) ?own h0
    (fun x => { tmps := #[.pointer p, .int .i64 (n : Nat), undef, .pointer (some ⟨w.heap.size, 0, none⟩), .pointer (some ⟨w.heap.size + 1, 0, none⟩), .pointer (some ⟨w.heap.size + 2, 0, none⟩), .pointer p, .func (.func 54) #[] #[.pointer (some ⟨w.heap.size + 3, 0, none⟩)], .int .i64 x.id, .int .u64 (x.st : Nat), undef, undef, undef, undef, undef, undef, undef], defers := [] }) ?assign (fun pre x W l o o' h _ _ => h) ?body ?done (fun xs W l o h => .inl h) ?stop
  case own =>
    rintro c pre W W' row ⟨rfl, h1, h2, h3⟩ hg hr
    refine ⟨rfl, h1.kept hg (fun e' => ?_), h2, h3.grown hg h3.size (fun k e => by have := (hr k e).1; have := HZ.out.2; omega)⟩
    obtain ⟨o, ho, hc⟩ := (hr _ e'.symm).2
    rw [show W.heap[w.heap.size + 1]? = _ from h1] at ho; cases ho; cases hc
  case assign =>
    intro l x W C hC
    gi_wp2
    go_simp
    exact hC
  case body =>
    rintro l K pre x W hpx hI
    have hple := hpx.length_le
    simp at hple
    have cN := hI.bn.cell
    have cK := hI.bk.cell
    have fK := hI.bk.frozen
    have cR := hI.br.cell
    have fR := hI.br.frozen
    have HI := Lib.hid hI
    by_cases he : pre.length = n
    · have hei : ((pre.length : Nat) : Int) = ((n : Nat) : Int) := by rw [he]
      rw [hei] at cK
      have HE := Lib.hid he
      clear hI he
      gi_wp2
      refine ⟨(KeepsOthers.setCell W _ _).from _, rfl, HI.out.br.set _, ?_, HI.out.bel.setCell (p := ⟨w.heap.size + 1, 0, none⟩) (by simp) _⟩
      simp; have := HE.out; omega
    · have hei : (((pre.length : Nat) : Int) == ((n : Nat) : Int)) = false := by simp; omega
      have HE := Lib.hid he
      clear hI he
      gi_wp2
      have ht : Turns (fun k => ¬ K k) W (W.setCell ⟨w.heap.size + 2, 0, none⟩ (.int .i64 ((pre.length : Nat) + 1))) := Turns.grown (grownBy_setC W _ _) (fun r e => by cases e; exact HI.out.k2)
      refine ⟨(KeepsOthers.setCell W _ _).from _, ht, ?_⟩
      exact ⟨HI.out.bn.other (by omega) _, HI.out.br.other (by omega) _, by simpa using HI.out.bk.set (.int .i64 ((pre.length : Nat) + 1)), by have := HE.out; have := HI.out.le; simp; omega, HI.out.k1, HI.out.k2, HI.out.bel.setCell (p := ⟨w.heap.size + 2, 0, none⟩) (by simp) _⟩
  case done =>
    rintro D K xs W hD rfl hI hK
    have hle := hI.le
    have cK := hI.bk.cell
    have fR := hI.br.frozen
    have cR := hI.br.cell
    have hzz := HZ.out.2
    obtain ⟨W5, hW5⟩ : ∃ W5, W5 = W.setCell ⟨w.heap.size + 1, 0, none⟩ (.int .i64 (xs.length : Nat)) := ⟨_, rfl⟩
    have hK5 : W5.heap[D]? = some (.deferred (some [])) := by rw [hW5]; exact (Below.heap_setCell W _ _ D (by simp; omega)).trans hK
    have hB5 : Boxed (W5.putObj D (.deferred none)) (w.heap.size + 1) 3 (.int .i64 (xs.length : Nat)) := by
      have h5 : Boxed W5 (w.heap.size + 1) 3 (.int .i64 (xs.length : Nat)) := by rw [hW5]; exact hI.br.set _
      exact (World.putObj_heap_other (by omega)).trans h5
    have hb5 : Below w.heap.size w (W5.putObj D (.deferred none)) := by
      have h5 : Below w.heap.size w W5 := by rw [hW5]; exact hI.bel.setCell (p := ⟨w.heap.size + 1, 0, none⟩) (by simp) _
      exact h5.trans (belowK_b (w := w) (Nat.le_refl _) W5 D _ _ (by omega) hK5 rfl rfl)
    have HFIN := Lib.hid (And.intro hW5 (And.intro hK5 (And.intro hB5 (And.intro hb5 hle))))
    clear hI hK hW5 hK5 hB5 hb5 hle
    gi_wp2
    rw [← HFIN.out.1]
    refine ⟨by simp, .inl ⟨_, _, rfl, run_takeDeferred HFIN.out.2.1, _, res_some HFIN.out.2.2.1 rfl, ?_, HFIN.out.2.2.2.1⟩⟩
    rw [Nat.min_eq_right HFIN.out.2.2.2.2]
  case stop =>
    rintro D c pre W hD hpre ⟨rfl, h1, h2, h3⟩ hK
    have hzz := HZ.out.2
    have hple := hpre.length_le
    have hB5 : Boxed (W.putObj D (.deferred none)) (w.heap.size + 1) 3 (.int .i64 (n : Nat)) := (World.putObj_heap_other (by omega)).trans h1
    have hb5 : Below w.heap.size w (W.putObj D (.deferred none)) := h3.trans (belowK_b (w := w) (Nat.le_refl _) W D _ _ (by omega) hK rfl rfl)
    have HFIN := Lib.hid (And.intro hB5 hb5)
    clear h1 h3 hB5 hb5
    gi_wp2
    refine ⟨by simp, .inl ⟨_, _, rfl, run_takeDeferred hK, _, res_some HFIN.out.1 rfl, ?_, HFIN.out.2⟩⟩
    rw [Nat.min_eq_left (by omega)]
end Go.Proofs.Ytblclpagfbpamaa
