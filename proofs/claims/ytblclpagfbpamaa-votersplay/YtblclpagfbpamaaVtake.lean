/-
  Take of package voters: the first numbers in the order of all, in new memory; of nil voters too. The conditions stand in each theorem.
-/
import Derived.Test.YtblclpagfbpamaaVlis
namespace Go.Proofs.Ytblclpagfbpamaa
open Go.RowKit Go.Shelf
set_option linter.unusedVariables false
attribute [local go_sem] Oper.semAt_some

/-- Cells of numbers. -/
def ics (xs : List Int) : List Value := xs.map (Value.int .i64)
theorem ics_append (xs ys : List Int) : ics (xs ++ ys) = ics xs ++ ics ys := by simp [ics]
theorem ics_one (xs : List Int) : ∀ u ∈ ics xs, u.oneCell' = true := by
  intro u hu
  obtain ⟨x, _, rfl⟩ := List.mem_map.1 hu
  rfl
theorem ics_len (xs : List Int) : (ics xs).length = xs.length := by simp [ics]
theorem intInfo : (Try.prog.info? 3).map (fun i => (i.zero, i.size, i.bytes)) = some (some (.int .i64 0), 1, 8) := by kernel_rfl
theorem run_make_ints (n : Nat) (h : n ≤ 1000000) (W : World) : ∃ cs : Array Value, cs.size = n * 1 ∧ (Instr.makeSlice 44 (.int .i64 0) (.int .i64 (n : Int))).run Try.prog W = .ok (.slice (some ⟨W.heap.size, 0, none⟩) 0 n) (W.alloc (.cells cs 3)) := by
  obtain ⟨i0, hi, hz0, hz1, hz2⟩ := info_parts intInfo
  have hr := run_make_rowK (P := Try.prog) 44 3 i0 (.int .i64 0) Try.underlying44 hi hz0 .i64 .i64 0 n (Nat.zero_le _) (by rw [hz2]; omega) (by omega) W
  refine ⟨_, ?_, hr⟩
  rw [hz1]
  simp [madeCells]

/-- What Take says between two rounds. -/
def TakI (w : World) (m : Nat) (K : Nat → Prop) (pre : List Vt) (W : World) : Prop :=
  HoldsU w.heap.size (w.heap.size + 2) 44 3 1 K pre.length (ics (pre.map Vt.id)) W ∧ (K w.heap.size ∧ Boxed W w.heap.size 3 (.int .i64 (m : Nat))) ∧ pre.length < m ∧ Below w.heap.size w W
theorem TakI.abi {w : World} {m B : Nat} (hB : w.heap.size ≤ B) : Abi B (TakI w m) := by
  refine ⟨fun K pre W W' row ⟨h1, ⟨h2, h3⟩, h4, h5⟩ hg hr => ⟨h1.turn hg (fun r e => (hr r e).2), ⟨h2, h3.kept hg (fun e' => ?_)⟩, h4, h5.grown hg h5.size (fun k e => Nat.le_trans hB (hr k e).1)⟩, fun K pre W W' ⟨h1, ⟨h2, h3⟩, h4, h5⟩ hg => ⟨h1.keep hg, ⟨.inl h2, h3.kept hg (by simp)⟩, h4, h5.grown hg h5.size (fun k e => by cases e)⟩⟩
  obtain ⟨o, ho, hc⟩ := (hr _ e'.symm).2
  rw [show W.heap[w.heap.size]? = _ from h3] at ho; cases ho; cases hc

set_option maxRecDepth 100000 in
set_option maxHeartbeats 4000000 in
theorem vtake_any {base : Nat} {w : World} {p : Nat} {T : List Nat} {L : List Vt} {G : Nat} (h : VA base w p T L G) (hl : L.length ≤ 1000000) (hG : G < 4611686018427387904) (n : Int) (hn : (Lit.int .i64 n).wf = true) :
    Calls Try.prog 23 #[.pointer (some ⟨p, 0, none⟩), .int .i64 n] w fun e w' => (∃ A c, e = .returned (.slice A (L.take n.toNat).length c) ∧ w'.ownsRow w.heap.size 3 1 (.slice A (L.take n.toNat).length c) (L.take n.toNat).length (ics ((L.take n.toNat).map Vt.id))) ∧ Below w.heap.size w w' := by
  obtain ⟨s, hd, rfl, hs⟩ := h
  obtain ⟨W0, hW0⟩ : ∃ W0, W0 = w.alloc (.cells #[.int .i64 n] 3) := ⟨_, rfl⟩
  have b0 : Below w.heap.size w W0 := by rw [hW0]; exact (Below.refl _ w).alloc (Nat.le_refl _) _
  have z0 : W0.heap.size = w.heap.size + 1 := by rw [hW0]; simp
  have bx0 : Boxed W0 w.heap.size 3 (.int .i64 n) := by rw [hW0]; exact Boxed.new w _ _
  have c0 := bx0.cell
  have f0 := bx0.frozen
  have hva : VA base W0.drew s.p T L G := ⟨s, hd, rfl, (hs.lay.below b0).keep (fun _ _ => rfl), hs.ful, hs.ok, hs.gs⟩
  have hLen := vlen_any hva
  have HS := Lib.hid hs
  refine (callsIn_wide (n := 9)).1 ?_
  refine callsIn_of_wp_marks Try.func23 rfl trivial ?_ rfl
  refine wpIn_wide.2 ?_
  simp only [Try.ntmps23, List.size_toArray, List.length_cons, List.length_nil, Nat.reduceAdd, Nat.reduceSub, Array.replicate_succ, Array.replicate_zero, List.push_toArray, List.append_toArray, List.nil_append, List.cons_append]
  obtain ⟨mm, hmm⟩ : ∃ mm, (if (L.length : Int) < n then (L.length : Int) else n) = mm := ⟨_, rfl⟩
  clear hva hs
  have HW := Lib.hid (And.intro hW0 (And.intro b0 (And.intro z0 bx0)))
  clear hW0 b0 z0 bx0
  go_upto_region 1 with (fail)
  rw [← HW.out.1]
  refine wp_region_still_tail 4 (by kernel_rfl) (by kernel_rfl) ?_
  simp only [List.take_succ_cons, List.take_zero, List.drop_succ_cons, List.drop_zero]
  still_step
  still_step
  refine wpStill_step (fun K hK => ?_)
  go_simp
  refine ⟨_, hLen.mono (fun _ _ h => ⟨h.1, h.2.symm⟩), hK _ ?_⟩
  clear hK K
  still_step
  refine wpStill_nil ?_
  change wpList _ _ _ _ _ W0.drew
  have HMM := Lib.hid hmm
  clear hmm hLen
  by_cases h1 : mm < 1
  · have hnil : L.take n.toNat = [] := by
      have := HMM.out
      split at this
      · have : L.length = 0 := by omega
        rw [List.eq_nil_of_length_eq_zero this]; simp
      · have : n.toNat = 0 := by omega
        rw [this]; rfl
    have hfin : Below w.heap.size w (W0.drew.setCell ⟨w.heap.size, 0, none⟩ (.int .i64 mm)) := (HW.out.2.1.drew).setCell (p := ⟨w.heap.size, 0, none⟩) (Nat.le_refl _) _
    have HFIN := Lib.hid (And.intro hnil hfin)
    clear hnil hfin
    go_wp2
    refine ⟨_, results_tmp rfl _ _ _, ?_⟩
    rw [HFIN.out.1]
    exact ⟨⟨none, 0, rfl, World.ownsRow_nil _ _ _ _⟩, HFIN.out.2⟩
  · obtain ⟨m, rfl⟩ : ∃ m : Nat, mm = m := ⟨mm.toNat, by omega⟩
    have hm1 : 1 ≤ m := by omega
    have hmL : m ≤ L.length := by have := HMM.out; split at this <;> omega
    have hmt : (L.take n.toNat) = L.take m := by
      have := HMM.out
      split at this
      · rw [List.take_of_length_le (by omega), List.take_of_length_le (by omega)]
      · have : n.toNat = m := by omega
        rw [this]
    -- the world in which the loop begins
    obtain ⟨W1, hW1⟩ : ∃ W1, W1 = (W0.setCell ⟨w.heap.size, 0, none⟩ (.int .i64 (m : Nat))).drew := ⟨_, rfl⟩
    obtain ⟨cs, hcs, hmk⟩ := run_make_ints m (by omega) W1
    obtain ⟨W2, hW2⟩ : ∃ W2, W2 = (W1.alloc (.cells cs 3)).alloc (.cells #[.slice (some ⟨W1.heap.size, 0, none⟩) 0 m] 44) := ⟨_, rfl⟩
    obtain ⟨W3, hW3⟩ : ∃ W3, W3 = W2.alloc (.cells #[.pointer (some ⟨s.p, 0, none⟩)] 25) := ⟨_, rfl⟩
    obtain ⟨hW0, b0, z0, bx0⟩ := HW.out
    have z1 : W1.heap.size = w.heap.size + 1 := by rw [hW1]; simp [World.setCell, z0]
    have b1 : Below w.heap.size w W1 := by rw [hW1]; exact (b0.setCell (p := ⟨w.heap.size, 0, none⟩) (Nat.le_refl _) _).drew
    have bx1 : Boxed W1 w.heap.size 3 (.int .i64 (m : Nat)) := by rw [hW1]; exact (Boxed.set _ bx0 : Boxed (W0.setCell ⟨w.heap.size, 0, none⟩ (.int .i64 (m : Nat))) _ _ _)
    have z2 : W2.heap.size = w.heap.size + 3 := by rw [hW2]; simp [z1]
    have b2 : Below w.heap.size w W2 := by rw [hW2]; exact (b1.alloc b1.size _).alloc (by have := b1.size; simp; omega) _
    have bx2 : Boxed W2 w.heap.size 3 (.int .i64 (m : Nat)) := by rw [hW2]; exact (bx1.alloc _).alloc _
    have bl2 : Boxed W2 (w.heap.size + 2) 44 (.slice (some ⟨W1.heap.size, 0, none⟩) 0 m) := by
      rw [hW2]
      have := Boxed.new (W1.alloc (.cells cs 3)) 44 (.slice (some ⟨W1.heap.size, 0, none⟩) 0 m)
      rw [World.size_alloc, z1] at this
      exact z1 ▸ this
    have ow2 : W2.ownsRow w.heap.size 3 1 (.slice (some ⟨W1.heap.size, 0, none⟩) 0 m) 0 [] := by
      rw [hW2]
      exact World.ownsRow.alloc (World.ownsRow_made W1 cs m (by omega) (by unfold maxLen; omega) hcs) _
    have z3 : W3.heap.size = w.heap.size + 4 := by rw [hW3, World.size_alloc, z2]
    have b3 : Below w.heap.size w W3 := by rw [hW3]; exact b2.alloc b2.size _
    have bxI : W3.cell? ⟨w.heap.size + 3, 0, none⟩ = some (.pointer (some ⟨s.p, 0, none⟩)) := by
      rw [hW3, ← z2]; exact (Boxed.new W2 25 _).cell
    have hs3 : Vg base W3 s hd T L G := ⟨HS.out.lay.below b3, HS.out.ful, HS.out.ok, HS.out.gs⟩
    have hfl : ∀ k, s.foot k → k < w.heap.size := fun k hk => (HS.out.lay.reads_lt (.inl hk)).2
    have hseq := ino_U (w.heap.size + 3) w.heap.size (fun k => k ≠ w.heap.size + 2 ∧ k ≠ w.heap.size + 1 ∧ k < W3.heap.size) hs3 (by omega) bxI hfl (by omega) (fun k hk => ⟨by omega, by omega, by omega⟩) ⟨by omega, by omega, by omega⟩ (fun k hk => hk.2.2) hG
    have h0 : TakI w m (fun k => k ≠ w.heap.size + 2 ∧ k ≠ w.heap.size + 1 ∧ k < W3.heap.size) [] W3 := by
      refine ⟨⟨⟨some ⟨W1.heap.size, 0, none⟩, m, by rw [hW3]; exact bl2.alloc _, by rw [hW3]; exact World.ownsRow.alloc ow2 _, fun g e => by cases e; rw [z1]; exact fun hh => hh.2.1 rfl⟩, fun hh => hh.1 rfl, fun q hq => hq.2.2⟩, ⟨⟨by omega, by omega, by omega⟩, by rw [hW3]; exact bx2.alloc _⟩, hm1, b3⟩
    have hIn := inO_any (some ⟨s.p, 0, none⟩) W2
    rw [← hW3] at hIn
    have cm := bx1.cell
    have HH := Lib.hid (And.intro hmt (And.intro hmL z3))
    rw [hW2] at hIn
    have HMK := Lib.hid hmk
    have HW1 := Lib.hid hW1
    have HZ1 := Lib.hid z1
    clear hW1 hW2 hW3 z1 z2 z3 b1 b2 b3 bx1 bx2 bl2 ow2 bxI hs3 hfl hmt hmL hW0 b0 z0 bx0 hcs
    go_upto_region 4 with (fail)
    rw [← HW1.out]
    clear c0 f0
    go_wp2_with fail
    refine hIn.mono ?_
    rintro e w4 ⟨rfl, hw4⟩
    rw [hw4]
    clear hIn hw4
    simp only [World.size_alloc, HZ1.out, Nat.add_assoc, Nat.reduceAdd]
    go_wp2_with fail
    refine (wpIn_wide (n := 9)).1 ?_
    refine range_U (α := Vt) (gf := 51) (lb := #[.pointer (some ⟨w.heap.size + 3, 0, none⟩)]) rfl (enters_of Try.func51 (by kernel_rfl) rfl) hseq (fun k hk => hk.2.2) (fun _ => rfl) (TakI w m) (fun c pre W => (c = .exit 0 ∧ pre.length = m) ∧ HoldsU w.heap.size (w.heap.size + 2) 44 3 1 (fun _ => False) pre.length (ics (pre.map Vt.id)) W ∧ Below w.heap.size w W) (TakI.abi (by have := HH.out.2.2; omega))
      (fun c pre A B row hh hg hr => ⟨hh.1, hh.2.1.turn hg (fun r e => (hr r e).2), hh.2.2.grown hg hh.2.2.size (fun k e => by have := (hr k e).1; have := HH.out.2.2; omega)⟩) h0
      (fun x => { tmps := #[.pointer (some ⟨s.p, 0, none⟩), .int .i64 n, undef, .pointer (some ⟨w.heap.size, 0, none⟩), .slice none 0 0, .pointer (some ⟨w.heap.size + 2, 0, none⟩), undef, .int .i64 x.id, .int .i64 n, .pointer (some ⟨s.p, 0, none⟩), .int .i64 (L.length : Nat), .int .i64 (m : Nat), .int .i64 (m : Nat), .bool false, .int .i64 (m : Nat), .slice (some ⟨w.heap.size + 1, 0, none⟩) 0 m, .pointer (some ⟨s.p, 0, none⟩), .func (.func 51) #[] #[.pointer (some ⟨w.heap.size + 3, 0, none⟩)], .int .i64 (x.bag : Nat), .int .i64 x.id, undef, undef, undef, undef, undef, undef, undef, undef, undef], defers := [] }) ?assign (fun pre x W l o o' h _ _ => h) ?body ?done (fun xs W l o h => .inl h) ?stop
    case assign =>
      intro l x W C hC
      gi_wp2
      exact hC
    case body =>
      rintro l K pre x W ⟨hx, hlen⟩ ⟨⟨⟨A, c, q1, q2, q3⟩, q4, q5⟩, ⟨hKB, hB⟩, hlt, h5⟩
      have cL := q1.cell
      have fL := q1.frozen
      have cM := hB.cell
      obtain ⟨W2, hW2⟩ : ∃ W2, W2 = W.alloc (.cells #[.int .i64 x.id] 3) := ⟨_, rfl⟩
      have b2 : Below W.heap.size W W2 := by rw [hW2]; exact (Below.refl _ W).alloc (Nat.le_refl _) _
      have ho : W2.ownsRow w.heap.size 3 1 (.slice A pre.length c) pre.length (ics (pre.map Vt.id)) := own_below q2 b2 (fun g e => (q2.lt g e).2)
      have hsr : Sr 1 W2 (some ⟨W.heap.size, 0, none⟩) 1 1 (ics [x.id]) := by
        rw [hW2]
        have := Sr.new (sz := 1) W 3 #[.int .i64 x.id] rfl
        simpa [ics] using this
      have cL2 : W2.cell? ⟨w.heap.size + 2, 0, none⟩ = some (.slice A pre.length c) := by rw [hW2]; exact (World.cell?_alloc_lt W _ ⟨w.heap.size + 2, 0, none⟩ q1.lt).trans cL
      have hbs : w.heap.size ≤ W2.heap.size := Nat.le_trans h5.size b2.size
      have fin : ∀ g c' w1, w1.ownsRow w.heap.size 3 1 (.slice (some ⟨g, 0, none⟩) (pre.length + 1) c') (pre.length + 1) (ics (pre.map Vt.id) ++ ics [x.id]) → W2.grownBy w1 (Value.slice A pre.length c).ownBlock → ((Value.slice A pre.length c).ownBlock = some g ∨ g = W2.heap.size) →
          w1.cell? ⟨w.heap.size + 2, 0, none⟩ = some (.slice A pre.length c) ∧ w1.frozen? ⟨w.heap.size + 2, 0, none⟩ = false ∧ KeepsFrom W3.heap.size W (w1.setCell ⟨w.heap.size + 2, 0, none⟩ (.slice (some ⟨g, 0, none⟩) (pre.length + 1) c')) ∧ Turns (fun k => ¬ K k) W (w1.setCell ⟨w.heap.size + 2, 0, none⟩ (.slice (some ⟨g, 0, none⟩) (pre.length + 1) c')) ∧ HoldsU w.heap.size (w.heap.size + 2) 44 3 1 K (pre ++ [x]).length (ics ((pre ++ [x]).map Vt.id)) (w1.setCell ⟨w.heap.size + 2, 0, none⟩ (.slice (some ⟨g, 0, none⟩) (pre.length + 1) c')) ∧ Below w.heap.size w (w1.setCell ⟨w.heap.size + 2, 0, none⟩ (.slice (some ⟨g, 0, none⟩) (pre.length + 1) c')) ∧ Boxed (w1.setCell ⟨w.heap.size + 2, 0, none⟩ (.slice (some ⟨g, 0, none⟩) (pre.length + 1) c')) w.heap.size 3 (.int .i64 (m : Nat)) := fun g c' w1 o1 g1 hw1 => by
        obtain ⟨r1, r2, r3, r4, r5, r6, _⟩ := HoldsU.app (by decide) (by omega) h5.size q1 q2 q3 q4 q5 b2 o1 g1 hw1
        refine ⟨r1, r2, r4.from _, r5, ?_, h5.trans r6, (r5.block _ hB.lt (fun hh => hh hKB)).trans hB⟩
        rw [List.length_append, List.map_append, ics_append]
        exact r3
      have FN := Lib.hid fin
      have HO := Lib.hid ho
      have HSR := Lib.hid hsr
      have HKB := Lib.hid (And.intro hKB (And.intro hB hlt))
      clear fin ho hsr b2 q1 q2 q3 q4 q5 hB hKB h5
      subst hW2
      gi_wp2_with (gi_at_builtin; refine wpListIn_appL _ 1 8 _ 3 rfl (.tmp 20) (.tmp 22) 44 rfl w.heap.size Try.underlying44 intInfo rfl (by decide) A ⟨W.heap.size, 0, none⟩ pre.length c 1 1 (ics (pre.map Vt.id)) (ics [x.id]) (by simp [Act.eval]) (by simp [Act.eval]) (by omega) HO.out HSR.out (ics_one _) (by unfold maxLen; omega) (by omega) hbs ?_; intro g c' w1 o1 g1 hw1; obtain ⟨z0, zf, z4⟩ := FN.out g c' w1 o1 g1 hw1; have zb := z4.2.2.2.2.cell; have Z4 := Lib.hid z4; clear o1 g1 hw1 z4)
      all_goals obtain ⟨y1, y2, y3, y4, y5⟩ := Z4.out
      · rename_i hh
        have hh := eq_of_beq hh
        exact ⟨y1, ⟨rfl, by simp; omega⟩, ⟨y3.1.imp fun A h => h.imp fun c h => ⟨h.1, h.2.1, fun _ _ hf => hf⟩, fun hf => hf, fun q hq => hq.elim⟩, y4⟩
      · rename_i hh
        have hh : ¬ ((pre.length : Int) + 1 = m) := fun e => by rw [e] at hh; simp at hh
        have hlt := HKB.out.2.2
        exact ⟨y1, y2, y3, ⟨HKB.out.1, y5⟩, by simp; omega, y4⟩
    case done =>
      rintro D K xs W hD rfl ⟨_, _, hlt, _⟩ hK
      have := HH.out.2.1
      omega
    case stop =>
      rintro D c pre W hD hpre ⟨⟨rfl, hm⟩, ⟨⟨A, c, q1, q2, _⟩, _, _⟩, h5⟩ hK
      have hpe : pre = L.take m := by rw [← hm]; exact List.prefix_iff_eq_take.1 hpre
      have cL := q1.cell
      have hzz := HH.out.2.2
      have hfin : (W.putObj D (.deferred none)).ownsRow w.heap.size 3 1 (.slice A pre.length c) pre.length (ics (pre.map Vt.id)) ∧ Below w.heap.size w (W.putObj D (.deferred none)) :=
        ⟨ownsRow_putObj q2 _ hK rfl, h5.trans (belowK_b (w := w) (Nat.le_refl _) W D _ _ (by omega) hK rfl rfl)⟩
      have HFIN := Lib.hid (And.intro hpe hfin)
      clear q1 q2 h5 hfin hzz hpe
      refine wpIn_wide.2 ?_
      go_wp2_with fail
      have e1 := HFIN.out.1
      have e2 := HH.out.1
      refine ⟨by simp, .inl ⟨_, _, rfl, run_takeDeferred hK, _, results_tmp rfl _ _ _, ⟨A, c, ?_, ?_⟩, HFIN.out.2.2⟩⟩
      · show Ending.returned (.slice A m c) = .returned (.slice A (min n.toNat L.length) c)
        rw [← List.length_take, e2, ← e1, hm]
      · have h3 := HFIN.out.2.1
        rw [← List.length_take, ← List.map_take, e2, ← e1]
        exact h3
set_option maxRecDepth 100000 in
set_option maxHeartbeats 4000000 in
/-- Take of nil voters. -/
theorem vtake_nil (n : Int) (hn : (Lit.int .i64 n).wf = true) (w : World) :
    Calls Try.prog 23 #[.pointer none, .int .i64 n] w fun e w' => e = .returned (.slice none 0 0) ∧ Below w.heap.size w w' := by
  obtain ⟨W0, hW0⟩ : ∃ W0, W0 = w.alloc (.cells #[.int .i64 n] 3) := ⟨_, rfl⟩
  have b0 : Below w.heap.size w W0 := by rw [hW0]; exact (Below.refl _ w).alloc (Nat.le_refl _) _
  have bx0 : Boxed W0 w.heap.size 3 (.int .i64 n) := by rw [hW0]; exact Boxed.new w _ _
  have c0 := bx0.cell
  have f0 := bx0.frozen
  have hLen := vlen_nil W0.drew
  refine (callsIn_wide (n := 9)).1 ?_
  refine callsIn_of_wp_marks Try.func23 rfl trivial ?_ rfl
  refine wpIn_wide.2 ?_
  simp only [Try.ntmps23, List.size_toArray, List.length_cons, List.length_nil, Nat.reduceAdd, Nat.reduceSub, Array.replicate_succ, Array.replicate_zero, List.push_toArray, List.append_toArray, List.nil_append, List.cons_append]
  obtain ⟨mm, hmm⟩ : ∃ mm, (if (0 : Int) < n then (0 : Int) else n) = mm := ⟨_, rfl⟩
  have HW := Lib.hid (And.intro hW0 (And.intro b0 bx0))
  clear hW0 b0 bx0
  go_upto_region 1 with (fail)
  rw [← HW.out.1]
  refine wp_region_still_tail 4 (by kernel_rfl) (by kernel_rfl) ?_
  simp only [List.take_succ_cons, List.take_zero, List.drop_succ_cons, List.drop_zero]
  still_step
  still_step
  refine wpStill_step (fun K hK => ?_)
  go_simp
  refine ⟨_, hLen.mono (fun _ _ h => ⟨h.1, h.2.symm⟩), hK _ ?_⟩
  clear hK K
  still_step
  refine wpStill_nil ?_
  change wpList _ _ _ _ _ W0.drew
  have h1 : mm < 1 := by split at hmm <;> omega
  have HMM := Lib.hid hmm
  clear hmm hLen
  have hfin : Below w.heap.size w (W0.drew.setCell ⟨w.heap.size, 0, none⟩ (.int .i64 mm)) := (HW.out.2.1.drew).setCell (p := ⟨w.heap.size, 0, none⟩) (Nat.le_refl _) _
  have HFIN := Lib.hid hfin
  clear hfin
  go_wp2
  exact ⟨_, results_tmp rfl _ _ _, rfl, HFIN.out⟩
end Go.Proofs.Ytblclpagfbpamaa
