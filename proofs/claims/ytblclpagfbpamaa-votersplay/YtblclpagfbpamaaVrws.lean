/-
  The law's own together and rows: numbers, each with its bag, in new memory. The conditions stand in each theorem.
-/
import Derived.Test.YtblclpagfbpamaaVbgs
namespace Go.Proofs.Ytblclpagfbpamaa
open Go.RowKit Go.Shelf
set_option linter.unusedVariables false
attribute [local go_sem] Oper.semAt_some
set_option maxRecDepth 100000 in
set_option maxHeartbeats 1000000 in
theorem together_any (b : Nat) (A : Option Addr) (n c : Nat) (ids : List Int) (w : World) (h : Ir w 0 A n c ids) (hn : n ≤ 1000000) :
    Calls Try.prog 44 #[.int .i64 (b : Nat), .slice A n c] w fun e w' => (∃ A' c', e = .returned (.slice A' n c') ∧ w'.ownsRow w.heap.size 47 3 (.slice A' n c') n (pcs (ids.map fun i => (i, b)))) ∧ Below w.heap.size w w' := by
  have hlow : ∀ g, A = some ⟨g, 0, none⟩ → 0 < n → g < w.heap.size := fun g e h0 => by
    obtain ⟨g', x, e', _, _, _, hc⟩ := h.at_ h0
    rw [e] at e'; cases e'
    exact (h.1.lt g (by rw [e]; rfl)).2
  have HI := Lib.hid h
  have HL := Lib.hid h.2
  have HLOW := Lib.hid hlow
  clear h hlow
  go_enter Try.func44, Try.ntmps44
  go_wp2_with fail
  go_loopg [5, 9] n (fun gk lv tv wr => ∃ (i : Nat) (A' : Option Addr) (c' : Nat), i + gk = n ∧ tv = .int .i64 (i : Int) ∧ lv = .slice A' i c' ∧ wr.ownsRow w.heap.size 47 3 (.slice A' i c') i (pcs ((ids.take i).map fun i => (i, b))) ∧ Below w.heap.size w wr)
  case atStart => exact ⟨0, none, 0, by omega, rfl, rfl, World.ownsRow_nil _ _ _ _, Below.refl _ _⟩
  case round =>
    obtain ⟨i, A', c', hi, rfl, rfl, how, hbw⟩ := hrel
    by_cases hlt : i < n
    · obtain ⟨g, x, rfl, hc1, hc2, hx, hcell⟩ := HI.out.at_ hlt
      have hgl := HLOW.out g rfl (by omega)
      have hcell' := (hbw.cell (p := ⟨g, i, none⟩) hgl).trans hcell
      have b2 : Below wr.heap.size wr (wr.alloc (.cells #[.int .i64 x, .int .u64 0, .int .i64 (b : Nat)] 47)) := (Below.refl _ wr).alloc (Nat.le_refl _) _
      have ho : (wr.alloc (.cells #[.int .i64 x, .int .u64 0, .int .i64 (b : Nat)] 47)).ownsRow w.heap.size 47 3 (.slice A' i c') i (pcs ((ids.take i).map fun i => (i, b))) := how.alloc _
      have hsr : Sr 3 (wr.alloc (.cells #[.int .i64 x, .int .u64 0, .int .i64 (b : Nat)] 47)) (some ⟨wr.heap.size, 0, none⟩) 1 1 (pcs [(x, b)]) := by
        have := Sr.new (sz := 3) wr 47 #[.int .i64 x, .int .u64 0, .int .i64 (b : Nat)] rfl
        simpa [pcs] using this
      have hbs : w.heap.size ≤ (wr.alloc (.cells #[.int .i64 x, .int .u64 0, .int .i64 (b : Nat)] 47)).heap.size := Nat.le_trans hbw.size b2.size
      have hb3 := hbw.trans (b2.mono hbw.size)
      have he : pcs ((ids.take i).map fun i => (i, b)) ++ pcs [(x, b)] = pcs ((ids.take (i + 1)).map fun i => (i, b)) := by
        rw [List.take_add_one, hx, ← pcs_append]; simp
      have HO := Lib.hid ho
      have HSR := Lib.hid hsr
      have HB := Lib.hid hb3
      have HE := Lib.hid he
      clear how hcell hbw b2 ho hsr hb3 hx he
      go_wp2_with (refine wpList_appS _ 3 24 _ 47 rfl (.tmp 12) (.tmp 19) 31 rfl w.heap.size Try.underlying31 rvInfo rfl (by decide) A' (some ⟨wr.heap.size, 0, none⟩) i c' 1 1 (pcs ((ids.take i).map fun i => (i, b))) (pcs [(x, b)]) (by simp [Act.eval]) (by simp [Act.eval]) HO.out HSR.out (pcs_one _) (by unfold maxLen; omega) (by omega) hbs ?_; intro A1 d1 w1 o1 _ b1; have Z := Lib.hid (And.intro o1 (HB.out.trans b1)); clear o1 b1)
      go_roundg (n - (i + 1))
      case rel => exact ⟨i + 1, A1, d1, by omega, by go_num, rfl, HE.out ▸ Z.out.1, Z.out.2⟩
      case measure => omega
    · obtain rfl : i = n := by omega
      have he : (ids.take i) = ids := List.take_of_length_le (by rw [HL.out]; exact Nat.le_refl _)
      rw [he] at how
      have HF := Lib.hid (And.intro how hbw)
      clear how hbw he
      go_wp2
      go_ret
      exact ⟨⟨A', c', rfl, HF.out.1⟩, HF.out.2⟩
theorem sr_of_own {w : World} {base : Nat} {e : TypeId} {A : Option Addr} {n c sz : Nat} {cs : List Value} (h : w.ownsRow base e sz (.slice A n c) n cs) (hn : 0 < n) : ∃ g, A = some ⟨g, 0, none⟩ ∧ Sr sz w (some ⟨g, 0, none⟩) n c cs := by
  rcases own_forms h with ⟨_, h0, _⟩ | ⟨g, cap, hv, _⟩
  · omega
  · injection hv with e1 _ e3
    subst e1 e3
    refine ⟨g, rfl, ?_⟩
    have := own_part h 0 n (by omega)
    rw [Nat.zero_mul, Nat.sub_zero, List.drop_zero, List.take_of_length_le (by rw [h.1]; exact Nat.le_refl _)] at this
    exact this
theorem rows_fin {w W w3 : World} {n₁ : Nat} {K : Nat → Prop} {pre : List Fg} {x : Fg} {A : Option Addr} {c : Nat} (q1 : Boxed W w.heap.size 31 (.slice A (flatF pre).length c)) (q2 : W.ownsRow w.heap.size 47 3 (.slice A (flatF pre).length c) (flatF pre).length (pcs (flatF pre))) (q3 : ∀ g, (Value.slice A (flatF pre).length c).ownBlock = some g → ¬ K g) (q4 : ¬ K w.heap.size) (q5 : ∀ q, K q → q < W.heap.size) (h3 : Below w.heap.size w W) (b2 : Below W.heap.size W w3) :
    w3.cell? ⟨w.heap.size, 0, none⟩ = some (.slice A (flatF pre).length c) ∧ w.heap.size ≤ w3.heap.size ∧ w3.ownsRow w.heap.size 47 3 (.slice A (flatF pre).length c) (flatF pre).length (pcs (flatF pre)) ∧
    ∀ g c' w1, w1.ownsRow w.heap.size 47 3 (.slice (some ⟨g, 0, none⟩) ((flatF pre).length + x.is.length) c') ((flatF pre).length + x.is.length) (pcs (flatF pre) ++ pcs (x.is.map fun i => (i, x.b))) → w3.grownBy w1 (Value.slice A (flatF pre).length c).ownBlock → ((Value.slice A (flatF pre).length c).ownBlock = some g ∨ g = w3.heap.size) →
        w1.cell? ⟨w.heap.size, 0, none⟩ = some (.slice A (flatF pre).length c) ∧ w1.frozen? ⟨w.heap.size, 0, none⟩ = false ∧ KeepsFrom n₁ W (w1.setCell ⟨w.heap.size, 0, none⟩ (.slice (some ⟨g, 0, none⟩) ((flatF pre).length + x.is.length) c')) ∧ Turns (fun k => ¬ K k) W (w1.setCell ⟨w.heap.size, 0, none⟩ (.slice (some ⟨g, 0, none⟩) ((flatF pre).length + x.is.length) c')) ∧ AppI w.heap.size 31 47 3 (fun fs => (flatF fs).length) (fun fs => pcs (flatF fs)) w K (pre ++ [x]) (w1.setCell ⟨w.heap.size, 0, none⟩ (.slice (some ⟨g, 0, none⟩) ((flatF pre).length + x.is.length) c')) := by
  refine ⟨(b2.cell (p := ⟨w.heap.size, 0, none⟩) q1.lt).trans q1.cell, Nat.le_trans h3.size b2.size, own_below q2 b2 (fun g e => (q2.lt g e).2), fun g c' w1 o1 g1 hw1 => ?_⟩
  obtain ⟨r1, r2, r3, r4, r5, r6, _⟩ := HoldsU.app (by decide) (Nat.le_refl _) h3.size q1 q2 q3 q4 q5 b2 o1 g1 hw1
  refine ⟨r1, r2, r4.from _, r5, ⟨?_, h3.trans r6⟩⟩
  have e1 : (flatF (pre ++ [x])) = flatF pre ++ x.is.map fun i => (i, x.b) := by rw [flatF_append]; simp [flatF]
  dsimp only
  rw [e1, pcs_append, List.length_append, List.length_map]
  exact r3
set_option maxRecDepth 100000 in
set_option maxHeartbeats 4000000 in
theorem lrows_of (p : Option Addr) (w : World) (L : List Vt) (hl : L.length ≤ 1000000)
    (hq : ∀ (Bv : Nat) (K0 : Nat → Prop) (W : World), Below w.heap.size w W → Bv < W.heap.size → W.cell? ⟨Bv, 0, none⟩ = some (.pointer p) → SeqU 56 #[.pointer (some ⟨Bv, 0, none⟩)] (fun f : Fg => #[Value.int .i64 (f.b : Nat), .slice f.A f.is.length f.c]) K0 (fun pre f W => W.ownsRow 0 3 1 (.slice f.A f.is.length f.c) f.is.length (ics f.is) ∧ f.is ≠ [] ∧ (flatF (pre ++ [f])).length ≤ L.length) (fun fs _ => flatF fs = pairs L) (fun _ => True) W) :
    Calls Try.prog 28 #[.pointer p] w fun e w' => (∃ A c, e = .returned (.slice A L.length c) ∧ w'.ownsRow w.heap.size 47 3 (.slice A L.length c) L.length (pcs (pairs L))) ∧ Below w.heap.size w w' := by
  obtain ⟨W0, hW0⟩ : ∃ W0, W0 = w.alloc (.cells #[.slice none 0 0] 31) := ⟨_, rfl⟩
  obtain ⟨W1, hW1⟩ : ∃ W1, W1 = W0.alloc (.cells #[.pointer p] 25) := ⟨_, rfl⟩
  have b0 : Below w.heap.size w W0 := by rw [hW0]; exact (Below.refl _ w).alloc (Nat.le_refl _) _
  have z0 : W0.heap.size = w.heap.size + 1 := by rw [hW0]; simp
  have b1 : Below w.heap.size w W1 := by rw [hW1]; exact b0.alloc b0.size _
  have z1 : W1.heap.size = w.heap.size + 2 := by rw [hW1, World.size_alloc, z0]
  have bxL : Boxed W1 w.heap.size 31 (.slice none 0 0) := by rw [hW1, hW0]; exact (Boxed.new w _ _).alloc _
  have bxI : W1.cell? ⟨w.heap.size + 1, 0, none⟩ = some (.pointer p) := by
    rw [hW1, ← z0]; exact (Boxed.new W0 25 _).cell
  have hseq := hq (w.heap.size + 1) (fun k => k ≠ w.heap.size ∧ k < W1.heap.size) W1 b1 (by omega) bxI
  have h0 : AppI w.heap.size 31 47 3 (fun fs => (flatF fs).length) (fun fs => pcs (flatF fs)) w (fun k => k ≠ w.heap.size ∧ k < W1.heap.size) [] W1 := ⟨⟨⟨none, 0, bxL, ⟨rfl, .inl ⟨rfl, rfl⟩⟩, fun g e => by cases e⟩, fun hh => hh.1 rfl, fun q hq => hq.2⟩, b1⟩
  have hIn := callsIn_wide (n := 8) |>.2 (vbags_any p W0)
  rw [← hW1] at hIn
  rw [hW0] at hIn
  have HZ := Lib.hid (And.intro z0 z1)
  clear hW0 hW1 z0 z1 b0 bxL bxI hq b1
  refine (callsIn_wide (n := 9)).1 ?_
  refine callsIn_of_wp_marks Try.func28 rfl trivial ?_ rfl
  simp only [Try.ntmps28, List.size_toArray, List.length_cons, List.length_nil, Nat.reduceAdd, Nat.reduceSub, Array.replicate_succ, Array.replicate_zero, List.push_toArray, List.append_toArray, List.nil_append, List.cons_append]
  gi_wp2_with fail
  refine ⟨trivial, ?_⟩
  refine hIn.mono ?_
  rintro e w3 ⟨rfl, hw3⟩
  rw [hw3]
  clear hIn hw3
  gi_wp2_with fail
  refine range_U (α := Fg) (gf := 56) (lb := #[.pointer (some ⟨w.heap.size + 1, 0, none⟩)]) rfl (enters_of Try.func56 (by kernel_rfl) rfl) hseq (fun k hk => hk.2) (fun _ => rfl) (AppI w.heap.size 31 47 3 (fun fs => (flatF fs).length) (fun fs => pcs (flatF fs)) w) (fun _ _ _ => False) (AppI.abi (by have := HZ.out.2; omega)) (fun _ _ _ _ _ hh _ _ => hh) h0
    (fun x => { tmps := #[.pointer p, undef, .slice none 0 0, .pointer (some ⟨w.heap.size, 0, none⟩), .int .i64 (x.b : Nat), .slice x.A x.is.length x.c, .pointer p, .func (.func 56) #[] #[.pointer (some ⟨w.heap.size + 1, 0, none⟩)], .int .i64 (x.b : Nat), .slice x.A x.is.length x.c, undef, undef, undef, undef, undef, undef], defers := [] }) ?assign ?phi ?body ?done (fun xs W l o h => .inl h) (fun D c pre W _ _ h _ => h.elim)
  case phi =>
    rintro pre x W l o o' ⟨h1, h2⟩ hl hc
    refine ⟨own_keep h1 (fun q hq => World.putObj_heap_other (fun e => ?_)), h2⟩
    subst e
    obtain ⟨cur, hk⟩ := own_kb h1 hq
    rw [show W.heap[_]? = _ from hk] at hl
    cases hl; cases hc
  case assign =>
    intro l x W C hC
    gi_wp2
    exact hC
  case body =>
    rintro l K pre x W ⟨hxo, hxn, hpl⟩ ⟨⟨⟨A, c, q1, q2, q3⟩, q4, q5⟩, h3⟩
    have cL := q1.cell
    have fL := q1.frozen
    have hxl : 1 ≤ x.is.length := by
      rcases Nat.eq_zero_or_pos x.is.length with h | h
      · exact absurd (List.eq_nil_of_length_eq_zero h) hxn
      · exact h
    have hadd : (flatF (pre ++ [x])).length = (flatF pre).length + x.is.length := by rw [flatF_append]; simp [flatF]
    have htg := together_any x.b x.A x.is.length x.c x.is W.drew ⟨hxo, rfl⟩ (by omega)
    have HT := Lib.hid (callsIn_wide (n := 8) |>.2 htg)
    have HQ := Lib.hid (And.intro q1 (And.intro q2 (And.intro q3 (And.intro q4 (And.intro q5 h3)))))
    clear htg q1 q2 q3 q4 q5 h3 hxo
    gi_wp2_with fail
    refine region_inRound (by kernel_rfl) ?_
    refine wpAnyIn_take (i := 1) (v := .int .i64 (x.b : Nat)) rfl rfl (by kernel_rfl) (by kernel_rfl) (by kernel_rfl) (fun _ _ _ h => h) ⟨Or.inl ⟨by rfl, (by intro w; go_simp; try (intro h; omega))⟩, fun _ => rfl⟩ ?_
    refine wpAnyIn_take (i := 2) (v := .slice x.A x.is.length x.c) rfl rfl (by kernel_rfl) (by kernel_rfl) (by kernel_rfl) (fun _ _ _ h => h) ⟨Or.inl ⟨by rfl, (by intro w; go_simp; try (intro h; omega))⟩, fun _ => rfl⟩ ?_
    refine wpAnyIn_ready (rs := [0, 3]) (by kernel_rfl) (by simp) ?_
    refine AllReadyIn.cons rfl (fun K' hK => ?_) (AllReadyIn.cons rfl (fun K' hK => ?_) AllReadyIn.nil)
    · go_simp
      refine hK _ _ ?_
      clear hK K'
      refine wpAnyIn_ready (rs := [3]) (by kernel_rfl) (by simp) ?_
      refine AllReadyIn.cons rfl (fun K' hK => ?_) AllReadyIn.nil
      (go_simp; refine ⟨trivial, HT.out.mono ?_⟩; rintro e w3 ⟨⟨A2, c2, rfl, how2⟩, hb3⟩; obtain ⟨g2, rfl, hsr⟩ := sr_of_own how2 (by omega); have HR := Lib.hid (rows_fin (n₁ := W1.heap.size) (x := x) HQ.out.1 HQ.out.2.1 HQ.out.2.2.1 HQ.out.2.2.2.1 HQ.out.2.2.2.2.1 HQ.out.2.2.2.2.2 (below_undrew hb3)); have HSR := Lib.hid hsr; have cL3 := HR.out.1; have hbs := HR.out.2.1; clear how2 hsr hb3 HT)
      refine hK _ _ ?_
      clear hK K'
      refine wpAnyIn_ready (rs := [4]) (by kernel_rfl) (by simp) ?_
      refine AllReadyIn.cons rfl (fun K' hK => ?_) AllReadyIn.nil
      (refine stepIn_appL _ 3 24 _ 47 rfl (.tmp 10) (.tmp 13) 31 rfl w.heap.size Try.underlying31 rvInfo rfl (by decide) A ⟨g2, 0, none⟩ (flatF pre).length c x.is.length c2 (pcs (flatF pre)) (pcs (x.is.map fun i => (i, x.b))) (by simp [Act.eval]) (by simp [Act.eval]) (by omega) HR.out.2.2.1 HSR.out (pcs_one _) (by unfold maxLen; omega) (by omega) hbs ?_; intro g c' w4 o1 g1 hw1; obtain ⟨z0, zf, z4⟩ := HR.out.2.2.2 g c' w4 o1 g1 hw1; have Z4 := Lib.hid z4; clear o1 g1 hw1 z4; try go_simp)
      refine hK _ _ ?_
      clear hK K'
      refine wpAnyIn_ready (rs := [5]) (by kernel_rfl) (by simp) ?_
      refine AllReadyIn.cons rfl (fun K' hK => ?_) AllReadyIn.nil
      go_simp
      refine hK _ _ ?_
      clear hK K'
      refine wpAnyIn_done (by kernel_rfl) ?_ _
      exact Z4.out
    · (go_simp; refine ⟨trivial, HT.out.mono ?_⟩; rintro e w3 ⟨⟨A2, c2, rfl, how2⟩, hb3⟩; obtain ⟨g2, rfl, hsr⟩ := sr_of_own how2 (by omega); have HR := Lib.hid (rows_fin (n₁ := W1.heap.size) (x := x) HQ.out.1 HQ.out.2.1 HQ.out.2.2.1 HQ.out.2.2.2.1 HQ.out.2.2.2.2.1 HQ.out.2.2.2.2.2 (below_undrew hb3)); have HSR := Lib.hid hsr; have cL3 := HR.out.1; have hbs := HR.out.2.1; clear how2 hsr hb3 HT)
      refine hK _ _ ?_
      clear hK K'
      refine wpAnyIn_ready (rs := [0]) (by kernel_rfl) (by simp) ?_
      refine AllReadyIn.cons rfl (fun K' hK => ?_) AllReadyIn.nil
      go_simp
      refine hK _ _ ?_
      clear hK K'
      refine wpAnyIn_ready (rs := [4]) (by kernel_rfl) (by simp) ?_
      refine AllReadyIn.cons rfl (fun K' hK => ?_) AllReadyIn.nil
      (refine stepIn_appL _ 3 24 _ 47 rfl (.tmp 10) (.tmp 13) 31 rfl w.heap.size Try.underlying31 rvInfo rfl (by decide) A ⟨g2, 0, none⟩ (flatF pre).length c x.is.length c2 (pcs (flatF pre)) (pcs (x.is.map fun i => (i, x.b))) (by simp [Act.eval]) (by simp [Act.eval]) (by omega) HR.out.2.2.1 HSR.out (pcs_one _) (by unfold maxLen; omega) (by omega) hbs ?_; intro g c' w4 o1 g1 hw1; obtain ⟨z0, zf, z4⟩ := HR.out.2.2.2 g c' w4 o1 g1 hw1; have Z4 := Lib.hid z4; clear o1 g1 hw1 z4; try go_simp)
      refine hK _ _ ?_
      clear hK K'
      refine wpAnyIn_ready (rs := [5]) (by kernel_rfl) (by simp) ?_
      refine AllReadyIn.cons rfl (fun K' hK => ?_) AllReadyIn.nil
      go_simp
      refine hK _ _ ?_
      clear hK K'
      refine wpAnyIn_done (by kernel_rfl) ?_ _
      exact Z4.out
  case done =>
    rintro D K xs W hD hfl ⟨⟨⟨A, c, q1, q2, _⟩, _, _⟩, h3⟩ hK
    have cL := q1.cell
    have hzz := HZ.out.2
    have hfin : (W.putObj D (.deferred none)).ownsRow w.heap.size 47 3 (.slice A (flatF xs).length c) (flatF xs).length (pcs (flatF xs)) ∧ Below w.heap.size w (W.putObj D (.deferred none)) :=
      ⟨ownsRow_putObj q2 _ hK rfl, h3.trans (belowK_b (w := w) (Nat.le_refl _) W D _ _ (by omega) hK rfl rfl)⟩
    have hlen : (flatF xs).length = L.length := by rw [hfl]; simp [pairs]
    have HFIN := Lib.hid (And.intro hlen (And.intro hfl hfin))
    clear q1 q2 h3 hfin hzz hlen hfl
    gi_wp2
    refine ⟨by simp, .inl ⟨_, _, rfl, run_takeDeferred hK, _, results_tmp rfl _ _ _, ⟨A, c, ?_, ?_⟩, HFIN.out.2.2.2⟩⟩
    · rw [HFIN.out.1]; rfl
    · have := HFIN.out.2.2.1
      rw [HFIN.out.1, HFIN.out.2.1] at this
      exact this
end Go.Proofs.Ytblclpagfbpamaa
