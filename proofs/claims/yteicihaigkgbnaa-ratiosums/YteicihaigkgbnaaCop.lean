/-
  What ratio.copied and ratio.Min do. For fractions that can be read, of at most 1000000 limbs.
-/
import Derived.Test.YteicihaigkgbnaaRatMath
import Derived.Deep.RegionLaw
import Derived.ArgAppend
namespace Go.Proofs.Yteicihaigkgbnaa
open Go.RowKit

section
variable {P : Program} (w : World)
/-- append(x, y...) onto a list with no room: the natural y in new memory. -/
theorem run_app00 (t ty : TypeId) (ht : P.underlying t = some (.slice 54)) (hinfo : (P.info? 54).map (fun i => (i.zero, i.size, i.bytes)) = some (some (.int .u32 0), 1, 4))
    (g : Addr) (B : Option Addr) (m d : Nat) (ys : List Nat) (hr : Rd w B m d ys) (hs : m ≤ 1000000) :
    ∃ A' c' w', (Builtin.append_ #[t, t] ty #[.slice (some g) 0 0, .slice B m d]).run P w = .ok (.slice A' m c') w' ∧ Nw w' w.heap.size A' m c' ys ∧ Below w.heap.size w w' := by
  obtain ⟨i0, hi, hz0, hz1, hz2⟩ := info_parts hinfo
  rcases Nat.eq_zero_or_pos m with h0 | h0
  · subst h0
    obtain rfl := List.eq_nil_of_length_eq_zero hr.len
    refine ⟨some g, 0, w, ?_, ⟨⟨rfl, Nat.le_refl _, by omega, Lim_nil, fun h => by omega⟩, fun h => by omega⟩, Below.refl _ _⟩
    cases B <;> simp [Builtin.append_, run_underlying ht, sizeOf, typeInfo, hi, Builtin.lenOf, Builtin.firstCells, storeCells, loadCells, loadCellsFrom]
  · obtain ⟨b, o, rfl, hb, hc⟩ := hr.at_ h0
    have hcells : ∀ j u, (lits32 ys)[j]? = some u → w.cell? ((⟨b, o, none⟩ : Addr).add j) = some u := by
      intro j u hu
      obtain ⟨hj, rfl⟩ := lits32_at ys j u hu
      rw [hr.len] at hj
      have := hc j hj
      unfold Addr.add
      by_cases h0 : j = 0
      · subst h0; simpa using this
      · simpa [h0] using this
    obtain ⟨v', w', hrun, h2, h3⟩ := run_append_arg_grows (P := P) w t ty 54 i0 (.int .u32 0) 1 4 ht hi hz0 hz1 hz2 rfl (by decide) g 0 0 [] rfl (fun j u h => by simp at h) ⟨b, o, none⟩ m d (lits32 ys) (by rw [lits32_len, hr.len]; omega) hcells (by omega) (by unfold maxLen; omega) (by omega)
    rw [Nat.zero_add, List.nil_append] at h2
    rcases h2.2 with ⟨rfl, hn⟩ | ⟨g', cap, cur, rfl, _⟩
    · omega
    · have how : Ow w' w.heap.size (some ⟨g', 0, none⟩) m cap ys := ⟨h2, hr.lim⟩
      exact ⟨_, _, w', hrun, how.nw, (Below.refl _ _).grown h3 (Nat.le_refl _) fun g hg => by cases hg⟩
theorem step_app00 {ops : Array Oper} {o : Oper} {a : Act} {K : Act → World → Prop} {Q : Exit → Act → World → Prop} {E : Prop} (hgd : o.guard = none) (s x : Operand) (t : TypeId)
    (ho : o.op = .call { callee := .builtin .append, args := #[s, x], argTypes := #[t, t] })
    (ht : P.underlying t = some (.slice 54)) (hinfo : (P.info? 54).map (fun i => (i.zero, i.size, i.bytes)) = some (some (.int .u32 0), 1, 4))
    (g : Addr) (B : Option Addr) (m d : Nat) (ys : List Nat) (hs : a.eval s = .slice (some g) 0 0) (hx : a.eval x = .slice B m d) (hr : Rd w B m d ys) (hsz : m ≤ 1000000)
    (h : ∀ A' c' w', Nw w' w.heap.size A' m c' ys → Below w.heap.size w w' → K (a.put o.dst (.slice A' m c')) w') :
    if Region.wanted o (yielded ops a.tmps) = true then Oper.wp P o a w K Q else E := by
  have hw : Region.wanted o (yielded ops a.tmps) = true := by simp [Region.wanted, hgd]
  rw [if_pos hw]
  obtain ⟨A', c', w', hrun, h2, h3⟩ := run_app00 (P := P) w t o.type ht hinfo g B m d ys hr hsz
  unfold Oper.wp execOp
  simp only [ho, resolve, invoke, builtin, Sem.run_bind, Sem.run_pure, Result.andThen_ok, List.map_toArray, List.map_cons, List.map_nil, hs, hx, hrun]
  exact h A' c' w' h2 h3
end

theorem put2_cell {W : World} {g b o : Nat} {u v : Value} (h : b ≠ g) : (put2 W g u v).cell? ⟨b, o, none⟩ = W.cell? ⟨b, o, none⟩ := by
  unfold put2
  rw [World.cell?_setCell_other _ _ _ _ (by intro e; injection e with e _ _; exact h e.symm), World.cell?_setCell_other _ _ _ _ (by intro e; injection e with e _ _; exact h e.symm)]
set_option maxRecDepth 100000 in
set_option maxHeartbeats 3200000 in
/-- ratio.copied. -/
theorem copied_any (A B : Option Addr) (n c m d : Nat) (xs ys : List Nat) (w : World) (ha : Rd w A n c xs) (hb : Rd w B m d ys) (hn : n ≤ 1000000) (hm : m ≤ 1000000) :
    Calls Try.prog 56 #[.agg #[.slice A n c, .slice B m d]] w (OutR w xs ys) := by
  obtain ⟨hB1, hB2, hb0, hs0⟩ := boxes2 w 31 31 (.slice A n c) (.slice B m d) (.slice none 0 0) (.slice none 0 0)
  go_enter Try.func56, Try.ntmps56
  go_wp2
  generalize (w.alloc (Obj.cells #[Value.slice A n c, Value.slice B m d] 31)).alloc (Obj.cells #[Value.slice none 0 0, Value.slice none 0 0] 31) = W0 at *
  have hC1 := hB1.cs
  have hZ := hB2.zs
  have haW := ha.below hb0
  have hbW := hb.below hb0
  have h0 := Below.refl W0.heap.size W0
  have hcur := below_drew2 h0
  have K : W0.cell? ⟨w.heap.size, 0, none⟩ = some (.slice A n c) ∧ W0.cell? ⟨w.heap.size, 1, none⟩ = some (.slice B m d) := hC1.2
  clear hB1 hB2
  go_region_held3 (fun W => W.cell? ⟨w.heap.size, 0, none⟩ = some (.slice A n c) ∧ W.cell? ⟨w.heap.size, 1, none⟩ = some (.slice B m d))
    (first | exact K | exact (hC1.below (by first | exact hcur | exact below_drew2 (below_al h0 (Nat.le_refl _) _) | exact below_drew2 (below_al (below_al h0 (Nat.le_refl _) _) (Nat.le_refl _) _) | exact below_al hcur (Nat.le_refl _) _)).2 | exact ⟨(put2_cell (by omega)).trans K.1, (put2_cell (by omega)).trans K.2⟩)
    (first
      | ((refine step_app00 _ rfl (.tmp 3) (.tmp 5) 29 rfl Try.underlying29 info50 _ A n c xs rfl rfl (haW.below (by first | exact hcur | exact below_drew2 (below_al h0 (Nat.le_refl _) _) | exact below_drew2 (below_al (below_al h0 (Nat.le_refl _) _) (Nat.le_refl _) _) | exact below_al hcur (Nat.le_refl _) _)) hn ?_); intro A1 c1 w3 hN1 hb3; replace hcur := step_cur (by first | exact hcur | exact below_drew2 (below_al h0 (Nat.le_refl _) _) | exact below_drew2 (below_al (below_al h0 (Nat.le_refl _) _) (Nat.le_refl _) _) | exact below_al hcur (Nat.le_refl _) _) hb3; replace K := (hC1.below hcur).2; obtain ⟨y1, y2, y3, y4, y5⟩ := Zs.below hZ hcur; have hs3 := hcur.size)
      | ((refine step_app00 _ rfl (.tmp 7) (.tmp 9) 29 rfl Try.underlying29 info50 _ B m d ys rfl rfl (hbW.below (by first | exact hcur | exact below_drew2 (below_al h0 (Nat.le_refl _) _) | exact below_drew2 (below_al (below_al h0 (Nat.le_refl _) _) (Nat.le_refl _) _) | exact below_al hcur (Nat.le_refl _) _)) hm ?_); intro A2 c2 w4 hN2 hb4; have h34 : Below w3.heap.size w3 w4 := step_cur (by first | exact Below.refl _ _ | exact below_al (Below.refl _ _) (Nat.le_refl _) _) hb4; replace hcur := step_cur hcur h34; replace K := (hC1.below hcur).2; obtain ⟨y1, y2, y3, y4, y5⟩ := Zs.below hZ hcur; have hs4 := hcur.size))
  all_goals
    have HF := Lib.hid (outR_end (g := w.heap.size + 1) (lo := W0.heap.size) ((hN1.mono (by first | (simp; done) | (simp; omega))).below h34) (hN2.mono (by first | exact hs3 | (simp; omega))) (hb0.trans (hcur.mono hb0.size)) (by omega) (by omega))
    clear hN1 hN2 hb3 hb4 h34 hcur h0 hb0 K haW hbW
    go_wp2
    refine bodyPost_ret (v := .agg #[.slice A1 n c1, .slice A2 m c2]) (by simp [results, Try.results56, go_sem, y2, y3]) rfl ?_
    exact HF.out
end Go.Proofs.Yteicihaigkgbnaa
