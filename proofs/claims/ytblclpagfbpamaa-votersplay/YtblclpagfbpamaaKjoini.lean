/-
  What join and part do to a chain whose members are of the type int: neighbours are written, nothing else. The conditions stand in each theorem.
-/
import Derived.Test.YtblclpagfbpamaaKopsi
import Derived.StillTailTactics
import Derived.Deep.RegionWith
namespace Go.Proofs.Ytblclpagfbpamaa
open Go.RowKit
set_option linter.unusedVariables false

/-- A chain whose neighbours are others, the rest is as it was. -/
def Lki (w w' : World) (s s' : ChS Int) : Prop := Chi w' s' ∧ Turns s.foot w w'

set_option maxHeartbeats 800000 in
/-- join: h is put in ahead of 'of'. -/
theorem join_anyi (s : ChS Int) (h o : Int) (w : World) (hc : Chi w s) (hh : h = 0 ∨ h ∈ s.hs) (ho : o = 0 ∨ o ∈ s.hs) (hp : s.bf o = 0 ∨ s.bf o ∈ s.hs) :
    Calls Try.prog 50 #[.pointer (some ⟨s.C, 0, none⟩), .int .i64 h, .int .i64 o] w fun e w' => e = .returned (.tuple #[]) ∧
      Lki w w' s { s with bf := upd (upd s.bf h (s.bf o)) o h, af := upd (upd s.af h o) (s.bf o) h } := by
  have hb := hc.cB ho
  go_enter Try.func50, Try.ntmps50
  go_wp2_with fail
  refine (at_anyi s o w hc ho).mono ?_
  rintro e w' ⟨rfl, rfl⟩
  go_wp2_with fail
  refine (at_anyi s h w hc hh).mono ?_
  rintro e w' ⟨rfl, rfl⟩
  have k1 := hc.cB hh
  have k2 := hc.cA hh
  have f1 := hc.fz hh (nO h)
  have f2 := hc.fz hh (nO h + 1)
  go_wp2_with fail
  have c1 := (hc.setB tnei hh (s.bf o)).setA tnei (h := h) hh o
  have t1 : Turns s.foot w ((w.setCell ⟨nB s.C s.bl h, nO h, none⟩ (.int .i64 (s.bf o))).setCell ⟨nB s.C s.bl h, nO h + 1, none⟩ (.int .i64 o)) := (Turns.setCell _ _ _ (foot_nB hh)).trans (Turns.setCell (F := s.foot) _ _ _ (foot_nB hh)) (fun _ => .inl)
  change Chi ((w.setCell ⟨nB s.C s.bl h, nO h, none⟩ (.int .i64 (s.bf o))).setCell ⟨nB s.C s.bl h, nO h + 1, none⟩ (.int .i64 o)) _ at c1
  generalize ((w.setCell ⟨nB s.C s.bl h, nO h, none⟩ (.int .i64 (s.bf o))).setCell ⟨nB s.C s.bl h, nO h + 1, none⟩ (.int .i64 o)) = w1 at c1 t1 ⊢
  clear k1 k2 f1 f2 hb
  refine (at_anyi _ (s.bf o) w1 c1 hp).mono ?_
  rintro e w' ⟨rfl, rfl⟩
  have k2 := c1.cA hp
  have f2 := c1.fz hp (nO (s.bf o) + 1)
  have c2 := c1.setA tnei hp h
  go_wp2_with fail
  have t2 : Turns s.foot w (w1.setCell ⟨nB s.C s.bl (s.bf o), nO (s.bf o) + 1, none⟩ (.int .i64 h)) := t1.trans (Turns.setCell (F := s.foot) _ _ _ (foot_nB hp)) (fun _ => .inl)
  try simp only at c2
  generalize (w1.setCell ⟨nB s.C s.bl (s.bf o), nO (s.bf o) + 1, none⟩ (.int .i64 h)) = w2 at c2 t2 ⊢
  clear k2 f2 c1 t1
  refine (at_anyi _ o w2 c2 ho).mono ?_
  rintro e w' ⟨rfl, rfl⟩
  have k2 := c2.cB ho
  have f2 := c2.fz ho (nO o)
  have c3 := c2.setB tnei ho h
  try simp only at k2 f2 c3
  go_wp2
  go_end0
  exact ⟨rfl, c3, t2.trans (Turns.setCell (F := s.foot) _ _ _ (foot_nB ho)) (fun _ => .inl)⟩

set_option maxRecDepth 20000 in
set_option maxHeartbeats 800000 in
/-- part: h is taken out of the row. -/
theorem part_anyi (s : ChS Int) (h : Int) (w : World) (hc : Chi w s) (hh : h = 0 ∨ h ∈ s.hs) (hp : s.bf h = 0 ∨ s.bf h ∈ s.hs) (hn : s.af h = 0 ∨ s.af h ∈ s.hs) :
    Calls Try.prog 48 #[.pointer (some ⟨s.C, 0, none⟩), .int .i64 h] w fun e w' => e = .returned (.tuple #[]) ∧
      Lki w w' s { s with bf := upd s.bf (s.af h) (s.bf h), af := upd s.af (s.bf h) (s.af h) } := by
  have k1 := hc.cB hh
  have k2 := hc.cA hh
  go_enter Try.func48, Try.ntmps48
  go_wp2_with fail
  refine (at_anyi s h w hc hh).mono ?_
  rintro e w' ⟨rfl, rfl⟩
  go_wp2_with fail
  have cl := KB.new w 91 #[.int .i64 (s.bf h), .int .i64 (s.af h)]
  have c1 := hc.alloc (.cells #[.int .i64 (s.bf h), .int .i64 (s.af h)] 91)
  have t1 := Turns.alloc s.foot w (.cells #[.int .i64 (s.bf h), .int .i64 (s.af h)] 91)
  have hnf : ¬ s.foot w.heap.size := fun hf => Nat.lt_irrefl _ (hc.lt hf)
  generalize hlb : w.heap.size = lb at cl t1 hnf ⊢
  clear hlb k1 k2
  generalize (w.alloc (.cells #[.int .i64 (s.bf h), .int .i64 (s.af h)] 91)) = w1 at cl c1 t1 ⊢
  have l0 := cl.cell 0
  have l1 := cl.cell 1
  simp at l0 l1
  refine wp_region_still_tail 6 (by kernel_rfl) (by kernel_rfl) ?_
  simp only [List.take_succ_cons, List.take_zero, List.drop_succ_cons, List.drop_zero]
  still_step
  still_step
  still_step
  refine wpStill_step (fun K hK => ?_)
  go_simp
  refine ⟨_, (at_anyi s (s.bf h) _ c1.drew hp).mono (fun _ _ h => ⟨h.1, h.2.symm⟩), hK _ ?_⟩
  clear hK K
  still_step
  still_step
  refine wpStill_nil ?_
  have k2 := c1.cA hp
  have f2 := c1.fz hp (nO (s.bf h) + 1)
  go_wp2_with fail
  have hne : lb ≠ nB s.C s.bl (s.bf h) := fun e => hnf (e ▸ foot_nB hp)
  have c2 := (c1.setA tnei hp (s.af h)).drew
  have cl2 : KB (w1.setCell ⟨nB s.C s.bl (s.bf h), nO (s.bf h) + 1, none⟩ (.int .i64 (s.af h))).drew lb 91 #[.int .i64 (s.bf h), .int .i64 (s.af h)] := cl.far (p := ⟨nB s.C s.bl (s.bf h), nO (s.bf h) + 1, none⟩) hne _
  have t2 : Turns s.foot w (w1.setCell ⟨nB s.C s.bl (s.bf h), nO (s.bf h) + 1, none⟩ (.int .i64 (s.af h))).drew := (t1.trans (Turns.setCell (F := s.foot) _ _ _ (foot_nB hp)) (fun _ => .inl)).drew
  clear l0 l1 k2 f2 hne
  generalize (w1.setCell ⟨nB s.C s.bl (s.bf h), nO (s.bf h) + 1, none⟩ (.int .i64 (s.af h))).drew = w2 at c2 cl2 t2 ⊢
  have l0 := cl2.cell 0
  have l1 := cl2.cell 1
  simp at l0 l1
  refine wp_region_still_tail 6 (by kernel_rfl) (by kernel_rfl) ?_
  simp only [List.take_succ_cons, List.take_zero, List.drop_succ_cons, List.drop_zero]
  still_step
  still_step
  still_step
  refine wpStill_step (fun K hK => ?_)
  go_simp
  refine ⟨_, (at_anyi _ (s.af h) _ c2.drew hn).mono (fun _ _ h => ⟨h.1, h.2.symm⟩), hK _ ?_⟩
  clear hK K
  still_step
  still_step
  refine wpStill_nil ?_
  have k2 := c2.cB hn
  have f2 := c2.fz hn (nO (s.af h))
  go_wp2_with fail
  go_end0
  exact ⟨rfl, (c2.setB tnei hn (s.bf h)).drew, (t2.trans (Turns.setCell (F := s.foot) _ _ _ (foot_nB hn)) (fun _ => .inl)).drew⟩
end Go.Proofs.Ytblclpagfbpamaa
