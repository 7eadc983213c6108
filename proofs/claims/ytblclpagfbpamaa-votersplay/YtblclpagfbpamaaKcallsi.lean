/-
  What the public calls of package chain do, at members of the type int: Last, First, Ahead, Remove, Move; on a nil chain too. The conditions stand in each theorem.
-/
import Derived.Test.YtblclpagfbpamaaKinsi
import Derived.Test.YtblclpagfbpamaaKrow
namespace Go.Proofs.Ytblclpagfbpamaa
open Go.RowKit
set_option linter.unusedVariables false

abbrev Gdi (w : World) (s : ChS Int) : Prop := Gd evi 93 95 w s
abbrev ChToi (w w' : World) (s : ChS Int) (g : Int) (R : List (Int × Int)) : Prop := ChTo evi 93 95 w w' s g R
theorem new_gdi (w : World) : Gdi (w.alloc (.cells #[.map none, .int .i64 0, .int .i64 0, .int .i64 0] 93)) (newi w.heap.size) := ⟨new_chi w, ring_nil rfl rfl⟩

/-- insert, of a chain that is a ring. -/
theorem insert_anyi (s : ChS Int) (x : Int) (xs ys : List Int) (w : World) (hc : Gdi w s) (hs : s.hs = xs ++ ys) (hg : (Lit.int .i64 (s.g + 1)).wf = true) (hn : s.hs.length < maxLen) :
    Calls Try.prog 58 #[.pointer (some ⟨s.C, 0, none⟩), .int .i64 x, .int .i64 (ys.headD 0)] w fun e w' => e = .returned (.int .i64 (s.g + 1)) ∧
      ChToi w w' s (s.g + 1) (xs.map (fun h => (h, s.vl h)) ++ (s.g + 1, x) :: ys.map (fun h => (h, s.vl h))) := by
  have ho : ys.headD 0 = 0 ∨ ys.headD 0 ∈ s.hs := by
    rw [hs]; cases ys <;> simp
  have hp := ring_before hc.ring ho
  have key : ∀ w', InsToi w w' s x (ys.headD 0) → ChToi w w' s (s.g + 1) (xs.map (fun h => (h, s.vl h)) ++ (s.g + 1, x) :: ys.map (fun h => (h, s.vl h))) := by
    rintro w' ⟨m', bl', h1, h2, h3⟩
    have hfr : s.g + 1 ∉ xs ++ ys := hs ▸ hc.ch.freshi
    have hperm : (xs ++ (s.g + 1) :: ys).Perm (s.hs ++ [s.g + 1]) := by
      rw [hs]
      exact List.perm_middle.trans (List.perm_append_singleton _ _).symm
    have hnd : (0 :: (xs ++ (s.g + 1) :: ys)).Nodup := by
      refine List.nodup_cons.2 ⟨fun h0 => ?_, hperm.nodup_iff.2 h1.nd⟩
      have h4 := h1.pos 0 (hperm.mem_iff.1 h0)
      exact absurd h4.1 (by omega)
    refine ⟨_, ⟨h1.perm hperm, ring_join (hs ▸ hc.ring) hnd⟩, rfl, rfl, ?_, h2, fun b hb => h3 b ?_⟩
    · show (xs ++ (s.g + 1) :: ys).map (fun h => (h, upd s.vl (s.g + 1) x h)) = _
      rw [List.map_append, List.map_cons, upd_same, row_ext (f := upd s.vl (s.g + 1) x) (g := s.vl) (hs := xs) (fun y hy => upd_other _ _ (fun e => hfr (by simp [← e, hy]))), row_ext (f := upd s.vl (s.g + 1) x) (g := s.vl) (hs := ys) (fun y hy => upd_other _ _ (fun e => hfr (by simp [← e, hy])))]
    · rcases hb with hb | hb | ⟨y, hy, hb⟩
      · exact .inl hb
      · exact .inr (.inl hb)
      · exact .inr (.inr ⟨y, hperm.mem_iff.1 hy, hb⟩)
  rcases hm : s.m with _ | mb
  · exact (insert_nili s x _ w hm hc.ch ho hp hg hn).mono fun e w' h => ⟨h.1, key w' h.2⟩
  · exact (insert_mapi s mb x _ w hm hc.ch ho hp hg hn).mono fun e w' h => ⟨h.1, key w' h.2⟩

set_option maxHeartbeats 400000 in
/-- Last. -/
theorem last_anyi (s : ChS Int) (x : Int) (w : World) (hc : Gdi w s) (hg : (Lit.int .i64 (s.g + 1)).wf = true) (hn : s.hs.length < maxLen) :
    Calls Try.prog 46 #[.pointer (some ⟨s.C, 0, none⟩), .int .i64 x] w fun e w' => e = .returned (.int .i64 (s.g + 1)) ∧ ChToi w w' s (s.g + 1) (s.row ++ [(s.g + 1, x)]) := by
  have hi := insert_anyi s x s.hs [] w hc (by simp) hg hn
  go_enter Try.func46, Try.ntmps46
  go_wp2_with fail
  refine hi.mono ?_
  rintro e w' ⟨rfl, h⟩
  clear hi
  go_wp2
  go_ret
  exact ⟨rfl, h⟩
theorem last_nili (x : Int) (w : World) : Calls Try.prog 46 #[.pointer none, .int .i64 x] w fun e w' => e = .returned (.int .i64 0) ∧ w = w' := by
  go_enter Try.func46, Try.ntmps46
  go_wp2
  go_ret
  exact ⟨rfl, rfl⟩

end Go.Proofs.Ytblclpagfbpamaa
