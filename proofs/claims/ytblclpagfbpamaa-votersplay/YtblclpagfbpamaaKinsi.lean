/-
  What insert does to a chain whose members are of the type int: a new member, with the next handle, ahead of another or at the end. The conditions stand in each theorem.
-/
import Derived.Test.YtblclpagfbpamaaKjoini
import Derived.RegionTactic
import Derived.BigRegion
import Derived.WalkSpells
namespace Go.Proofs.Ytblclpagfbpamaa
open Go.RowKit
set_option linter.unusedVariables false

theorem upd_updi {β : Type} (f : Int → β) (h : Int) (x y : β) : upd (upd f h x) h y = upd f h y := by funext k; unfold upd; split <;> rfl

/-- A chain with one member more. -/
def InsToi (w w' : World) (s : ChS Int) (x : Int) (o : Int) : Prop :=
  ∃ m' bl', Chi w' ⟨s.C, m', s.g + 1, s.hs ++ [s.g + 1], bl', upd (upd s.bf (s.g + 1) (s.bf o)) o (s.g + 1), upd (upd s.af (s.g + 1) o) (s.bf o) (s.g + 1), upd s.vl (s.g + 1) x⟩ ∧
    Turns s.foot w w' ∧ ∀ b, ChS.foot (β := Int) ⟨s.C, m', s.g + 1, s.hs ++ [s.g + 1], bl', upd (upd s.bf (s.g + 1) (s.bf o)) o (s.g + 1), upd (upd s.af (s.g + 1) o) (s.bf o) (s.g + 1), upd s.vl (s.g + 1) x⟩ b → s.foot b ∨ w.heap.size ≤ b

theorem Ch.freshi {w : World} {s : ChS Int} (hc : Chi w s) : s.g + 1 ∉ s.hs := fun h => by have := hc.pos _ h; omega

theorem wrap_nexti {g : Int} (h0 : 0 ≤ g) (h : (Lit.int .i64 (g + 1)).wf = true) : IntKind.i64.wrap (g + 1) = g + 1 := by
  simp only [Lit.wf, decide_eq_true_eq, Bool.and_eq_true] at h
  have : IntKind.i64.max = 9223372036854775807 := by decide
  exact IntWalk.i64_in _ (by omega)

/-- What the region leaves that lays a member and enters it. -/
theorem laidi (s : ChS Int) (mb : Nat) (x : Int) (w1 : World) (c1 : Chi w1 ⟨s.C, some mb, s.g + 1, s.hs, s.bl, s.bf, s.af, s.vl⟩) (hfr : s.g + 1 ∉ s.hs) (hg0 : 0 ≤ s.g) (hn : s.hs.length < maxLen) :
    ∃ w2, (Instr.mapUpdate 89 (.map (some mb)) (.int .i64 (s.g + 1)) (.pointer (some ⟨w1.heap.size, 0, none⟩))).run Try.prog ((w1.alloc (.cells #[.int .i64 0, .int .i64 0, .int .i64 x] 95)).drew) = .ok () w2 ∧
      Chi w2 ⟨s.C, some mb, s.g + 1, s.hs ++ [s.g + 1], upd s.bl (s.g + 1) w1.heap.size, upd s.bf (s.g + 1) 0, upd s.af (s.g + 1) 0, upd s.vl (s.g + 1) x⟩ ∧
      Turns (fun b => b = mb) w1 w2 := by
  have ca := (c1.alloc (.cells #[.int .i64 0, .int .i64 0, .int .i64 x] 95)).drew
  obtain ⟨w2, hrun, hmp2, hgr⟩ := Mp.store (t := 89) ca.mp Try.underlying3 Try.underlying89 hn c1.gw (fH_not hfr) w1.heap.size
  have hmlt : mb < w1.heap.size := c1.lt (.inr (.inl rfl))
  have hkb : KB ((w1.alloc (.cells #[.int .i64 0, .int .i64 0, .int .i64 x] 95)).drew) w1.heap.size 95 #[.int .i64 0, .int .i64 0, .int .i64 x] := KB.new w1 _ _
  refine ⟨w2, hrun, ?_, ?_⟩
  · refine c1.enter (m := 0) rfl hfr (by show 0 < s.g + 1; omega) (Int.le_refl _) hmp2 (hkb.keep (hgr.block _ hkb.lt (by simp; omega))) (fun hf => Nat.lt_irrefl _ (c1.lt hf)) (fun c hcf hcm => ?_)
    exact (hgr.block c (ca.lt hcf) (fun e => hcm (by rw [e]))).trans (Below.heap_alloc w1 _ c (c1.lt hcf))
  · exact ((Turns.alloc _ w1 _).drew).trans (Turns.grown hgr (F := fun b => b = mb) (fun r e => by cases e; rfl)) (fun _ => .inl)

set_option maxHeartbeats 1600000 in
/-- insert, where the map is there. -/
theorem insert_mapi (s : ChS Int) (mb : Nat) (x : Int) (o : Int) (w : World) (hm : s.m = some mb) (hc : Chi w s) (ho : o = 0 ∨ o ∈ s.hs) (hp : s.bf o = 0 ∨ s.bf o ∈ s.hs) (hg : (Lit.int .i64 (s.g + 1)).wf = true) (hn : s.hs.length < maxLen) :
    Calls Try.prog 58 #[.pointer (some ⟨s.C, 0, none⟩), .int .i64 x, .int .i64 o] w fun e w' => e = .returned (.int .i64 (s.g + 1)) ∧ InsToi w w' s x o := by
  have c0 := hc.blk.cell 0
  have c3 := hc.blk.cell 3
  have f0 := hc.blk.frozen 0
  have f3 := hc.blk.frozen 3
  simp [hm] at c0 c3
  have hwr := wrap_nexti hc.g0 hg
  have hq : ∀ (w : World) (r : Option Nat), (binOp .eql 89 (.map r) (.map none)).run Try.prog w = .ok (.bool r.isNone) w := fun w r => run_eql_map_nil w _ _ _ r Try.underlying89
  have hg0 := hc.g0
  have hfr := hc.freshi
  have c1 : Chi (w.setCell ⟨s.C, 3, none⟩ (.int .i64 (s.g + 1))) ⟨s.C, some mb, s.g + 1, s.hs, s.bl, s.bf, s.af, s.vl⟩ := by
    have := hc.setG tnei (x := s.g + 1) (by omega) hg
    rwa [hm] at this
  have t1 : Turns s.foot w (w.setCell ⟨s.C, 3, none⟩ (.int .i64 (s.g + 1))) := Turns.setCell _ _ _ (.inl rfl)
  have ft : ∀ b, b = mb → s.foot b ∨ w.heap.size ≤ b := fun b e => .inl (.inr (.inl (by rw [hm, e])))
  have HF := Lib.hid ft
  clear hm ft
  go_enter Try.func58, Try.ntmps58
  go_wp2_with fail
  clear c0 c3 f0 f3 hwr hq
  generalize (w.setCell ⟨s.C, 3, none⟩ (.int .i64 (s.g + 1))) = w1 at c1 t1 ⊢
  have d0 := c1.blk.cell 0
  have d3 := c1.blk.cell 3
  simp at d0 d3
  have e0 := (c1.alloc (.cells #[.int .i64 0, .int .i64 0, .int .i64 x] 95)).blk.cell 0
  have e3 := (c1.alloc (.cells #[.int .i64 0, .int .i64 0, .int .i64 x] 95)).blk.cell 3
  simp at e0 e3
  obtain ⟨w2, hrun, c2, t2⟩ := laidi s mb x w1 c1 hfr hg0 hn
  go_region
  clear d0 d3 e0 e3 hrun
  have t3 := t1.trans t2 (HF.out)
  have hlb : w.heap.size ≤ w1.heap.size := t1.size
  clear t1 t2
  have d3 := c2.blk.cell 3
  simp at d3
  have hho : o ≠ s.g + 1 := by
    rcases ho with rfl | ho
    · omega
    · exact fun e => hfr (e ▸ ho)
  have hbo : upd s.bf (s.g + 1) 0 o = s.bf o := upd_other _ _ hho
  have HB := Lib.hid hbo
  go_wp2_with fail
  refine (join_anyi _ (s.g + 1) o w2 c2 (.inr (by simp)) (ho.imp id (fun h => by simp [h])) (by show upd s.bf (s.g + 1) 0 o = 0 ∨ upd s.bf (s.g + 1) 0 o ∈ _; rw [hbo]; exact hp.imp id (fun h => by simp [h]))).mono ?_
  rintro e w3 ⟨rfl, c3, t4⟩
  clear hbo
  have d4 := c3.blk.cell 3
  simp at d4
  go_wp2
  go_ret
  have hft : ∀ b, ChS.foot (β := Int) ⟨s.C, some mb, s.g + 1, s.hs ++ [s.g + 1], upd s.bl (s.g + 1) w1.heap.size, upd s.bf (s.g + 1) 0, upd s.af (s.g + 1) 0, upd s.vl (s.g + 1) x⟩ b → s.foot b ∨ w.heap.size ≤ b := by
    rintro b (rfl | hb | ⟨y, hy, rfl⟩)
    · exact .inl (.inl rfl)
    · exact HF.out b (by cases hb; rfl)
    · simp only [List.mem_append, List.mem_singleton] at hy
      rcases hy with hy | rfl
      · show s.foot (upd s.bl (s.g + 1) w1.heap.size y) ∨ w.heap.size ≤ upd s.bl (s.g + 1) w1.heap.size y
        rw [upd_other _ _ (fun e : y = s.g + 1 => hfr (e ▸ hy))]
        exact .inl (.inr (.inr ⟨y, hy, rfl⟩))
      · show s.foot (upd s.bl (s.g + 1) w1.heap.size (s.g + 1)) ∨ w.heap.size ≤ upd s.bl (s.g + 1) w1.heap.size (s.g + 1)
        rw [upd_same]; exact .inr hlb
  refine ⟨rfl, some mb, upd s.bl (s.g + 1) w1.heap.size, ?_, t3.trans t4 hft, hft⟩
  have e := HB.out
  simp only [e, upd_updi] at c3
  exact c3

set_option maxHeartbeats 1600000 in
/-- insert, where the map is made now. -/
theorem insert_nili (s : ChS Int) (x : Int) (o : Int) (w : World) (hm : s.m = none) (hc : Chi w s) (ho : o = 0 ∨ o ∈ s.hs) (hp : s.bf o = 0 ∨ s.bf o ∈ s.hs) (hg : (Lit.int .i64 (s.g + 1)).wf = true) (hn : s.hs.length < maxLen) :
    Calls Try.prog 58 #[.pointer (some ⟨s.C, 0, none⟩), .int .i64 x, .int .i64 o] w fun e w' => e = .returned (.int .i64 (s.g + 1)) ∧ InsToi w w' s x o := by
  have c0 := hc.blk.cell 0
  have c3 := hc.blk.cell 3
  have f0 := hc.blk.frozen 0
  have f3 := hc.blk.frozen 3
  simp [hm] at c0 c3
  have hwr := wrap_nexti hc.g0 hg
  have hq : ∀ (w : World) (r : Option Nat), (binOp .eql 89 (.map r) (.map none)).run Try.prog w = .ok (.bool r.isNone) w := fun w r => run_eql_map_nil w _ _ _ r Try.underlying89
  have hg0 := hc.g0
  have hfr := hc.freshi
  have cm := hc.make tnei hm
  have c1 : Chi (((w.alloc (.map #[] 0)).setCell ⟨s.C, 0, none⟩ (.map (some w.heap.size))).setCell ⟨s.C, 3, none⟩ (.int .i64 (s.g + 1))) ⟨s.C, some w.heap.size, s.g + 1, s.hs, s.bl, s.bf, s.af, s.vl⟩ := cm.setG tnei (x := s.g + 1) (by show s.g ≤ s.g + 1; omega) hg
  have t1 : Turns s.foot w (((w.alloc (.map #[] 0)).setCell ⟨s.C, 0, none⟩ (.map (some w.heap.size))).setCell ⟨s.C, 3, none⟩ (.int .i64 (s.g + 1))) := ((Turns.alloc s.foot w _).trans (Turns.setCell (F := s.foot) _ _ _ (.inl rfl)) (fun _ => .inl)).trans (Turns.setCell (F := s.foot) _ _ _ (.inl rfl)) (fun _ => .inl)
  have hW : (((w.alloc (.map #[] 0)).setCell ⟨s.C, 0, none⟩ (.map (some w.heap.size))).setCell ⟨s.C, 3, none⟩ (.int .i64 (s.g + 1))) = (((w.setCell ⟨s.C, 0, none⟩ (.map (some w.heap.size))).setCell ⟨s.C, 3, none⟩ (.int .i64 (s.g + 1))).alloc (.map #[] 0)) := by rw [World.setCell_alloc_past _ _ _ _ hc.blk.lt, World.setCell_alloc_past _ _ _ _ (by simp [World.setCell]; exact hc.blk.lt)]
  rw [hW] at c1 t1
  clear hW
  have ft : ∀ b, b = w.heap.size → s.foot b ∨ w.heap.size ≤ b := fun b e => .inr (by omega)
  have hmm := @run_makeMap Try.prog
  have hlt := hc.blk.lt
  clear cm
  have HF := Lib.hid ft
  clear hm ft
  go_enter Try.func58, Try.ntmps58
  go_wp2_with fail
  clear c0 c3 f0 f3 hwr hq hmm hlt
  have hsz : w.heap.size ≤ (((w.setCell ⟨s.C, 0, none⟩ (.map (some w.heap.size))).setCell ⟨s.C, 3, none⟩ (.int .i64 (s.g + 1))).alloc (.map #[] 0)).heap.size := t1.size
  generalize (((w.setCell ⟨s.C, 0, none⟩ (.map (some w.heap.size))).setCell ⟨s.C, 3, none⟩ (.int .i64 (s.g + 1))).alloc (.map #[] 0)) = w1 at c1 t1 hsz ⊢
  obtain ⟨mb, hmb⟩ : ∃ mb, w.heap.size = mb := ⟨_, rfl⟩
  rw [hmb] at c1 HF hsz ⊢
  have d0 := c1.blk.cell 0
  have d3 := c1.blk.cell 3
  simp at d0 d3
  have e0 := (c1.alloc (.cells #[.int .i64 0, .int .i64 0, .int .i64 x] 95)).blk.cell 0
  have e3 := (c1.alloc (.cells #[.int .i64 0, .int .i64 0, .int .i64 x] 95)).blk.cell 3
  simp at e0 e3
  obtain ⟨w2, hrun, c2, t2⟩ := laidi s mb x w1 c1 hfr hg0 hn
  go_region
  clear d0 d3 e0 e3 hrun
  have t3 := t1.trans t2 (fun b e => .inr (by omega))
  have hlb : w.heap.size ≤ w1.heap.size := t1.size
  clear t1 t2
  have d3 := c2.blk.cell 3
  simp at d3
  have hho : o ≠ s.g + 1 := by
    rcases ho with rfl | ho
    · omega
    · exact fun e => hfr (e ▸ ho)
  have hbo : upd s.bf (s.g + 1) 0 o = s.bf o := upd_other _ _ hho
  have HB := Lib.hid hbo
  go_wp2_with fail
  refine (join_anyi _ (s.g + 1) o w2 c2 (.inr (by simp)) (ho.imp id (fun h => by simp [h])) (by show upd s.bf (s.g + 1) 0 o = 0 ∨ upd s.bf (s.g + 1) 0 o ∈ _; rw [hbo]; exact hp.imp id (fun h => by simp [h]))).mono ?_
  rintro e w3 ⟨rfl, c3, t4⟩
  clear hbo
  have d4 := c3.blk.cell 3
  simp at d4
  go_wp2
  go_ret
  have hft : ∀ b, ChS.foot (β := Int) ⟨s.C, some mb, s.g + 1, s.hs ++ [s.g + 1], upd s.bl (s.g + 1) w1.heap.size, upd s.bf (s.g + 1) 0, upd s.af (s.g + 1) 0, upd s.vl (s.g + 1) x⟩ b → s.foot b ∨ w.heap.size ≤ b := by
    rintro b (rfl | hb | ⟨y, hy, rfl⟩)
    · exact .inl (.inl rfl)
    · exact .inr (by cases hb; omega)
    · simp only [List.mem_append, List.mem_singleton] at hy
      rcases hy with hy | rfl
      · show s.foot (upd s.bl (s.g + 1) w1.heap.size y) ∨ w.heap.size ≤ upd s.bl (s.g + 1) w1.heap.size y
        rw [upd_other _ _ (fun e : y = s.g + 1 => hfr (e ▸ hy))]
        exact .inl (.inr (.inr ⟨y, hy, rfl⟩))
      · show s.foot (upd s.bl (s.g + 1) w1.heap.size (s.g + 1)) ∨ w.heap.size ≤ upd s.bl (s.g + 1) w1.heap.size (s.g + 1)
        rw [upd_same]; exact .inr hlb
  refine ⟨rfl, some mb, upd s.bl (s.g + 1) w1.heap.size, ?_, t3.trans t4 hft, hft⟩
  have e := HB.out
  simp only [e, upd_updi] at c3
  exact c3

end Go.Proofs.Ytblclpagfbpamaa
