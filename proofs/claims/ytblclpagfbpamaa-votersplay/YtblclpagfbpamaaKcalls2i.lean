/-
  What Remove and Move do, at members of the type int; on a nil chain too. The conditions stand in each theorem.
-/
import Derived.Test.YtblclpagfbpamaaKcallsi
import Derived.Maps.OwnSet
namespace Go.Proofs.Ytblclpagfbpamaa
open Go.RowKit
set_option linter.unusedVariables false

/-- A chain without one of its members. -/
theorem strucki {s : ChS Int} {h : Int} {xs ys : List Int} {w w2 w3 : World} (hc : Gdi w s) (hs : s.hs = xs ++ h :: ys) (mb : Nat) (hm : s.m = some mb)
    (h2 : Lki w w2 s { s with bf := upd s.bf (s.af h) (s.bf h), af := upd s.af (s.bf h) (s.af h) })
    (hmp : Mp Try.prog 3 w3 (some mb) (upd (fH s.hs s.bl) h none) (s.hs.length - 1)) (hgr : w2.grownBy w3 (some mb)) : ChToi w w3 s s.g (delR h s.row) := by
  have hperm : s.hs.Perm (h :: (xs ++ ys)) := by rw [hs]; exact List.perm_middle
  have hnd := hperm.nodup_iff.1 hc.ch.nd
  have hnx : h ∉ xs := fun hx => (List.nodup_cons.1 hnd).1 (by simp [hx])
  have hny : h ∉ ys := fun hx => (List.nodup_cons.1 hnd).1 (by simp [hx])
  have h3 : Chi w3 _ := h2.1.strike (s := { s with bf := upd s.bf (s.af h) (s.bf h), af := upd s.af (s.bf h) (s.af h) }) (h := h) (hs := xs ++ ys) hm hperm hmp (fun c hcf hcm => hgr.block c (h2.1.lt hcf) (fun e => hcm (by show s.m = some c; rw [hm, ← e])))
  refine ⟨_, ⟨h3, ring_part (hs ▸ hc.ring) (hs ▸ hc.nd0)⟩, rfl, rfl, ?_, h2.2.trans (Turns.grown (F := s.foot) hgr (fun r e => by cases e; exact .inr (.inl hm))) (fun _ => .inl), fun b hb => .inl ?_⟩
  · show (xs ++ ys).map (fun h => (h, s.vl h)) = delR h (s.hs.map fun h => (h, s.vl h))
    rw [hs, List.map_append, List.map_append, List.map_cons, delR_mid (row_ne hnx) rfl (row_ne hny)]
  · rcases hb with hb | hb | ⟨y, hy, hb⟩
    · exact .inl hb
    · exact .inr (.inl hb)
    · exact .inr (.inr ⟨y, hperm.mem_iff.2 (by simp at hy ⊢; exact .inr hy), hb⟩)

theorem has_mapi {s : ChS Int} {w : World} (hc : Chi w s) {h : Int} (hh : h ∈ s.hs) : ∃ mb, s.m = some mb := by
  cases hm : s.m with
  | none =>
    have := hc.mp
    rw [hm] at this
    have h0 := List.eq_nil_of_length_eq_zero this.1
    rw [h0] at hh
    cases hh
  | some mb => exact ⟨mb, rfl⟩

set_option maxHeartbeats 800000 in
/-- Remove, of a member that is there. -/
theorem remove_yesi (s : ChS Int) (h : Int) (w : World) (hc : Gdi w s) (hh : h ∈ s.hs) :
    Calls Try.prog 36 #[.pointer (some ⟨s.C, 0, none⟩), .int .i64 h] w fun e w' => e = .returned (.tuple #[.int .i64 (s.vl h), .bool true]) ∧ ChToi w w' s s.g (delR h s.row) := by
  obtain ⟨xs, ys, hs⟩ := List.append_of_mem hh
  obtain ⟨mb, hm⟩ := has_mapi hc.ch hh
  have hwf := hc.ch.wf (.inr hh)
  have hf := find_anyi s h w hc.ch hwf
  rw [fH_mem hh] at hf
  simp only [chP] at hf
  have hpt := part_anyi s h w hc.ch (.inr hh) (ring_before hc.ring (.inr hh)) (ring_after hc.ring (.inr hh))
  have HS := Lib.hid hs
  have HM := Lib.hid hm
  clear hs hm
  go_enter Try.func36, Try.ntmps36
  go_wp2_with fail
  refine hf.mono ?_
  rintro e w' ⟨rfl, rfl⟩
  clear hf
  go_wp2_with fail
  refine hpt.mono ?_
  rintro e w2 ⟨rfl, h2⟩
  clear hpt
  have c0 := h2.1.blk.cell 0
  have hmp := h2.1.mp
  have hkb := h2.1.mem h hh
  simp only [HM.out] at c0 hmp
  simp at c0
  go_wp2_with (at_delete; refine wpList_chDrop rfl _ _ _ rfl hmp Try.underlying3 Try.underlying89 hwf (fH_mem hh) rfl rfl ?_; intro w3 hmp3 hgr; have hv := (hkb.keep (hgr.block _ hkb.lt (fun e => by
    have hi := hmp.isMap
    obtain ⟨es, c, hi⟩ := hi
    have hk := hkb
    unfold KB at hk
    rw [show s.bl h = mb by simpa using e, hi] at hk
    cases hk))).cell 2; simp at hv; have hst := Lib.hid (strucki hc HS.out mb HM.out h2 hmp3 hgr); clear hmp hkb hmp3 hgr c0 h2)
  go_ret2
  exact ⟨rfl, hst.out⟩
set_option maxHeartbeats 400000 in
theorem remove_noi (s : ChS Int) (h : Int) (w : World) (hc : Gdi w s) (hh : h ∉ s.hs) (hw : (Lit.int .i64 h).wf = true) :
    Calls Try.prog 36 #[.pointer (some ⟨s.C, 0, none⟩), .int .i64 h] w fun e w' => e = .returned (.tuple #[.int .i64 0, .bool false]) ∧ w = w' := by
  have hf := find_anyi s h w hc.ch hw
  rw [fH_not hh] at hf
  simp only [chP] at hf
  go_enter Try.func36, Try.ntmps36
  go_wp2_with fail
  refine hf.mono ?_
  rintro e w' ⟨rfl, rfl⟩
  clear hf
  go_wp2
  go_ret2
  exact ⟨rfl, rfl⟩
set_option maxHeartbeats 400000 in
theorem remove_nili (h : Int) (w : World) :
    Calls Try.prog 36 #[.pointer none, .int .i64 h] w fun e w' => e = .returned (.tuple #[.int .i64 0, .bool false]) ∧ w = w' := by
  go_enter Try.func36, Try.ntmps36
  go_wp2_with fail
  refine (find_nili h w).mono ?_
  rintro e w' ⟨rfl, rfl⟩
  go_wp2
  go_ret2
  exact ⟨rfl, rfl⟩

/-- The row in which h stands ahead of o. -/
theorem movedi {s : ChS Int} {h o : Int} {w w2 w3 : World} (hc : Gdi w s) (hh : h ∈ s.hs) (ho : o ∈ s.hs) (hne : h ≠ o)
    (h2 : Lki w w2 s { s with bf := upd s.bf (s.af h) (s.bf h), af := upd s.af (s.bf h) (s.af h) })
    (h3 : Lki w2 w3 { s with bf := upd s.bf (s.af h) (s.bf h), af := upd s.af (s.bf h) (s.af h) }
      { s with bf := upd (upd (upd s.bf (s.af h) (s.bf h)) h (upd s.bf (s.af h) (s.bf h) o)) o h, af := upd (upd (upd s.af (s.bf h) (s.af h)) h o) (upd s.bf (s.af h) (s.bf h) o) h }) :
    ChToi w w3 s s.g (insB o (h, s.vl h) (delR h s.row)) := by
  obtain ⟨xs, ys, hs⟩ := List.append_of_mem hh
  have hperm : s.hs.Perm (h :: (xs ++ ys)) := by rw [hs]; exact List.perm_middle
  have hnd := hperm.nodup_iff.1 hc.ch.nd
  have hr := ring_part (hs ▸ hc.ring) (hs ▸ hc.nd0)
  have ho' : o ∈ xs ++ ys := by
    have := hperm.mem_iff.1 ho
    simp only [List.mem_cons] at this
    exact this.resolve_left (fun e => hne e.symm)
  obtain ⟨us, vs, huv⟩ := List.append_of_mem ho'
  rw [huv] at hr
  have hp2 : (us ++ h :: o :: vs).Perm s.hs := by
    refine (List.perm_middle.trans ?_).trans hperm.symm
    rw [huv]
  have hnd2 : (0 :: (us ++ h :: o :: vs)).Nodup := List.nodup_cons.2 ⟨fun h0 => by have := hc.ch.pos 0 (hp2.mem_iff.1 h0); omega, hp2.nodup_iff.2 hc.ch.nd⟩
  have hj := ring_join (h := h) hr hnd2
  have hnx : h ∉ xs := fun hx => (List.nodup_cons.1 hnd).1 (by simp [hx])
  have hny : h ∉ ys := fun hx => (List.nodup_cons.1 hnd).1 (by simp [hx])
  have hou : o ∉ us := fun hx => by
    have h4 := (List.nodup_cons.1 hnd2).2
    rw [List.nodup_append] at h4
    exact h4.2.2 o hx o (by simp) rfl
  refine ⟨_, ⟨h3.1.perm hp2, hj⟩, rfl, rfl, ?_, h2.2.trans h3.2 (fun _ => .inl), fun b hb => .inl ?_⟩
  · show (us ++ h :: o :: vs).map (fun h => (h, s.vl h)) = insB o (h, s.vl h) (delR h (s.hs.map fun h => (h, s.vl h)))
    rw [hs, List.map_append (l₁ := xs), List.map_cons, delR_mid (row_ne hnx) rfl (row_ne hny), ← List.map_append, huv]
    simp only [List.map_append, List.map_cons]
    exact (insB_mid (row_ne hou) rfl).symm
  · rcases hb with hb | hb | ⟨y, hy, hb⟩
    · exact .inl hb
    · exact .inr (.inl hb)
    · exact .inr (.inr ⟨y, hp2.mem_iff.1 hy, hb⟩)

set_option maxHeartbeats 800000 in
/-- Move, of one member ahead of another. -/
theorem move_yesi (s : ChS Int) (h o : Int) (w : World) (hc : Gdi w s) (hh : h ∈ s.hs) (ho : o ∈ s.hs) (hne : h ≠ o) :
    Calls Try.prog 40 #[.pointer (some ⟨s.C, 0, none⟩), .int .i64 h, .int .i64 o] w fun e w' => e = .returned (.int .i64 0) ∧ ChToi w w' s s.g (insB o (h, s.vl h) (delR h s.row)) := by
  have hf := find_anyi s h w hc.ch (hc.ch.wf (.inr hh))
  have hf2 := find_anyi s o w hc.ch (hc.ch.wf (.inr ho))
  rw [fH_mem hh] at hf
  rw [fH_mem ho] at hf2
  simp only [chP] at hf hf2
  have hpt := part_anyi s h w hc.ch (.inr hh) (ring_before hc.ring (.inr hh)) (ring_after hc.ring (.inr hh))
  have hb : upd s.bf (s.af h) (s.bf h) o = 0 ∨ upd s.bf (s.af h) (s.bf h) o ∈ s.hs := by
    unfold upd
    split
    · exact ring_before hc.ring (.inr hh)
    · exact ring_before hc.ring (.inr ho)
  have hne' : (h == o) = false := by simpa using hne
  have HN := Lib.hid hne
  clear hne
  go_enter Try.func40, Try.ntmps40
  go_wp2_with fail
  refine hf.mono ?_
  rintro e w' ⟨rfl, rfl⟩
  clear hf
  go_wp2_with fail
  refine hf2.mono ?_
  rintro e w' ⟨rfl, rfl⟩
  clear hf2
  go_wp2_with fail
  refine hpt.mono ?_
  rintro e w2 ⟨rfl, h2⟩
  clear hpt
  go_wp2_with fail
  refine (join_anyi _ h o w2 h2.1 (.inr hh) (.inr ho) hb).mono ?_
  rintro e w3 ⟨rfl, h3⟩
  have H := Lib.hid (movedi hc hh ho HN.out h2 h3)
  clear h2 h3
  go_wp2
  go_ret
  exact ⟨rfl, H.out⟩
set_option maxHeartbeats 800000 in
theorem move_noi (s : ChS Int) (h o : Int) (w : World) (hc : Gdi w s) (hw : (Lit.int .i64 h).wf = true) (ho : (Lit.int .i64 o).wf = true) (hn : h ∉ s.hs ∨ o ∉ s.hs) :
    Calls Try.prog 40 #[.pointer (some ⟨s.C, 0, none⟩), .int .i64 h, .int .i64 o] w fun e w' => e = .returned (.int .i64 5) ∧ w = w' := by
  have hf := find_anyi s h w hc.ch hw
  have hf2 := find_anyi s o w hc.ch ho
  by_cases hh : h ∈ s.hs
  · rw [fH_mem hh] at hf
    rw [fH_not (hn.resolve_left (fun x => x hh))] at hf2
    simp only [chP] at hf hf2
    clear hn
    go_enter Try.func40, Try.ntmps40
    go_wp2_with fail
    refine hf.mono ?_
    rintro e w' ⟨rfl, rfl⟩
    clear hf
    go_wp2_with fail
    refine hf2.mono ?_
    rintro e w' ⟨rfl, rfl⟩
    clear hf2
    go_wp2
    go_ret
    exact ⟨rfl, rfl⟩
  · rw [fH_not hh] at hf
    simp only [chP] at hf
    clear hn hf2
    go_enter Try.func40, Try.ntmps40
    go_wp2_with fail
    refine hf.mono ?_
    rintro e w' ⟨rfl, rfl⟩
    clear hf
    go_wp2
    go_ret
    exact ⟨rfl, rfl⟩
set_option maxHeartbeats 800000 in
theorem move_selfi (s : ChS Int) (h : Int) (w : World) (hc : Gdi w s) (hh : h ∈ s.hs) :
    Calls Try.prog 40 #[.pointer (some ⟨s.C, 0, none⟩), .int .i64 h, .int .i64 h] w fun e w' => e = .returned (.int .i64 1) ∧ w = w' := by
  have hf := find_anyi s h w hc.ch (hc.ch.wf (.inr hh))
  rw [fH_mem hh] at hf
  simp only [chP] at hf
  go_enter Try.func40, Try.ntmps40
  go_wp2_with fail
  refine hf.mono ?_
  rintro e w' ⟨rfl, rfl⟩
  go_wp2_with fail
  refine hf.mono ?_
  rintro e w' ⟨rfl, rfl⟩
  clear hf
  go_wp2
  go_ret
  exact ⟨rfl, rfl⟩
theorem move_nili (h o : Int) (w : World) :
    Calls Try.prog 40 #[.pointer none, .int .i64 h, .int .i64 o] w fun e w' => e = .returned (.int .i64 1) ∧ w = w' := by
  go_enter Try.func40, Try.ntmps40
  go_wp2
  go_ret
  exact ⟨rfl, rfl⟩
end Go.Proofs.Ytblclpagfbpamaa
