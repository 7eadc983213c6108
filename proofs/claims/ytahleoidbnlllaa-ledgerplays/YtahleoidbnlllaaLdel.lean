/-
  slices.Delete of the first chunks, slices.Clone of chunks. The conditions stand in each theorem.
-/
import Derived.Test.YtahleoidbnlllaaLins
namespace Go.Proofs.Ytahleoidbnlllaa
open Go.RowKit
set_option linter.unusedVariables false

theorem zc_one (k : Nat) : ∀ v ∈ (Builtin.zeroCells (Value.agg #[.int .u64 0, .int .i64 0]).cells k).toList, v.oneCell' = true := by
  intro v hv
  simp [Builtin.zeroCells, Value.cells] at hv
  obtain ⟨i, _, rfl⟩ := hv
  rcases Nat.mod_two_eq_zero_or_one i with e | e <;> simp [e, Value.oneCell']
theorem ckZero : ∀ W, (zeroValue 53).run Try.prog W = .ok (.agg #[.int .u64 0, .int .i64 0]) W := fun W => by
  obtain ⟨i0, hi, hz0, hz1, hz2⟩ := info_parts ckInfo
  simp [zeroValue, typeInfo, hi, hz0]
set_option maxHeartbeats 3200000 in
set_option maxRecDepth 100000 in
theorem del_some {base : Nat} {w : World} {g n cap due : Nat} {ch : List Ck} (h : w.ownsRow base 53 2 (.slice (some ⟨g, 0, none⟩) n cap) n (ccs ch)) (hn : n = ch.length) (hd : due ≤ n) (h0 : 0 < due) (h8 : n ≤ 8) :
    Calls Try.prog 52 #[.slice (some ⟨g, 0, none⟩) n cap, .int .i64 0, .int .i64 (due : Nat)] w (InsTo base w (.slice (some ⟨g, 0, none⟩) n cap) (ch.drop due)) := by
  obtain ⟨i0, hi0, hz0, hz1, hz2⟩ := info_parts ckInfo
  obtain ⟨Y, hcm, hnc, k0, hYl⟩ : ∃ Y : List Value, cap ≤ maxLen ∧ n ≤ cap ∧ KB w g 53 (ccs ch ++ Y).toArray ∧ Y.length = (cap - n) * 2 := by
    rcases own_forms h with ⟨e, _⟩ | ⟨g', cap', e, _, hnc, hcm, _, cur, hgk, hcs, htk⟩
    · cases e
    · cases e
      have hl : cur.toList.length = cap * 2 := by simpa using hcs
      refine ⟨cur.toList.drop (n * 2), hcm, hnc, ?_, by rw [List.length_drop, hl]; omega⟩
      rw [← htk, List.take_append_drop]
      simpa [KB] using hgk
  have hld : (ch.drop due).length = n - due := by rw [List.length_drop]; omega
  have hcl : (ccs ch).length = n * 2 := by rw [ccs_len, hn]
  have hdl : (ccs (ch.drop due)).length = (n - due) * 2 := by rw [ccs_len, hld]
  obtain ⟨ad, had⟩ : ∃ ad : Addr, ad = (if cap = due then ⟨g, 0, none⟩ else ⟨g, due * 2, none⟩) := ⟨_, rfl⟩
  have hra : ∀ ty sc, (Builtin.append_ #[47, 47] ty #[.slice (some ⟨g, 0, none⟩) 0 cap, .slice (some ad) (n - due) sc]).run Try.prog w.drew = .ok (.slice (some ⟨g, 0, none⟩) (n - due) cap) (w.drew.setRow g (ccs (ch.drop due) ++ (ccs ch ++ Y).drop ((n - due) * 2)).toArray) := fun ty sc => by
    have := run_append_room (P := Try.prog) w.drew 47 ty 53 i0 Try.underlying47 hi0 g 0 cap (ccs ch ++ Y).toArray k0 ad (n - due) sc (ccs (ch.drop due)) (by rw [hz1, hdl]) (fun j u hu => by
      have hj := (List.getElem?_eq_some_iff.1 hu).1
      rw [had, if_neg (by omega), addr_add, KB.cell (show KB w.drew g _ _ from k0), List.getElem?_toArray, List.getElem?_append_left (by omega)]
      rw [← ccs_drop, List.getElem?_drop] at hu
      exact hu) (ccs_one _) (by omega) (by simp [hdl, hcl, hYl]; omega)
    simp only [Nat.zero_add, Nat.zero_mul, hdl] at this
    simpa using this
  have k1 : KB (w.drew.setRow g (ccs (ch.drop due) ++ (ccs ch ++ Y).drop ((n - due) * 2)).toArray) g 53 (ccs (ch.drop due) ++ (ccs ch ++ Y).drop ((n - due) * 2)).toArray := setRow_heap w.drew g _ _ _ _ k0
  have t1 := turns_setRow w.drew g (ccs (ch.drop due) ++ (ccs ch ++ Y).drop ((n - due) * 2)).toArray
  generalize (w.drew.setRow g (ccs (ch.drop due) ++ (ccs ch ++ Y).drop ((n - due) * 2)).toArray) = w1 at hra k1 t1
  have T1 : Turns (fun b => b = g) w w1 := ⟨t1.os, t1.tape, t1.output, t1.size, t1.block⟩
  obtain ⟨w2, hrc, k2, t2⟩ := run_clearS (P := Try.prog) w1 47 53 (.agg #[.int .u64 0, .int .i64 0]) g ((n - due) * 2) due _ _ Try.underlying47 ckZero k1 (by simp [hdl, hcl, hYl, Value.cells]; omega) (zc_one _) h0
  rw [splice_mid _ _ _ _ hdl.symm] at k2
  have fin : InsTo base w (.slice (some ⟨g, 0, none⟩) n cap) (ch.drop due) (.returned (.slice (some ⟨g, 0, none⟩) (n - due) cap)) w2 :=
    ⟨_, rfl, own_of_kb k2 (h.lt g rfl).1 hld.symm (by omega) hcm (by simp [hdl, hcl, hYl, Builtin.zeroCells, Value.cells]; omega) _ (by rw [List.append_assoc]), (T1.trans t2 (fun b e => .inl e)).mono (fun b e => .inl (by rw [e]; rfl)), fun g' e => .inl e, fun g' e => by cases e; exact ⟨_, k2⟩⟩
  have HF := Lib.hid fin
  have hdd : n - (n - due) = due := by omega
  have hrc : ∀ ty c, (Builtin.clear_ #[47] ty #[.slice (some ⟨g, (n - due) * 2, none⟩) (n - (n - due)) c]).run Try.prog w1 = .ok (.tuple #[]) w2 := by rw [hdd]; exact hrc
  have hp1 : (due : Int) ≤ (n : Int) := by omega
  have hp2 : ((n - due : Nat) : Int) ≤ (n : Int) := by omega
  have hp3 : n - due ≤ n := by omega
  have hdz : ¬ due = 0 := by omega
  have hcm' : cap ≤ 9223372036854775807 := by unfold maxLen at hcm; omega
  have hcd : ¬ cap = n - due := by omega
  have hnd0 : n - due ≤ cap := by omega
  clear T1 t1 t2 k1 k2 k0 fin hdl hcl hld hYl h hn hcm hz0 hz1 hz2 hi0 hdd
  by_cases hcc : cap = due
  · rw [if_pos hcc] at had
    subst had
    have hnd : n = due := by omega
    subst hnd
    subst hcc
    simp only [Nat.sub_self, Nat.zero_mul, Nat.sub_zero] at hra hrc HF
    go_enter Try.func52, Try.ntmps52
    go_wp2_with fail
    go_region_law (refine step_appR rfl _ _ 47 47 rfl (v := .slice (some ⟨g, 0, none⟩) 0 cap) (u := .slice (some ⟨g, 0, none⟩) 0 0) (by simp [Act.eval, Act.put]) (by simp [Act.eval, Act.put]) (hra _ _) ?_)
    all_goals
      go_wp2_with (at_builtin; refine wpList_clearR rfl _ 47 rfl rfl (hrc _ _) ?_)
      go_ret
      exact HF.out
  · rw [if_neg hcc] at had
    subst had
    go_enter Try.func52, Try.ntmps52
    go_wp2_with fail
    go_region_law (refine step_appR rfl _ _ 47 47 rfl (v := .slice (some ⟨g, 0, none⟩) 0 cap) (u := .slice (some ⟨g, due * 2, none⟩) (n - due) (cap - due)) (by simp [Act.eval, Act.put]) (by simp [Act.eval, Act.put]) (hra _ _) ?_)
    all_goals
      go_wp2_with (at_builtin; refine wpList_clearR rfl _ 47 rfl rfl (hrc _ _) ?_)
      go_ret
      exact HF.out
set_option maxHeartbeats 1600000 in
theorem del_zero {base : Nat} {w : World} {A : Option Addr} {n cap : Nat} {ch : List Ck} (h : w.ownsRow base 53 2 (.slice A n cap) n (ccs ch)) (hn : n = ch.length) (hnc : n ≤ cap) (hA : A = none → n = 0) :
    Calls Try.prog 52 #[.slice A n cap, .int .i64 0, .int .i64 0] w (InsTo base w (.slice A n cap) ch) := by
  have fin : InsTo base w (.slice A n cap) ch (.returned (.slice A n cap)) w := ⟨_, rfl, by rw [← hn]; exact h, Turns.refl _ _, fun g e => .inl e, fun g e => own_kb h e⟩
  have HF := Lib.hid fin
  clear fin hn h
  rcases A with _ | a
  · obtain rfl := hA rfl
    go_enter Try.func52, Try.ntmps52
    go_wp2
    go_ret
    exact HF.out
  · go_enter Try.func52, Try.ntmps52
    go_wp2
    go_ret
    exact HF.out
/-- Delete of the first chunks, however many. -/
theorem del_any {base : Nat} {w : World} {v : Value} {due : Nat} {ch : List Ck} (h : w.ownsRow base 53 2 v ch.length (ccs ch)) (hd : due ≤ ch.length) (h8 : ch.length ≤ 8) :
    Calls Try.prog 52 #[v, .int .i64 0, .int .i64 (due : Nat)] w (InsTo base w v (ch.drop due)) := by
  by_cases h0 : due = 0
  · subst h0
    rcases own_forms h with ⟨rfl, hl, _⟩ | ⟨g, cap, rfl, _, hnc, _⟩
    · have h' := h
      rw [hl] at h'
      exact del_zero h' hl.symm (Nat.le_refl _) (fun _ => rfl)
    · exact del_zero h rfl hnc (fun e => by cases e)
  · rcases own_forms h with ⟨rfl, hl, _⟩ | ⟨g, cap, rfl, _, hnc, _⟩
    · omega
    · exact del_some h rfl hd (by omega) h8
set_option maxHeartbeats 1600000 in
/-- Clone: the same chunks in new memory. -/
theorem clo_any {base : Nat} {w : World} {v : Value} {ch : List Ck} (h : w.ownsRow base 53 2 v ch.length (ccs ch)) (h8 : ch.length ≤ 8) :
    Calls Try.prog 55 #[v] w fun e w' => ∃ v', e = .returned v' ∧ w'.ownsRow w.heap.size 53 2 v' ch.length (ccs ch) ∧ Below w.heap.size w w' := by
  rcases own_forms h with ⟨rfl, hl, hcs⟩ | ⟨g, cap, rfl, _, hnc, _⟩
  · have hq := Go.Lib.run_eql_slice_nil (P := Try.prog) w 47 53 none 0 0 0 0 Try.underlying47
    simp only [Option.isNone_none] at hq
    go_enter Try.func55, Try.ntmps55
    go_wp2
    go_ret
    exact ⟨_, rfl, by rw [hl, hcs]; exact ⟨by simp, .inl ⟨rfl, rfl⟩⟩, Below.refl _ _⟩
  · have hgs := (h.lt g rfl).2
    have hp := own_part h 0 ch.length (by omega)
    have hp' : Sr 2 (w.alloc (.cells #[] 53)) (some ⟨g, 0, none⟩) ch.length cap (ccs ch) := by
      have := hp.below (B := w.heap.size) (w' := w.alloc (.cells #[] 53)) ((Below.refl _ _).alloc (Nat.le_refl _) _) (fun a e _ => by cases e; exact hgs)
      simpa [List.take_of_length_le, ccs_len] using this
    have hq := Go.Lib.run_eql_slice_nil (P := Try.prog) w 47 53 (some ⟨g, 0, none⟩) ch.length cap 0 0 Try.underlying47
    simp only [Option.isNone_some] at hq
    have H := Lib.hid h
    clear h hp
    go_enter Try.func55, Try.ntmps55
    go_wp2_with (at_builtin; refine wpList_appS _ 2 16 _ 53 rfl _ _ 47 rfl w.heap.size Try.underlying47 ckInfo rfl (by decide) _ _ 0 0 ch.length cap [] (ccs ch) rfl rfl (own_empty (KB.new w _ _) (Nat.le_refl _)) hp' (ccs_one _) (by unfold maxLen; omega) (by omega) (by simp) ?_; intro A1 d1 w1 o1 _ b1; simp only [Nat.zero_add, List.nil_append] at o1; have O1 := Lib.hid o1; clear o1)
    go_ret
    exact ⟨_, by simp, O1.out, ((Below.refl _ _).alloc (Nat.le_refl _) _).trans b1⟩
end Go.Proofs.Ytahleoidbnlllaa
