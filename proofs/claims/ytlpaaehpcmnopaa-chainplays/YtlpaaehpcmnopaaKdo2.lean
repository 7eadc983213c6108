/-
  The law's own function do, at chains of numbers: Move, Get and Set. The conditions stand in each theorem.
-/
import Derived.Test.YtlpaaehpcmnopaaKdo
import Derived.Deep.RegionHeld3
namespace Go.Proofs.Ytlpaaehpcmnopaa
open Go.RowKit
set_option linter.unusedVariables false

set_option maxRecDepth 100000 in
set_option maxHeartbeats 3200000 in
theorem do_move (base K : Nat) (a b v : Int) (s : ChS Int) (w : World) (hB : Bti base K w s) (hg : s.g ≤ 1000) (hl : s.hs.length ≤ 1000) (ha : (Lit.int .i64 a).wf = true) (hb : (Lit.int .i64 b).wf = true) :
    Calls Try.prog 9 #[.pointer (some ⟨s.C, 0, none⟩), .pointer (some ⟨K, 0, none⟩), .agg #[.int .i64 5, .int .i64 a, .int .i64 b, .int .i64 v]] w fun e w' => e = .returned (.bool true) ∧ DoTo base K w w' s := by
  have hB1 := hB.box (.cells #[.int .i64 5, .int .i64 a, .int .i64 b, .int .i64 v] 37)
  have hb1 : Below base w (w.alloc (.cells #[.int .i64 5, .int .i64 a, .int .i64 b, .int .i64 v] 37)) := (Below.refl _ _).alloc hB.sz _
  have hk := KB.new w 37 #[.int .i64 5, .int .i64 a, .int .i64 b, .int .i64 v]
  have h0 := hB.gd.ch.g0
  have hwf : (Lit.int .i64 (s.g + 1)).wf = true := wf_mid (g := 1001) (by omega) (by omega) (by decide)
  go_enter Try.func9, Try.ntmps9
  go_wp2_with fail
  generalize w.heap.size = G at hk ⊢
  generalize (w.alloc (.cells #[.int .i64 5, .int .i64 a, .int .i64 b, .int .i64 v] 37)) = wA at hB1 hb1 hk ⊢
  have k1 := hk.cell 1
  have k2 := hk.cell 2
  simp at k1 k2
  by_cases hh : a ∈ s.hs ∧ b ∈ s.hs
  · obtain ⟨hha, hhb⟩ := hh
    obtain ⟨xs, ys, hrow, hx, hy⟩ := row_split s hB.gd.ch.nd hha
    have hlen : (xs ++ (a, s.vl a) :: ys).length ≤ 1000000 := by rw [← hrow, row_len]; omega
    have hbm : (b, s.vl b) ∈ s.row := List.mem_map.2 ⟨b, hhb, rfl⟩
    by_cases hab : a = b
    · subst hab
      have hix : 0 ≤ ixR a s.row := ixR_nonneg hbm rfl
      have H1 := Lib.hid (move_selfi s a wA.drew hB1.drew.gd hha)
      have H2 := Lib.hid (rmove_self base K a s.row s.g wA.drew hB1.drew.rc hix (by rw [row_len]; omega))
      clear hrow hx hy hix hbm
      have K0 := And.intro k1 k2
      clear k1 k2
      go_region_held3 (fun W => W.cell? ⟨G, 1, none⟩ = some (.int .i64 a) ∧ W.cell? ⟨G, 2, none⟩ = some (.int .i64 a))
        (first | exact K0)
        (first
          | (go_at_call 26; refine H1.out.mono ?_; rintro e w1 ⟨rfl, rfl⟩)
          | (go_at_call 17; refine H2.out.mono ?_; rintro e w2 ⟨rfl, rfl⟩))
      all_goals
        go_wp2
        go_ret
        exact ⟨rfl, s, rfl, by omega, by omega, hB1.drew, hb1.drew⟩
    · have hm2 : (b, s.vl b) ∈ xs ++ ys := by
        rw [hrow] at hbm
        simp only [List.mem_append, List.mem_cons] at hbm ⊢
        rcases hbm with h | h | h
        · exact .inl h
        · exact absurd (by injection h with h _; exact h.symm) hab
        · exact .inr h
      have hnd : ((xs ++ ys).map (·.1)).Nodup := by
        have h1 : (s.row.map (·.1)) = s.hs := by unfold ChS.row; rw [List.map_map]; simp [Function.comp_def]
        have h2 := hB.gd.ch.nd
        rw [← h1, hrow] at h2
        simp only [List.map_append, List.map_cons, List.nodup_append, List.nodup_cons] at h2 ⊢
        exact ⟨h2.1, h2.2.1.2, fun x h3 y h4 => h2.2.2 x h3 y (by simp [h4])⟩
      obtain ⟨us, vs, huv⟩ := List.append_of_mem hm2
      have hu : noH b us := by
        intro x hxu e
        rw [huv, List.map_append, List.nodup_append] at hnd
        exact hnd.2.2 x.1 (List.mem_map.2 ⟨x, hxu, rfl⟩) b (by simp) e
      have hix : 0 ≤ ixR b (xs ++ (a, s.vl a) :: ys) := by rw [← hrow]; exact ixR_nonneg hbm rfl
      have hmv := move_yesi s a b wA.drew hB1.drew.gd hha hhb hab
      rw [hrow, delR_mid hx rfl hy, huv, insB_mid hu rfl] at hmv
      have H1 := Lib.hid hmv
      have HX := Lib.hid hx
      have HU := Lib.hid hu
      have HUV := Lib.hid huv
      have HW := Lib.hid hrow
      have HAB := Lib.hid hab
      have HIX := Lib.hid hix
      clear hmv hrow hx hy hix hbm hm2 hnd huv hu hab
      have K0 := And.intro k1 k2
      clear k1 k2
      go_region_held3 (fun W => W.cell? ⟨G, 1, none⟩ = some (.int .i64 a) ∧ W.cell? ⟨G, 2, none⟩ = some (.int .i64 b))
        (first | exact K0 | exact K1 | exact K2)
        (first
        | (go_at_call 26; refine H1.out.mono ?_; rintro e w1 ⟨rfl, h1⟩; have h1 := ChTo.drew h1; have hr1 := hB1.rc.side hB1.gd ne1 ne2 ne3 ne4 (by obtain ⟨_, _, _, _, _, ht, _⟩ := h1; exact ht); have z1 := (hk.side hB1.gd ne5 ne6 (by obtain ⟨_, _, _, _, _, ht, _⟩ := h1; exact ht)).cell 1; have z2 := (hk.side hB1.gd ne5 ne6 (by obtain ⟨_, _, _, _, _, ht, _⟩ := h1; exact ht)).cell 2; simp at z1 z2; have K1 := And.intro z1 z2; clear z1 z2; have hs1 : base ≤ w1.heap.size := (by obtain ⟨_, _, _, _, _, ht, _⟩ := h1; exact Nat.le_trans hB1.sz ht.size); rw [HW.out] at hr1; have HKB := Lib.hid (hk.side hB1.gd ne5 ne6 (by obtain ⟨_, _, _, _, _, ht, _⟩ := h1; exact ht)); have HC := Lib.hid h1; have HR := Lib.hid hr1; clear h1 hr1)
        | (go_at_call 17; refine (rmove_yes base K a b xs ys us vs (a, s.vl a) (b, s.vl b) s.g w1 HR.out HX.out rfl HUV.out HU.out rfl HAB.out HIX.out hlen hs1).mono ?_; rintro e w2 ⟨rfl, h2⟩; have hkk2 := HKB.out.turns h2.2 (KB.ne HKB.out HR.out.choose_spec.1 (by decide)); have z1 := hkk2.cell 1; have z2 := hkk2.cell 2; simp at z1 z2; have K2 := And.intro z1 z2; clear z1 z2 hkk2; have HD := Lib.hid (Bti.step hB1 (by omega) (by omega) HC.out h2); clear h2))
      all_goals
        go_wp2
        go_ret
        exact ⟨rfl, HD.out.from hb1⟩
  · have hn : a ∉ s.hs ∨ b ∉ s.hs := by
      by_cases h1 : a ∈ s.hs
      · exact .inr (fun h2 => hh ⟨h1, h2⟩)
      · exact .inl h1
    have hix : ixR a s.row < 0 ∨ ixR b s.row < 0 := hn.imp (fun h => by rw [ixR_no (row_no s h)]; omega) (fun h => by rw [ixR_no (row_no s h)]; omega)
    have H1 := Lib.hid (move_noi s a b wA.drew hB1.drew.gd ha hb hn)
    have H2 := Lib.hid (rmove_none base K a b s.row s.g wA.drew hB1.drew.rc hix (by rw [row_len]; omega))
    clear hn hix hh
    have K0 := And.intro k1 k2
    clear k1 k2
    go_region_held3 (fun W => W.cell? ⟨G, 1, none⟩ = some (.int .i64 a) ∧ W.cell? ⟨G, 2, none⟩ = some (.int .i64 b))
      (first | exact K0)
      (first
        | (go_at_call 26; refine H1.out.mono ?_; rintro e w1 ⟨rfl, rfl⟩)
        | (go_at_call 17; refine H2.out.mono ?_; rintro e w2 ⟨rfl, rfl⟩))
    all_goals
      go_wp2
      go_ret
      exact ⟨rfl, s, rfl, by omega, by omega, hB1.drew, hb1.drew⟩

set_option maxRecDepth 100000 in
set_option maxHeartbeats 3200000 in
theorem do_get (base K : Nat) (k : Int) (a b v : Int) (s : ChS Int) (w : World) (hB : Bti base K w s) (hg : s.g ≤ 1000) (hl : s.hs.length ≤ 1000) (ha : (Lit.int .i64 a).wf = true) (hk0 : k ≠ 1 ∧ k ≠ 2 ∧ k ≠ 3 ∧ k ≠ 4 ∧ k ≠ 5 ∧ k ≠ 6) :
    Calls Try.prog 9 #[.pointer (some ⟨s.C, 0, none⟩), .pointer (some ⟨K, 0, none⟩), .agg #[.int .i64 k, .int .i64 a, .int .i64 b, .int .i64 v]] w fun e w' => e = .returned (.bool true) ∧ DoTo base K w w' s := by
  have hB1 := hB.box (.cells #[.int .i64 k, .int .i64 a, .int .i64 b, .int .i64 v] 37)
  have hb1 : Below base w (w.alloc (.cells #[.int .i64 k, .int .i64 a, .int .i64 b, .int .i64 v] 37)) := (Below.refl _ _).alloc hB.sz _
  have hk := KB.new w 37 #[.int .i64 k, .int .i64 a, .int .i64 b, .int .i64 v]
  have h0 := hB.gd.ch.g0
  have hwf : (Lit.int .i64 (s.g + 1)).wf = true := wf_mid (g := 1001) (by omega) (by omega) (by decide)
  obtain ⟨n1, n2, n3, n4, n5, n6⟩ := hk0
  have q1 : (k == 1) = false := by simpa using n1
  have q2 : (k == 2) = false := by simpa using n2
  have q3 : (k == 3) = false := by simpa using n3
  have q4 : (k == 4) = false := by simpa using n4
  have q5 : (k == 5) = false := by simpa using n5
  have q6 : (k == 6) = false := by simpa using n6
  clear n1 n2 n3 n4 n5 n6
  go_enter Try.func9, Try.ntmps9
  go_wp2_with fail
  generalize w.heap.size = G at hk ⊢
  generalize (w.alloc (.cells #[.int .i64 k, .int .i64 a, .int .i64 b, .int .i64 v] 37)) = wA at hB1 hb1 hk ⊢
  have k1 := hk.cell 1
  simp at k1
  by_cases hh : a ∈ s.hs
  · obtain ⟨xs, ys, hrow, hx, hy⟩ := row_split s hB.gd.ch.nd hh
    have H1 := Lib.hid (get_yesi s a wA hB1.gd hh)
    refine H1.out.mono ?_
    rintro e w1 ⟨rfl, rfl⟩
    have hlen : (xs ++ (a, s.vl a) :: ys).length ≤ 1000000 := by rw [← hrow, row_len]; omega
    have hf := rfind_any base K a s.row s.g wA hB1.rc (by rw [row_len]; omega)
    rw [hrow, ixR_mid hx rfl] at hf
    obtain ⟨vv, hkk, hown⟩ := hB1.rc
    have d0 := hkk.cell 0
    simp at d0
    rcases own_forms hown with ⟨_, hl0, _⟩ | ⟨g, cap, rfl, _, hcap, _, _, _⟩
    · rw [hrow] at hl0; simp at hl0
    have hlt : xs.length < s.row.length := by rw [hrow]; simp
    have hcl := (rm_get s.row xs.length (a, s.vl a) (by rw [hrow]; simp)).2
    have hct := hown.cellAt (xs.length * 2 + 1) (by omega)
    rw [hcl] at hct
    simp only at hct
    have hB2 := Lib.hid hB1
    clear hrow hx hy hkk hown hcl hB hB1
    go_wp2_with fail
    refine hf.mono ?_
    rintro e w2 ⟨rfl, rfl⟩
    clear hf
    go_wp2
    go_ret
    exact ⟨rfl, s, rfl, by omega, by omega, hB2.out, hb1⟩
  · have H1 := Lib.hid (get_noi s a wA hB1.gd hh ha)
    have hx := row_no s hh
    have hf := rfind_any base K a s.row s.g wA hB1.rc (by rw [row_len]; omega)
    rw [ixR_no hx] at hf
    refine H1.out.mono ?_
    rintro e w1 ⟨rfl, rfl⟩
    go_wp2_with fail
    refine hf.mono ?_
    rintro e w2 ⟨rfl, rfl⟩
    clear hf
    go_wp2
    go_ret
    exact ⟨rfl, s, rfl, by omega, by omega, hB1, hb1⟩

set_option maxRecDepth 100000 in
set_option maxHeartbeats 3200000 in
theorem do_set (base K : Nat) (a b v : Int) (s : ChS Int) (w : World) (hB : Bti base K w s) (hg : s.g ≤ 1000) (hl : s.hs.length ≤ 1000) (ha : (Lit.int .i64 a).wf = true) :
    Calls Try.prog 9 #[.pointer (some ⟨s.C, 0, none⟩), .pointer (some ⟨K, 0, none⟩), .agg #[.int .i64 6, .int .i64 a, .int .i64 b, .int .i64 v]] w fun e w' => e = .returned (.bool true) ∧ DoTo base K w w' s := by
  have hB1 := hB.box (.cells #[.int .i64 6, .int .i64 a, .int .i64 b, .int .i64 v] 37)
  have hb1 : Below base w (w.alloc (.cells #[.int .i64 6, .int .i64 a, .int .i64 b, .int .i64 v] 37)) := (Below.refl _ _).alloc hB.sz _
  have hk := KB.new w 37 #[.int .i64 6, .int .i64 a, .int .i64 b, .int .i64 v]
  have h0 := hB.gd.ch.g0
  have hwf : (Lit.int .i64 (s.g + 1)).wf = true := wf_mid (g := 1001) (by omega) (by omega) (by decide)
  go_enter Try.func9, Try.ntmps9
  go_wp2_with fail
  generalize w.heap.size = G at hk ⊢
  generalize (w.alloc (.cells #[.int .i64 6, .int .i64 a, .int .i64 b, .int .i64 v] 37)) = wA at hB1 hb1 hk ⊢
  have k1 := hk.cell 1
  have k3 := hk.cell 3
  simp at k1 k3
  by_cases hh : a ∈ s.hs
  · obtain ⟨xs, ys, hrow, hx, hy⟩ := row_split s hB.gd.ch.nd hh
    have hlen : (xs ++ (a, s.vl a) :: ys).length ≤ 1000000 := by rw [← hrow, row_len]; omega
    have hf := rfind_any base K a s.row s.g wA hB1.rc (by rw [row_len]; omega)
    rw [hrow, ixR_mid hx rfl] at hf
    obtain ⟨vv, hkk, hown⟩ := hB1.rc
    have d0 := hkk.cell 0
    simp at d0
    rcases own_forms hown with ⟨_, hl0, _⟩ | ⟨g, cap, rfl, hbg, hcap, _, hglt, cur, hgc, _, _⟩
    · rw [hrow] at hl0; simp at hl0
    have hlt : xs.length < s.row.length := by rw [hrow]; simp
    have hcl := (rm_get s.row xs.length (a, s.vl a) (by rw [hrow]; simp)).2
    have hct := hown.cellAt (xs.length * 2 + 1) (by omega)
    have hfz := hown.frozenAt (xs.length * 2 + 1)
    rw [hcl] at hct
    simp only at hct
    have hgf := hB1.gd.not_foot hgc ne3 ne4
    have hgK := rc_ne hkk hown
    have hGg : G ≠ g := fun e => by
      subst e
      unfold KB at hk
      rw [hk] at hgc
      injection hgc with hgc
      injection hgc with _ ht _
      exact absurd ht (by decide)
    have hst := hown.stored (xs.length * 2 + 1) (.int .i64 v)
    rw [show (rm s.row).set (xs.length * 2 + 1) (.int .i64 v) = rm (xs ++ (a, v) :: ys) by rw [hrow]; exact rm_set xs ys (a, s.vl a) v] at hst
    have hgd3 : Gdi (wA.setCell ⟨g, xs.length * 2 + 1, none⟩ (.int .i64 v)).drew s := hB1.gd.turns (w' := (wA.setCell ⟨g, xs.length * 2 + 1, none⟩ (.int .i64 v)).drew) (F := fun b => b = g) (Turns.setCell (F := fun b => b = g) _ _ _ rfl).drew (fun b hb e => hgf (e ▸ hb))
    have hkk3 : KB (wA.setCell ⟨g, xs.length * 2 + 1, none⟩ (.int .i64 v)).drew K 29 _ := hkk.far (p := ⟨g, xs.length * 2 + 1, none⟩) (Ne.symm hgK) (.int .i64 v)
    have hk3 : KB (wA.setCell ⟨g, xs.length * 2 + 1, none⟩ (.int .i64 v)).drew G 37 _ := hk.far (p := ⟨g, xs.length * 2 + 1, none⟩) hGg (.int .i64 v)
    have hb3 : Below base w (wA.setCell ⟨g, xs.length * 2 + 1, none⟩ (.int .i64 v)).drew := (hb1.setCell (p := ⟨g, xs.length * 2 + 1, none⟩) hbg _).drew
    have hrc3 : RC base K (wA.setCell ⟨g, xs.length * 2 + 1, none⟩ (.int .i64 v)).drew (xs ++ (a, v) :: ys) s.g := ⟨_, hkk3, by
      rw [show (xs ++ (a, v) :: ys).length = s.row.length by rw [hrow]; simp]; exact World.ownsRow.drew hst.1⟩
    have hsR : setR a v s.row = xs ++ (a, v) :: ys := by
      rw [hrow]; exact setR_mid hx hy
    have hft := hB1.ft
    have hkb := hB1.kb
    have HR := Lib.hid hrc3
    have HS := Lib.hid hsR
    have HF := Lib.hid hft
    clear hrow hx hy hkk hown hcl hB hB1 hst hkk3 hrc3 hsR hft hgc
    go_wp2_with fail
    refine hf.mono ?_
    rintro e w2 ⟨rfl, rfl⟩
    clear hf
    go_wp2_with fail
    go_region
    clear d0 hct hfz
    generalize (wA.setCell ⟨g, xs.length * 2 + 1, none⟩ (.int .i64 v)).drew = w3 at hgd3 hk3 hb3 HR ⊢
    clear k1 k3
    have k1 := hk3.cell 1
    have k3 := hk3.cell 3
    simp at k1 k3
    have hs3 : base ≤ w3.heap.size := (by obtain ⟨_, hq, _⟩ := HR.out; have := hq.lt; omega)
    have H1 := Lib.hid (set_yesi s a v w3 hgd3 hh)
    go_wp2_with fail
    refine H1.out.mono ?_
    rintro e w4 ⟨rfl, h4⟩
    rw [HS.out] at h4
    have HC := Lib.hid h4
    clear h4
    go_wp2
    go_ret
    obtain ⟨s', hg', e1, e2, e3, ht, hf'⟩ := HC.out
    refine ⟨rfl, s', e1, by omega, by omega, ⟨hg', ?_, fun b hb => ?_, hkb⟩, hb3.trans (ht.below hs3 HF.out)⟩
    · rw [e2, e3]; exact HR.out.side hgd3 ne1 ne2 ne3 ne4 ht
    · rcases hf' b hb with h5 | h5
      · exact HF.out b h5
      · exact Nat.le_trans hs3 h5
  · have H1 := Lib.hid (set_noi s a v wA hB1.gd hh ha)
    have hx := row_no s hh
    have hf := rfind_any base K a s.row s.g wA hB1.rc (by rw [row_len]; omega)
    rw [ixR_no hx] at hf
    go_wp2_with fail
    refine hf.mono ?_
    rintro e w1 ⟨rfl, rfl⟩
    clear hf
    go_wp2_with fail
    refine H1.out.mono ?_
    rintro e w2 ⟨rfl, rfl⟩
    go_wp2
    go_ret
    exact ⟨rfl, s, rfl, by omega, by omega, hB1, hb1⟩

end Go.Proofs.Ytlpaaehpcmnopaa
