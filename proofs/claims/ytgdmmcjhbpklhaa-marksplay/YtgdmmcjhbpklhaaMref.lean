/-
  The reference's marks in memory, and what its NewMarks, Set, Bytes and OfMarks do. The conditions stand in each theorem.
-/
import Derived.Test.YtgdmmcjhbpklhaaMawake
namespace Go.Proofs.Ytgdmmcjhbpklhaa
open Go.RowKit
set_option linter.unusedVariables false

/-- The reference's marks at block q: their size, and a map of those that are set. -/
def Rm (w : World) (base q size : Nat) (f : Nat → Bool) : Prop :=
  size ≤ 4096 ∧ (∀ i, size ≤ i → f i = false) ∧ base ≤ q ∧
    ∃ m, base ≤ m ∧ KB w q 33 #[.int .i64 size, .map (some m)] ∧ Mbo Try.prog 3 w m (fi f) (cnt f (8 * wid size))
theorem Rm.drewN {w : World} {base q size : Nat} {f : Nat → Bool} (h : Rm w base q size f) (n : Nat) : Rm (w.drewN n) base q size f := h
theorem Rm.keep {w w' : World} {base q size : Nat} {f : Nat → Bool} (h : Rm w base q size f) (hb : Below w.heap.size w w') : Rm w' base q size f := by
  obtain ⟨h1, h2, h3, m, h4, hk, hm⟩ := h
  exact ⟨h1, h2, h3, m, h4, hk.below hb hk.lt, hm.keep (hb.block m hm.lt)⟩
/-- A map's block, from base on. -/
def TMp (base : Nat) (w : World) (b : Nat) : Prop := base ≤ b ∧ ∃ es c, w.heap[b]? = some (.map es c)
theorem Rm.turnB {w w' : World} {base b' q size : Nat} {f : Nat → Bool} (h : Rm w base q size f) (ht : Turns (TB b' w) w w') : Rm w' base q size f := by
  obtain ⟨h1, h2, h3, m, h4, hk, hm⟩ := h
  refine ⟨h1, h2, h3, m, h4, hk.turns ht ?_, hm.keep (ht.block m hm.lt ?_)⟩
  · rintro ⟨_, cs, z, e⟩
    unfold KB at hk
    rw [e] at hk
    injection hk with hk
    injection hk with _ hk
    exact absurd hk (by decide)
  · rintro ⟨_, cs, z, e⟩
    obtain ⟨es, c, e'⟩ := hm.isMap
    rw [e] at e'
    cases e'
theorem Mk.turnM {w w' : World} {base b' p size : Nat} {f : Nat → Bool} (h : Mk w base p size f) (ht : Turns (TMp b' w) w w') : Mk w' base p size f := by
  obtain ⟨h1, h2, h3, A, c, hk, ho⟩ := h
  refine ⟨h1, h2, h3, A, c, hk.turns ht ?_, ho.1, ?_⟩
  · rintro ⟨_, es, c, e⟩
    unfold KB at hk
    rw [e] at hk
    cases hk
  · rcases ho.2 with h0 | ⟨g, cap, cur, hv, hbg, hg, hr⟩
    · exact .inl h0
    · have hlt : g < w.heap.size := (Array.getElem?_eq_some_iff.1 hg).1
      refine .inr ⟨g, cap, cur, hv, hbg, (ht.block g hlt ?_).trans hg, hr⟩
      rintro ⟨_, es, c, e⟩
      rw [e] at hg
      cases hg
theorem fi_put (f : Nat → Bool) (i : Nat) : ∀ x, fi (put f i) x = upd (fi f) (i : Int) true x := by
  intro x
  unfold fi put upd
  by_cases h : x = i
  · subst h; simp
  · rw [if_neg h]
    by_cases h0 : 0 ≤ x
    · rw [if_neg (by omega)]
    · simp [h0]
theorem Rm.made (w : World) (size : Nat) (h : size ≤ 4096) :
    Rm ((w.alloc (.map #[] 0)).alloc (.cells #[.int .i64 size, .map (some w.heap.size)] 33)) w.heap.size (w.heap.size + 1) size (fun _ => false) := by
  refine ⟨h, fun _ _ => rfl, by omega, w.heap.size, Nat.le_refl _, ?_, ?_⟩
  · have := KB.new (w.alloc (.map #[] 0)) 33 #[.int .i64 size, .map (some w.heap.size)]
    simpa using this
  · rw [cnt_none (fun _ _ => rfl)]
    refine Mbo.congr (f := fun _ => false) ?_ (fun x => by simp [fi])
    exact (Mbo.made Try.prog 3 w).keep (Below.heap_alloc _ _ _ (by simp))
def NewR (w : World) (size : Nat) (e : Ending) (w' : World) : Prop :=
  e = .returned (.pointer (some ⟨w.heap.size + 1, 0, none⟩)) ∧ Rm w' w.heap.size (w.heap.size + 1) size (fun _ => false) ∧ Below w.heap.size w w'
set_option maxHeartbeats 800000 in
theorem rnewm_of (x : Int) (s : Nat) (w : World) (hs : s ≤ 4096) (h : x < 0 ∧ s = 0 ∨ 4096 < x ∧ s = 4096 ∨ x = s) : Calls Try.prog 8 #[.int .i64 x] w (NewR w s) := by
  have HB := Lib.hid (((Below.refl w.heap.size w).alloc (Nat.le_refl _) (.map #[] 0)).alloc (by simp) (.cells #[.int .i64 s, .map (some w.heap.size)] 33))
  have HM := Lib.hid (Rm.made w s hs)
  have hmm := @run_makeMap Try.prog
  rcases h with ⟨h, rfl⟩ | ⟨h, rfl⟩ | rfl
  · go_enter Try.func8, Try.ntmps8
    go_wp2
    go_ret
    exact ⟨rfl, HM.out, HB.out⟩
  · go_enter Try.func8, Try.ntmps8
    go_wp2
    go_ret
    exact ⟨rfl, HM.out, HB.out⟩
  · go_enter Try.func8, Try.ntmps8
    go_wp2
    go_ret
    exact ⟨rfl, HM.out, HB.out⟩
theorem rnewm_any (x : Int) (w : World) : Calls Try.prog 8 #[.int .i64 x] w (NewR w (clamp x)) := by
  refine rnewm_of x _ w (clamp_le x) ?_
  unfold clamp
  split
  · omega
  · split <;> omega
theorem rset_out (base q size : Nat) (x : Int) (f : Nat → Bool) (w : World) (h : Rm w base q size f) (hx : x < 0 ∨ (size : Int) ≤ x) :
    Calls Try.prog 10 #[.pointer (some ⟨q, 0, none⟩), .int .i64 x] w fun e w' => e = .returned (.int .i64 5) ∧ w = w' := by
  obtain ⟨_, _, _, m, _, hk, _⟩ := h
  have c0 := hk.cell 0
  simp at c0
  clear hk
  by_cases h0 : x < 0
  · go_enter Try.func10, Try.ntmps10
    go_wp2
    go_ret
    exact ⟨rfl, rfl⟩
  · have h0' : decide (x < 0) = false := by simpa using h0
    have h1 : (size : Int) ≤ x := by omega
    go_enter Try.func10, Try.ntmps10
    go_wp2
    go_ret
    exact ⟨rfl, rfl⟩
set_option maxHeartbeats 800000 in
theorem rset_dup (base q size i : Nat) (f : Nat → Bool) (w : World) (h : Rm w base q size f) (hi : i < size) (hf : f i = true) :
    Calls Try.prog 10 #[.pointer (some ⟨q, 0, none⟩), .int .i64 i] w fun e w' => e = .returned (.int .i64 6) ∧ w = w' := by
  obtain ⟨hs, _, _, m, _, hk, hm⟩ := h
  have c0 := hk.cell 0
  have c1 := hk.cell 1
  simp at c0 c1
  have hl := hm.look (t := 31) (x := (i : Int)) Try.underlying3 Try.underlying31 (Try.zeroValue4 w) (WalkArith.wf_i64 (by omega))
  rw [fi_nat, hf] at hl
  have h0' : decide ((i : Int) < 0) = false := by simp
  have h1 : decide ((size : Int) ≤ (i : Int)) = false := by simp; omega
  clear hk hm hf
  go_enter Try.func10, Try.ntmps10
  go_wp2
  go_ret
  exact ⟨rfl, rfl⟩
def RsetTo (w : World) (base q size : Nat) (f : Nat → Bool) (e : Ending) (w' : World) : Prop := e = .returned (.int .i64 0) ∧ Rm w' base q size f ∧ Turns (TMp base w) w w'
set_option maxHeartbeats 800000 in
theorem rset_new (base q size i : Nat) (f : Nat → Bool) (w : World) (h : Rm w base q size f) (hi : i < size) (hf : f i = false) :
    Calls Try.prog 10 #[.pointer (some ⟨q, 0, none⟩), .int .i64 i] w (RsetTo w base q size (put f i)) := by
  obtain ⟨hs, h2, h3, m, h4, hk, hm⟩ := h
  have c0 := hk.cell 0
  have c1 := hk.cell 1
  simp at c0 c1
  have hwf : (Lit.int .i64 (i : Int)).wf = true := WalkArith.wf_i64 (by omega)
  have hl := hm.look (t := 31) (x := (i : Int)) Try.underlying3 Try.underlying31 (Try.zeroValue4 w) hwf
  rw [fi_nat, hf] at hl
  have h0' : decide ((i : Int) < 0) = false := by simp
  have h1 : decide ((size : Int) ≤ (i : Int)) = false := by simp; omega
  have hwd : wid size ≤ 512 := by unfold wid; omega
  have hcn := cnt_le f (8 * wid size)
  have HC := Lib.hid (cnt_put (n := 8 * wid size) (by unfold wid; omega) hf)
  have HF := Lib.hid (show fi f (i : Int) = false by rw [fi_nat, hf])
  have HK := Lib.hid hk
  have H2 := Lib.hid h2
  clear hk hf h2
  go_enter Try.func10, Try.ntmps10
  go_wp2_with (at_mapUpdate; refine wpList_boStore rfl _ _ _ 31 rfl hm Try.underlying3 Try.underlying31 (by unfold maxLen; omega) hwf HF.out rfl rfl rfl ?_; intro w1 hm1 hg1)
  go_wp2
  go_ret
  have ht : Turns (TMp base w) w w1 := Turns.grown hg1 fun r e => by
    injection e with e
    subst e
    exact ⟨h4, hm.isMap⟩
  refine ⟨rfl, ⟨hs, fun k hk' => ?_, h3, m, h4, HK.out.turns ht ?_, ?_⟩, ht⟩
  · unfold put; rw [if_neg (by omega)]; exact H2.out k hk'
  · rintro ⟨_, es, c, e⟩
    have hk := HK.out
    unfold KB at hk
    rw [e] at hk
    cases hk
  · rw [HC.out]; exact hm1.congr (fi_put f i)
end Go.Proofs.Ytgdmmcjhbpklhaa
