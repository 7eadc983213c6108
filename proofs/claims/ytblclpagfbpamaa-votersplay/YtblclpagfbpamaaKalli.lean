/-
  All and Back of package chain, at members of the type int, as iterators; of a nil chain too. The conditions stand in each theorem.
-/
import Derived.Test.YtblclpagfbpamaaKwalki
namespace Go.Proofs.Ytblclpagfbpamaa
open Go.RowKit Go.Shelf
set_option linter.unusedVariables false
attribute [local go_sem] Oper.semAt_some

set_option maxHeartbeats 1000000 in
theorem All_onei (l Bn n₀ n : Nat) (s : ChS Int) (W : World) (hB : W.cell? ⟨Bn, 0, none⟩ = some (.pointer (some ⟨s.C, 0, none⟩))) (hc : Gdi W s) (hn₀ : ∀ b, s.foot b → b < n₀) (hlen : s.hs.length < 4611686018427387904) (J Jx : List (Int × Int) → World → Prop)
    (hJ : ∀ pre W o, J pre W → J pre (W.alloc o))
    (hY : ∀ pre x W, x ∈ s.row → J pre W → pre.length < s.hs.length → YieldAt Fence.wide (n - 1) Try.prog l #[.int .i64 x.1, .int .i64 x.2] W fun e W' =>
      (e = .returned (.bool true) ∧ J (pre ++ [x]) W' ∧ Below n₀ W W') ∨ (e = .returned (.bool false) ∧ Jx (pre ++ [x]) W')) (h0 : J [] W) :
    CallsIn Fence.wide n Try.prog 62 #[.func (.yield l) #[] #[], .pointer (some ⟨Bn, 0, none⟩)] W fun e W' => (∃ v, e = .returned v) ∧
      ((∃ ys, ys = s.row ∧ J ys W') ∨ ∃ pre, pre <+: s.row ∧ Jx pre W') := by
  have hp := walk_fi l n₀ (n - 1) s W hc hn₀ hlen J Jx hJ (fun m pre x W hx hj hl => yield_depthi m (hY pre x W hx hj hl)) h0
  clear hc hY
  refine callsIn_of_wp Try.func62 rfl trivial ?_ rfl
  simp only [Try.ntmps62, List.size_toArray, List.length_cons, List.length_nil, Nat.reduceAdd, Nat.reduceSub, Array.replicate_succ, Array.replicate_zero, List.push_toArray, List.append_toArray, List.nil_append, List.cons_append]
  gi_wp2_with fail
  refine ⟨trivial, (fun h => (by cases h)), ?_⟩
  refine hp.mono ?_
  clear hp
  rintro e W1 ⟨⟨v, rfl⟩, h⟩
  gi_wp2
  go_end0
  exact ⟨⟨_, rfl⟩, h⟩
set_option maxHeartbeats 1000000 in
theorem All_nonei (l Bn n : Nat) (W : World) (hB : W.cell? ⟨Bn, 0, none⟩ = some (.pointer none)) :
    CallsIn Fence.wide n Try.prog 62 #[.func (.yield l) #[] #[], .pointer (some ⟨Bn, 0, none⟩)] W fun e W' => (∃ v, e = .returned v) ∧ W' = W := by
  have hw : CallsIn Fence.wide (n - 1) Try.prog 63 #[.pointer none, .func (.func 64) #[] #[], .func (.yield l) #[] #[]] W fun e W' => (∃ v, e = .returned v) ∧ W' = W := by
    refine callsIn_of_wp Try.func63 rfl trivial ?_ rfl
    simp only [Try.ntmps63, List.size_toArray, List.length_cons, List.length_nil, Nat.reduceAdd, Nat.reduceSub, Array.replicate_succ, Array.replicate_zero, List.push_toArray, List.append_toArray, List.nil_append, List.cons_append]
    gi_wp2
    refine bodyPost_ret (results_none rfl _ _ _) rfl ?_
    exact ⟨⟨_, rfl⟩, rfl⟩
  refine callsIn_of_wp Try.func62 rfl trivial ?_ rfl
  simp only [Try.ntmps62, List.size_toArray, List.length_cons, List.length_nil, Nat.reduceAdd, Nat.reduceSub, Array.replicate_succ, Array.replicate_zero, List.push_toArray, List.append_toArray, List.nil_append, List.cons_append]
  gi_wp2_with fail
  refine ⟨trivial, (fun h => (by cases h)), ?_⟩
  refine hw.mono ?_
  clear hw
  rintro e W1 ⟨⟨v, rfl⟩, rfl⟩
  gi_wp2
  go_end0
  exact ⟨⟨_, rfl⟩, rfl⟩
set_option maxHeartbeats 400000 in
/-- All. -/
theorem All_anyi (p : Option Addr) (w : World) :
    Calls Try.prog 53 #[.pointer p] w fun e w' => e = .returned (.func (.func 62) #[] #[.pointer (some ⟨w.heap.size, 0, none⟩)]) ∧ w' = w.alloc (.cells #[.pointer p] 71) := by
  go_enter Try.func53, Try.ntmps53
  go_wp2
  go_ret
  exact ⟨rfl, rfl⟩
theorem All_stopsi (n Bn n₀ : Nat) (s : ChS Int) (w : World) (hBn : Bn < w.heap.size) (hn : n₀ ≤ w.heap.size) (hB : w.cell? ⟨Bn, 0, none⟩ = some (.pointer (some ⟨s.C, 0, none⟩))) (hc : Gdi w s) (hn₀ : ∀ b, s.foot b → b < n₀) (hlen : s.hs.length < 4611686018427387904) :
    SeqStopsK Fence.wide n Try.prog 62 #[.pointer (some ⟨Bn, 0, none⟩)] (fun x : Int × Int => #[Value.int .i64 x.1, .int .i64 x.2]) (Below n₀) (fun ys => ys = s.row) (fun pre => pre <+: s.row) s.hs.length w := fun l J Jx W hW hJ _ hY h0 =>
  All_onei l Bn n₀ n s W ((hW.cell (p := ⟨Bn, 0, none⟩) hBn).trans hB) (hc.below hW (fun b hb => Nat.lt_of_lt_of_le (hn₀ b hb) hn)) hn₀ hlen J Jx
    (fun pre W1 o hj => hJ pre W1 _ none hj (World.grownBy_alloc W1 o none) (fun r e => by cases e)) (fun pre x W _ => hY pre x W) h0
theorem All_stops_nili (n Bn n₀ : Nat) (w : World) (hBn : Bn < w.heap.size) (hB : w.cell? ⟨Bn, 0, none⟩ = some (.pointer none)) :
    SeqStopsK Fence.wide n Try.prog 62 #[.pointer (some ⟨Bn, 0, none⟩)] (fun x : Int × Int => #[Value.int .i64 x.1, .int .i64 x.2]) (Below n₀) (fun ys => ys = []) (fun pre => pre <+: []) 0 w := fun l J Jx W hW hJ _ hY h0 =>
  (All_nonei l Bn n W ((hW.cell (p := ⟨Bn, 0, none⟩) hBn).trans hB)).mono fun e W' ⟨hv, he⟩ => ⟨hv, .inl ⟨[], rfl, by rw [he]; exact h0⟩⟩
/-- All, where the loop's body may know that what comes is a member. -/
theorem All_stopsmi (n Bn n₀ : Nat) (s : ChS Int) (w : World) (hBn : Bn < w.heap.size) (hn : n₀ ≤ w.heap.size) (hB : w.cell? ⟨Bn, 0, none⟩ = some (.pointer (some ⟨s.C, 0, none⟩))) (hc : Gdi w s) (hn₀ : ∀ b, s.foot b → b < n₀) (hlen : s.hs.length < 4611686018427387904) :
    SeqStopsK Fence.wide n Try.prog 62 #[.pointer (some ⟨Bn, 0, none⟩)] (fun x : { x : Int × Int // x ∈ s.row } => #[Value.int .i64 x.1.1, .int .i64 x.1.2]) (Below n₀) (fun ys => ys.map (·.1) = s.row) (fun pre => pre.map (·.1) <+: s.row) s.hs.length w := fun l J Jx W hW hJ _ hY h0 =>
  (All_onei l Bn n₀ n s W ((hW.cell (p := ⟨Bn, 0, none⟩) hBn).trans hB) (hc.below hW (fun b hb => Nat.lt_of_lt_of_le (hn₀ b hb) hn)) hn₀ hlen (fun pre W => ∃ pre' : List { x : Int × Int // x ∈ s.row }, pre'.map (·.1) = pre ∧ J pre' W) (fun pre W => ∃ pre' : List { x : Int × Int // x ∈ s.row }, pre'.map (·.1) = pre ∧ Jx pre' W)
    (fun pre W1 o hh => by
      obtain ⟨pre', e, hj⟩ := hh
      exact ⟨pre', e, hJ pre' W1 _ none hj (World.grownBy_alloc W1 o none) (fun r e => by cases e)⟩)
    (fun pre x W hx hh hl => by
      obtain ⟨pre', e, hj⟩ := hh
      obtain ⟨fn, tmps, assign, body, hy, hR⟩ := hY pre' ⟨x, hx⟩ W hj (by rw [← e] at hl; simpa using hl)
      refine ⟨fn, tmps, assign, body, hy, hR.mono ?_⟩
      rintro e1 W1 (⟨h1, h2, h3⟩ | ⟨h1, h2⟩)
      · exact .inl ⟨h1, ⟨_, by simp [e], h2⟩, h3⟩
      · exact .inr ⟨h1, ⟨_, by simp [e], h2⟩⟩)
    ⟨[], rfl, h0⟩).mono fun e W' ⟨hv, he⟩ => ⟨hv, by
      rcases he with ⟨ys, h1, ys', h2, h3⟩ | ⟨pre, h1, pre', h2, h3⟩
      · exact .inl ⟨ys', h2.trans h1, h3⟩
      · exact .inr ⟨pre', (by rw [← h2] at h1; exact h1), h3⟩⟩
end Go.Proofs.Ytblclpagfbpamaa
