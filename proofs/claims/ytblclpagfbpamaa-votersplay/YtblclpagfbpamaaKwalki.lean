/-
  The iterators of package chain, at members of the type int: walk, All, Back: for every loop body that keeps the chain's blocks as they are. The conditions stand in each theorem.
-/
import Derived.Test.YtblclpagfbpamaaKcalls3i
import Derived.RangeFuncNested
import Derived.RangeFuncBound
import Derived.RangeFuncCalls
import Derived.RangeFuncLeaves
import Derived.Shelf.Abstract
import Derived.Shelf.RegionOpen
import Derived.WalkKit
import Derived.OwnWalkIn
import Derived.TacticsInMore
import Derived.LoopNIn
import Derived.LoopIn
namespace Go.Proofs.Ytblclpagfbpamaa
open Go.RowKit Go.Shelf
set_option linter.unusedVariables false
attribute [local go_sem] Oper.semAt_some

theorem wide_fni (k : Nat) : Fence.wide.fn k := trivial
theorem wide_depthi : Fence.wide.depth = none := rfl
theorem wide_roundi : Fence.wide.round = none := rfl
/-- Where no depth is asked a round may stand at whatever depth. -/
theorem yield_depthi {m : Nat} (m' : Nat) {P : Program} {l : Nat} {args : Array Value} {W : World} {R : Ending → World → Prop} (h : YieldAt Fence.wide m P l args W R) : YieldAt Fence.wide m' P l args W R := by
  obtain ⟨fn, tmps, assign, body, hy, hR⟩ := h
  exact ⟨fn, tmps, assign, body, hy, ⟨hR.1, fun c cs _ => hR.2 c cs (fun d hd => by cases hd)⟩⟩

theorem next_anyi (b a : Int) (w : World) : Calls Try.prog 64 #[.agg #[.int .i64 b, .int .i64 a]] w fun e w' => e = .returned (.int .i64 a) ∧ w' = w.alloc (.cells #[.int .i64 b, .int .i64 a] 91) := by
  go_enter Try.func64, Try.ntmps64
  go_wp2
  go_ret
  exact ⟨rfl, rfl⟩

/-- Between two rounds: the first ones have come; the next one is at hand. -/
def Relfi (s : ChS Int) (n₀ : Nat) (ord : List Int) (J : List (Int × Int) → World → Prop) (W : World) (hv iv : Value) (wr : World) : Prop :=
  ∃ pre rest : List Int, ord = pre ++ rest ∧ hv = .int .i64 (rest.headD 0) ∧ iv = .int .i64 (pre.length : Int) ∧ J (pre.map fun h => (h, s.vl h)) wr ∧ Chi wr s

set_option maxRecDepth 100000 in
set_option maxHeartbeats 2000000 in
/-- walk, by next. -/
theorem walk_fi (l n₀ n : Nat) (s : ChS Int) (W : World) (hc : Gdi W s) (hn₀ : ∀ b, s.foot b → b < n₀) (hlen : s.hs.length < 4611686018427387904) (J Jx : List (Int × Int) → World → Prop)
    (hJ : ∀ pre W o, J pre W → J pre (W.alloc o))
    (hY : ∀ m pre x W, x ∈ s.row → J pre W → pre.length < s.hs.length → YieldAt Fence.wide m Try.prog l #[.int .i64 x.1, .int .i64 x.2] W fun e W' =>
      (e = .returned (.bool true) ∧ J (pre ++ [x]) W' ∧ Below n₀ W W') ∨ (e = .returned (.bool false) ∧ Jx (pre ++ [x]) W')) (h0 : J [] W) :
    CallsIn Fence.wide n Try.prog 63 #[.pointer (some ⟨s.C, 0, none⟩), .func (.func 64) #[] #[], .func (.yield l) #[] #[]] W fun e W' => (∃ v, e = .returned v) ∧
      ((∃ ys, ys = s.row ∧ J ys W') ∨ ∃ pre, pre <+: s.row ∧ Jx pre W') := by
  have c1 := hc.ch.blk.cell 1
  have c2 := hc.ch.blk.cell 2
  simp at c1 c2
  obtain ⟨ord, hsg, hl, hmem, hrow⟩ : ∃ ord : List Int, Seg s.af s.bf 0 ord 0 ∧ ord.length = s.hs.length ∧ (∀ x ∈ ord, x ∈ s.hs) ∧ s.row = ord.map fun h => (h, s.vl h) :=
    ⟨s.hs, hc.ring, by simp, fun x hx => by simpa using hx, by simp [ChS.row]⟩
  rw [hrow]
  have HS := Lib.hid hsg
  have HL := Lib.hid hl
  have HM := Lib.hid hmem
  have hch := hc.ch
  clear hrow hsg hl hmem hc
  have hstep := callsIn_wide (n := n - 1) |>.2 (next_anyi (s.bf 0) (s.af 0) W)
  refine callsIn_of_wp Try.func63 rfl trivial ?_ rfl
  simp only [Try.ntmps63, List.size_toArray, List.length_cons, List.length_nil, Nat.reduceAdd, Nat.reduceSub, Array.replicate_succ, Array.replicate_zero, List.push_toArray, List.append_toArray, List.nil_append, List.cons_append]
  gi_wp2_with fail
  refine ⟨trivial, (fun h => (by cases h)), ?_⟩
  refine hstep.mono ?_
  rintro e w1 ⟨rfl, rfl⟩
  clear hstep
  have hch1 := hch.alloc (.cells #[.int .i64 (s.bf 0), .int .i64 (s.af 0)] 91)
  have h01 := hJ [] W (.cells #[.int .i64 (s.bf 0), .int .i64 (s.af 0)] 91) h0
  have hln := callsIn_wide (n := n - 1) |>.2 (len_anyi s _ hch1)
  clear c1 c2 hch h0
  generalize (W.alloc (.cells #[.int .i64 (s.bf 0), .int .i64 (s.af 0)] 91)) = W1 at hch1 h01 hln ⊢
  gi_wp2_with fail
  refine ⟨trivial, (fun h => (by cases h)), ?_⟩
  refine hln.mono ?_
  rintro e w1 ⟨rfl, rfl⟩
  clear hln
  gi_wp2_with fail
  gi_loopw [6, 19] (fun hv iv wr => Relfi s n₀ ord J W hv iv wr) (fun hv iv wr => s.hs.length - (intOf iv).toNat)
  case atStart =>
    exact ⟨[], ord, rfl, by rw [seg_after HS.out], rfl, h01, hch1⟩
  case round =>
    obtain ⟨pre, rest, hord, rfl, rfl, hJ1, hcr⟩ := hrel
    clear hch1 h01
    have hll := HL.out
    rw [hord, List.length_append] at hll
    cases rest with
    | nil =>
      simp only [List.length_nil, Nat.add_zero] at hll
      have ht : decide (pre.length < s.hs.length) = false := by simp; omega
      have HO := Lib.hid hord
      clear hll hord
      gi_wp2_with fail
      go_end0
      refine ⟨⟨_, rfl⟩, .inl ⟨_, ?_, hJ1⟩⟩
      rw [HO.out, List.append_nil]
    | cons x rest =>
      simp only [List.length_cons] at hll
      have ht : pre.length < s.hs.length := by omega
      have hx : x ∈ s.hs := HM.out x (by rw [hord]; simp)
      have hnext : s.af x = rest.headD 0 := by
        have h1 := HS.out
        rw [hord] at h1
        exact seg_after (seg_append.1 h1).2
      have hf := callsIn_wide (n := n - 1) |>.2 (find_anyi s x wr hcr (hcr.wf (.inr hx)))
      rw [fH_mem hx] at hf
      simp only [chP] at hf
      have k0 := (hcr.mem x hx).cell 0
      have k1 := (hcr.mem x hx).cell 1
      have hst := callsIn_wide (n := n - 1) |>.2 (next_anyi (s.bf x) (s.af x) wr)
      have hcr2 := hcr.alloc (.cells #[.int .i64 (s.bf x), .int .i64 (s.af x)] 91)
      have k2 := (hcr2.mem x hx).cell 2
      simp at k0 k1 k2
      obtain ⟨fn, tmps, assign, body, hy, hR⟩ := hY (n - 1) _ (x, s.vl x) _ (List.mem_map.2 ⟨x, hx, rfl⟩) (hJ _ _ (.cells #[.int .i64 (s.bf x), .int .i64 (s.af x)] 91) hJ1) (by simpa using ht)
      dsimp only at hy
      have HO := Lib.hid hord
      have HN := Lib.hid hnext
      have HLL := Lib.hid hll
      clear hord hnext hll
      simp only [List.headD_cons]
      gi_wp2_with fail
      refine ⟨trivial, (fun h => (by cases h)), ?_⟩
      refine hf.mono ?_
      rintro e w1 ⟨rfl, rfl⟩
      clear hf
      gi_wp2_with fail
      refine ⟨trivial, (fun h => (by cases h)), ?_⟩
      refine hst.mono ?_
      rintro e w1 ⟨rfl, rfl⟩
      clear hst k0 k1
      generalize (wr.alloc (.cells #[.int .i64 (s.bf x), .int .i64 (s.af x)] 91)) = wr2 at hcr2 k2 hy hR ⊢
      gi_wp2
      refine ⟨(fun h => (by cases h)), hR.mono ?_⟩
      rintro e W3 (⟨rfl, hJ3, hk3⟩ | ⟨rfl, hJx3⟩)
      · clear hy hR
        have hcr3 := hcr2.below hk3 hn₀
        gi_wp2
        go_roundw
        case rel => exact ⟨pre ++ [x], rest, by rw [HO.out]; simp, by rw [HN.out], by simp, by simpa using hJ3, hcr3⟩
        case measure => simp [intOf]; omega
      · clear hy hR
        gi_wp2
        refine bodyPost_ret (results_none rfl _ _ _) rfl ?_
        refine ⟨⟨_, rfl⟩, .inr ⟨_, ⟨rest.map fun h => (h, s.vl h), ?_⟩, hJx3⟩⟩
        rw [HO.out]; simp
/-- Between two rounds: the first ones have come; the next one is at hand. -/
def Relbi (s : ChS Int) (n₀ : Nat) (ord : List Int) (J : List (Int × Int) → World → Prop) (W : World) (hv iv : Value) (wr : World) : Prop :=
  ∃ pre rest : List Int, ord = pre ++ rest ∧ hv = .int .i64 (rest.headD 0) ∧ iv = .int .i64 (pre.length : Int) ∧ J (pre.map fun h => (h, s.vl h)) wr ∧ Chi wr s

end Go.Proofs.Ytblclpagfbpamaa
