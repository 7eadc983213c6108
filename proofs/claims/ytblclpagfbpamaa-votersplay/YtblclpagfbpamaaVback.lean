/-
  slices.Backward over the rows of voters, as a range function. The conditions stand in each theorem.
-/
import Derived.Test.YtblclpagfbpamaaVseq
namespace Go.Proofs.Ytblclpagfbpamaa
open Go.RowKit Go.Shelf
set_option linter.unusedVariables false
attribute [local go_sem] Oper.semAt_some

set_option maxHeartbeats 400000 in
theorem bw_any (A : Option Addr) (n c : Nat) (w : World) :
    Calls Try.prog 52 #[.slice A n c] w fun e w' => e = .returned (.func (.func 61) #[] #[.pointer (some ⟨w.heap.size, 0, none⟩)]) ∧ w' = w.alloc (.cells #[.slice A n c] 60) := by
  go_enter Try.func52, Try.ntmps52
  go_wp2
  go_ret
  exact ⟨rfl, rfl⟩

/-- The rows' slice reads as these chains' blocks. -/
def RowsAt (w : World) (A : Option Addr) (n : Nat) (g : Nat) (C : Nat → Nat) : Prop := 0 < n → A = some ⟨g, 0, none⟩ ∧ g < w.heap.size ∧ ∀ j, j < n → w.cell? ⟨g, j, none⟩ = some (.pointer (some ⟨C j, 0, none⟩))

set_option maxRecDepth 100000 in
set_option maxHeartbeats 2000000 in
theorem back_U (Bs : Nat) (A : Option Addr) (n c g : Nat) (C : Nat → Nat) (w : World) (hBs : Bs < w.heap.size) (hB : w.cell? ⟨Bs, 0, none⟩ = some (.slice A n c)) (hn : n ≤ 1000000) (hR : RowsAt w A n g C) :
    SeqU 61 #[.pointer (some ⟨Bs, 0, none⟩)] (fun x : { j : Nat // j < n } => #[Value.int .i64 (x.1 : Nat), .pointer (some ⟨C x.1, 0, none⟩)]) (fun k => k = Bs ∨ (0 < n ∧ k = g)) (fun pre x _ => x.1 + pre.length + 1 = n) (fun ys _ => ys.length = n) (fun _ => True) w := by
  intro l J Jx W hW hJ hJx hY h0
  have hB1 : W.cell? ⟨Bs, 0, none⟩ = some (.slice A n c) := (hW.cell (p := ⟨Bs, 0, none⟩) hBs).trans hB
  have hR1 : RowsAt W A n g C := fun h => by
    obtain ⟨e, hg, h1⟩ := hR h
    exact ⟨e, Nat.lt_of_lt_of_le hg hW.size, fun j hj => (hW.cell (p := ⟨g, j, none⟩) hg).trans (h1 j hj)⟩
  have hBs1 : Bs < W.heap.size := Nat.lt_of_lt_of_le hBs hW.size
  clear hR hB hBs
  have hwr : IntKind.i64.wrap ((n : Int) - 1) = (n : Int) - 1 := IntWalk.i64_in _ (by omega)
  refine callsIn_of_wp Try.func61 rfl trivial ?_ rfl
  simp only [Try.ntmps61, List.size_toArray, List.length_cons, List.length_nil, Nat.reduceAdd, Nat.reduceSub, Array.replicate_succ, Array.replicate_zero, List.push_toArray, List.append_toArray, List.nil_append, List.cons_append]
  gi_wp2_with fail
  gi_loopw [3] (fun iv wr => ∃ pre : List { j : Nat // j < n }, pre.length ≤ n ∧ iv = .int .i64 ((n : Int) - 1 - pre.length) ∧ J (fun k => k = Bs ∨ (0 < n ∧ k = g)) pre wr ∧ wr.cell? ⟨Bs, 0, none⟩ = some (.slice A n c) ∧ Bs < wr.heap.size ∧ RowsAt wr A n g C) (fun iv wr => (intOf iv + 1).toNat)
  case atStart => exact ⟨[], Nat.zero_le _, by simp, h0, hB1, hBs1, hR1⟩
  case round =>
    obtain ⟨pre, hle, rfl, hJ1, hB2, hBl, hR2⟩ := hrel
    clear h0 hB1 hBs1 hR1
    by_cases hlt : pre.length < n
    · obtain ⟨rfl, hg, hcell⟩ := hR2 (by omega)
      obtain ⟨j, hj⟩ : ∃ j, j + pre.length + 1 = n := ⟨n - 1 - pre.length, by omega⟩
      have hji : (n : Int) - 1 - (pre.length : Int) = (j : Int) := by omega
      have hjn : j < n := by omega
      have hjnI : (j : Int) < (n : Int) := by omega
      have hj0 : (0 : Int) ≤ (j : Int) := by omega
      have hjd : ¬ ((j : Int) < 0) := by omega
      have hc1 := hcell j hjn
      obtain ⟨fn, tmps, assign, body, hy, hRr⟩ := yield_depthi 8 (hY _ pre ⟨j, hjn⟩ wr hj hJ1)
      dsimp only at hy
      rw [hji]
      have HC := Lib.hid (And.intro hcell hg)
      have HJ := Lib.hid (And.intro hj hji)
      have HBl := Lib.hid hBl
      clear hcell hR2 hj hji hle
      gi_wp2
      refine hRr.mono ?_
      rintro e W3 ⟨⟨rfl, hJ3, ht3⟩ | ⟨rfl, hJx3⟩, _⟩
      · have hB3 : W3.cell? ⟨Bs, 0, none⟩ = some (.slice (some ⟨g, 0, none⟩) n c) := by
          rw [← hB2]
          exact World.cell?_of_block (ht3.block Bs HBl.out (by simp))
        have hR3 : RowsAt W3 (some ⟨g, 0, none⟩) n g C := fun h => ⟨rfl, Nat.lt_of_lt_of_le HC.out.2 ht3.size, fun q hq => by
          rw [← HC.out.1 q hq]
          exact World.cell?_of_block (ht3.block g HC.out.2 (by simp; omega))⟩
        have hw1 : IntKind.i64.wrap ((j : Int) - 1) = (j : Int) - 1 := IntWalk.i64_in _ (by omega)
        have hBl3 : Bs < W3.heap.size := Nat.lt_of_lt_of_le HBl.out ht3.size
        clear hy hRr ht3
        gi_wp2
        go_roundw
        case rel =>
          refine ⟨pre ++ [⟨j, hjn⟩], ?_, ?_, hJ3, hB3, hBl3, hR3⟩
          · have := HJ.out.1; simp; omega
          · have := HJ.out.2; simp; omega
        case measure => simp [intOf]
      · clear hy hRr
        gi_wp2
        refine bodyPost_ret (results_none rfl _ _ _) rfl ?_
        exact ⟨⟨_, rfl⟩, .inr ⟨_, trivial, hJx3⟩⟩
    · have hneg : ¬ ((0 : Int) ≤ (n : Int) - 1 - (pre.length : Int)) := by omega
      have hneg2 : ((n : Int) - 1 - (pre.length : Int)) < 0 := by omega
      have HL := Lib.hid (And.intro hle hlt)
      clear hle hlt hR2
      gi_wp2
      go_end0
      exact ⟨⟨_, rfl⟩, .inl ⟨_, pre, by have := HL.out; omega, hJ1⟩⟩
end Go.Proofs.Ytblclpagfbpamaa
