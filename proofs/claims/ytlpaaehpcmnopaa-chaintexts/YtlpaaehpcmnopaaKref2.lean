/-
  The reference's chain: what its calls Last, First, Ahead, Remove and Move do. The conditions stand in each theorem.
-/
import Derived.Test.YtlpaaehpcmnopaaKref
import Derived.Deep.RegionWith
namespace Go.Proofs.Ytlpaaehpcmnopaa
open Go.RowKit
set_option linter.unusedVariables false

theorem RC.cell1 {base K : Nat} {w : World} {R : List (Int × Int)} {nx : Int} (h : RC base K w R nx) : w.cell? ⟨K, 1, none⟩ = some (.int .i64 nx) := by
  obtain ⟨v, hk, _⟩ := h
  simpa using hk.cell 1
theorem RC.cell0 {base K : Nat} {w : World} {R : List (Int × Int)} {nx : Int} (h : RC base K w R nx) : ∃ A c, w.cell? ⟨K, 0, none⟩ = some (.slice A R.length c) := by
  obtain ⟨v, hk, hr⟩ := h
  have c0 := hk.cell 0
  simp at c0
  rcases own_forms hr with ⟨rfl, hl, _⟩ | ⟨g, cap, rfl, _⟩
  · exact ⟨none, 0, by rw [hl]; exact c0⟩
  · exact ⟨_, _, c0⟩
theorem RcTo.trans {base K : Nat} {w w1 w2 : World} {R R' : List (Int × Int)} {nx nx' : Int} (h : RcTo base K w w1 R nx) (h' : RcTo base K w1 w2 R' nx') : RcTo base K w w2 R' nx' := ⟨h'.1, h.2.trans h'.2 (fun _ => .inl)⟩

theorem RC.alloc {base K : Nat} {w : World} {R : List (Int × Int)} {nx : Int} (h : RC base K w R nx) (o : Obj) : RC base K (w.alloc o) R nx := by
  obtain ⟨v, hk, hr⟩ := h
  exact ⟨v, hk.alloc o, hr.alloc o⟩
theorem RcTo.of_drew {base K : Nat} {w w' : World} {R : List (Int × Int)} {nx : Int} (h : RcTo base K w.drew w' R nx) : RcTo base K w w' R nx := ⟨h.1, h.2.os, h.2.tape, h.2.output, h.2.size, h.2.block⟩

set_option maxHeartbeats 800000 in
/-- Last. -/
theorem rlast_any (base K : Nat) (x : Int) (R : List (Int × Int)) (nx : Int) (w : World) (hc : RC base K w R nx) (hw : (Lit.int .i64 (nx + 1)).wf = true) (h0 : 0 ≤ nx) (hn : R.length ≤ 1000000) (hb : base ≤ w.heap.size) :
    Calls Try.prog 13 #[.pointer (some ⟨K, 0, none⟩), .int .i64 x] w fun e w' => e = .returned (.int .i64 (nx + 1)) ∧ RcTo base K w w' (R ++ [(nx + 1, x)]) (nx + 1) := by
  obtain ⟨A, c, c0⟩ := hc.cell0
  have HF := Lib.hid (rfresh_any base K x R nx w.drew hc hw h0)
  go_enter Try.func13, Try.ntmps13
  go_wp2_with fail
  go_region_with (first
    | (go_at_call 34; refine HF.out.mono ?_; rintro e w1 ⟨rfl, h1⟩; have H1 := Lib.hid h1; obtain ⟨A1, c1, d0⟩ := h1.1.cell0; clear h1)
    | (go_at_call 33; refine (rput_any base K R.length (nx + 1, x) R (nx + 1) w1 H1.out.1 (Nat.le_refl _) hn (Nat.le_trans hb H1.out.2.size)).mono ?_; rintro e w2 ⟨rfl, h2⟩; have H2 := Lib.hid (RcTo.trans H1.out h2); have d1 := h2.1.cell1; clear h2))
  all_goals
    go_wp2
    go_ret
    refine ⟨rfl, ?_⟩
    have := H2.out
    rw [List.take_length, List.drop_length] at this
    exact this.of_drew

set_option maxHeartbeats 800000 in
/-- First. -/
theorem rfirst_any (base K : Nat) (x : Int) (R : List (Int × Int)) (nx : Int) (w : World) (hc : RC base K w R nx) (hw : (Lit.int .i64 (nx + 1)).wf = true) (h0 : 0 ≤ nx) (hn : R.length ≤ 1000000) (hb : base ≤ w.heap.size) :
    Calls Try.prog 29 #[.pointer (some ⟨K, 0, none⟩), .int .i64 x] w fun e w' => e = .returned (.int .i64 (nx + 1)) ∧ RcTo base K w w' ((nx + 1, x) :: R) (nx + 1) := by
  go_enter Try.func29, Try.ntmps29
  go_wp2_with fail
  refine (rfresh_any base K x R nx w hc hw h0).mono ?_
  rintro e w1 ⟨rfl, h1⟩
  go_wp2_with fail
  refine (rput_any base K 0 (nx + 1, x) R (nx + 1) w1 h1.1 (Nat.zero_le _) hn (Nat.le_trans hb h1.2.size)).mono ?_
  rintro e w2 ⟨rfl, h2⟩
  have d1 := h2.1.cell1
  go_wp2
  go_ret
  exact ⟨rfl, h1.trans h2⟩

/-- No member has this handle. -/
def noH (h : Int) (R : List (Int × Int)) : Prop := ∀ x ∈ R, x.1 ≠ h

set_option maxHeartbeats 800000 in
/-- Ahead, of a member that is there. -/
theorem rahead_yes (base K : Nat) (o x : Int) (xs ys : List (Int × Int)) (y : Int × Int) (nx : Int) (w : World) (hc : RC base K w (xs ++ y :: ys) nx) (hx : noH o xs) (hy : y.1 = o) (hw : (Lit.int .i64 (nx + 1)).wf = true) (h0 : 0 ≤ nx) (hn : (xs ++ y :: ys).length ≤ 1000000) (hb : base ≤ w.heap.size) :
    Calls Try.prog 30 #[.pointer (some ⟨K, 0, none⟩), .int .i64 o, .int .i64 x] w fun e w' => e = .returned (.tuple #[.int .i64 (nx + 1), .int .i64 0]) ∧ RcTo base K w w' (xs ++ (nx + 1, x) :: y :: ys) (nx + 1) := by
  have hf := rfind_any base K o _ nx w hc hn
  rw [ixR_mid hx hy] at hf
  have hr := rput_any base K xs.length (nx + 1, x) (xs ++ y :: ys) (nx + 1)
  rw [List.take_left' rfl, List.drop_left' rfl] at hr
  have HC := Lib.hid hc
  have HR := Lib.hid hr
  clear hc hr
  go_enter Try.func30, Try.ntmps30
  go_wp2_with fail
  refine hf.mono ?_
  rintro e w' ⟨rfl, rfl⟩
  clear hf
  go_wp2_with fail
  refine (rfresh_any base K x _ nx w HC.out hw h0).mono ?_
  rintro e w1 ⟨rfl, h1⟩
  go_wp2_with fail
  refine (HR.out w1 h1.1 (by simp) hn (Nat.le_trans hb h1.2.size)).mono ?_
  rintro e w2 ⟨rfl, h2⟩
  have d1 := h2.1.cell1
  go_wp2
  go_ret2
  exact ⟨rfl, h1.trans h2⟩
set_option maxHeartbeats 800000 in
theorem rahead_no (base K : Nat) (o x : Int) (R : List (Int × Int)) (nx : Int) (w : World) (hc : RC base K w R nx) (hx : noH o R) (hn : R.length ≤ 1000000) :
    Calls Try.prog 30 #[.pointer (some ⟨K, 0, none⟩), .int .i64 o, .int .i64 x] w fun e w' => e = .returned (.tuple #[.int .i64 0, .int .i64 5]) ∧ w = w' := by
  have hf := rfind_any base K o _ nx w hc hn
  rw [ixR_no hx] at hf
  go_enter Try.func30, Try.ntmps30
  go_wp2_with fail
  refine hf.mono ?_
  rintro e w' ⟨rfl, rfl⟩
  clear hf
  go_wp2
  go_ret2
  exact ⟨rfl, rfl⟩

set_option maxHeartbeats 800000 in
/-- Remove. -/
theorem rremove_yes (base K : Nat) (h : Int) (xs ys : List (Int × Int)) (y : Int × Int) (nx : Int) (w : World) (hc : RC base K w (xs ++ y :: ys) nx) (hx : noH h xs) (hy : y.1 = h) (hn : (xs ++ y :: ys).length ≤ 1000000) (hb : base ≤ w.heap.size) :
    Calls Try.prog 15 #[.pointer (some ⟨K, 0, none⟩), .int .i64 h] w fun e w' => e = .returned (.tuple #[.int .i64 y.2, .bool true]) ∧ RcTo base K w w' (xs ++ ys) nx := by
  have hf := rfind_any base K h _ nx w hc hn
  rw [ixR_mid hx hy] at hf
  have hr := rcut_any base K xs.length y (xs ++ y :: ys) nx w hc (by simp) hn hb
  rw [List.take_left' rfl, show (xs ++ y :: ys).drop (xs.length + 1) = ys by simp] at hr
  have hfd : ∀ w : World, (Instr.field 54 (.agg #[.int .i64 y.1, .int .i64 y.2]) 1).run Try.prog w = .ok (.int .i64 y.2) w := fun _ => by kernel_rfl
  subst hy
  clear hc
  go_enter Try.func15, Try.ntmps15
  go_wp2_with fail
  refine hf.mono ?_
  rintro e w' ⟨rfl, rfl⟩
  clear hf
  go_wp2_with fail
  refine hr.mono ?_
  rintro e w1 ⟨rfl, h1⟩
  go_wp2
  go_ret2
  exact ⟨rfl, h1⟩
set_option maxHeartbeats 800000 in
theorem rremove_no (base K : Nat) (h : Int) (R : List (Int × Int)) (nx : Int) (w : World) (hc : RC base K w R nx) (hx : noH h R) (hn : R.length ≤ 1000000) :
    Calls Try.prog 15 #[.pointer (some ⟨K, 0, none⟩), .int .i64 h] w fun e w' => e = .returned (.tuple #[.int .i64 0, .bool false]) ∧ w = w' := by
  have hf := rfind_any base K h _ nx w hc hn
  rw [ixR_no hx] at hf
  go_enter Try.func15, Try.ntmps15
  go_wp2_with fail
  refine hf.mono ?_
  rintro e w' ⟨rfl, rfl⟩
  clear hf
  go_wp2
  go_ret2
  exact ⟨rfl, rfl⟩

set_option maxHeartbeats 800000 in
/-- Move, where one of the two is not there. -/
theorem rmove_none (base K : Nat) (h o : Int) (R : List (Int × Int)) (nx : Int) (w : World) (hc : RC base K w R nx) (hx : ixR h R < 0 ∨ ixR o R < 0) (hn : R.length ≤ 1000000) :
    Calls Try.prog 17 #[.pointer (some ⟨K, 0, none⟩), .int .i64 h, .int .i64 o] w fun e w' => e = .returned (.int .i64 5) ∧ w = w' := by
  have hf := rfind_any base K h _ nx w hc hn
  have hf2 := rfind_any base K o _ nx w hc hn
  generalize ixR h R = a at hf hx
  generalize ixR o R = b at hf2 hx
  by_cases ha : a < 0
  · go_enter Try.func17, Try.ntmps17
    go_wp2_with fail
    refine hf.mono ?_
    rintro e w' ⟨rfl, rfl⟩
    clear hf
    go_wp2
    go_ret
    exact ⟨rfl, rfl⟩
  · have hb : b < 0 := hx.resolve_left ha
    go_enter Try.func17, Try.ntmps17
    go_wp2_with fail
    refine hf.mono ?_
    rintro e w' ⟨rfl, rfl⟩
    clear hf
    go_wp2_with fail
    refine hf2.mono ?_
    rintro e w' ⟨rfl, rfl⟩
    clear hf2
    go_wp2
    go_ret
    exact ⟨rfl, rfl⟩
set_option maxHeartbeats 800000 in
theorem rmove_self (base K : Nat) (h : Int) (R : List (Int × Int)) (nx : Int) (w : World) (hc : RC base K w R nx) (hx : 0 ≤ ixR h R) (hn : R.length ≤ 1000000) :
    Calls Try.prog 17 #[.pointer (some ⟨K, 0, none⟩), .int .i64 h, .int .i64 h] w fun e w' => e = .returned (.int .i64 1) ∧ w = w' := by
  have hf := rfind_any base K h _ nx w hc hn
  generalize ixR h R = a at hf hx
  have ha : decide (a < 0) = false := by simp; omega
  go_enter Try.func17, Try.ntmps17
  go_wp2_with fail
  refine hf.mono ?_
  rintro e w' ⟨rfl, rfl⟩
  go_wp2_with fail
  refine hf.mono ?_
  rintro e w' ⟨rfl, rfl⟩
  clear hf
  go_wp2
  go_ret
  exact ⟨rfl, rfl⟩
set_option maxHeartbeats 1600000 in
theorem rmove_yes (base K : Nat) (h o : Int) (xs ys us vs : List (Int × Int)) (y z : Int × Int) (nx : Int) (w : World) (hc : RC base K w (xs ++ y :: ys) nx) (hx : noH h xs) (hy : y.1 = h) (huv : xs ++ ys = us ++ z :: vs) (hu : noH o us) (hz : z.1 = o) (hne : h ≠ o) (ho : 0 ≤ ixR o (xs ++ y :: ys)) (hn : (xs ++ y :: ys).length ≤ 1000000) (hb : base ≤ w.heap.size) :
    Calls Try.prog 17 #[.pointer (some ⟨K, 0, none⟩), .int .i64 h, .int .i64 o] w fun e w' => e = .returned (.int .i64 0) ∧ RcTo base K w w' (us ++ y :: z :: vs) nx := by
  have hf := rfind_any base K h _ nx w hc hn
  rw [ixR_mid hx hy] at hf
  have hf2 := rfind_any base K o _ nx w hc hn
  generalize ixR o (xs ++ y :: ys) = b at hf2 ho
  have hbf : decide (b < 0) = false := by simp; omega
  have hr := rcut_any base K xs.length y (xs ++ y :: ys) nx w hc (by simp) hn hb
  rw [List.take_left' rfl, show (xs ++ y :: ys).drop (xs.length + 1) = ys by simp, huv] at hr
  have hlen : (us ++ z :: vs).length ≤ 1000000 := by rw [← huv]; simp at hn ⊢; omega
  have hq : (h == o) = false := by simpa using hne
  clear hc
  go_enter Try.func17, Try.ntmps17
  go_wp2_with fail
  refine hf.mono ?_
  rintro e w' ⟨rfl, rfl⟩
  go_wp2_with fail
  refine hf2.mono ?_
  rintro e w' ⟨rfl, rfl⟩
  clear hf2
  go_wp2_with fail
  refine hf.mono ?_
  rintro e w' ⟨rfl, rfl⟩
  clear hf
  go_wp2_with fail
  refine hr.mono ?_
  rintro e w1 ⟨rfl, h1⟩
  clear hr
  go_wp2_with fail
  subst hy
  have hkn := KB.new w1 54 #[.int .i64 y.1, .int .i64 y.2]
  have tn := Turns.alloc (fun b => b = K) w1 (.cells #[.int .i64 y.1, .int .i64 y.2] 54)
  have hcn := h1.1.alloc (.cells #[.int .i64 y.1, .int .i64 y.2] 54)
  have hbn : base ≤ (w1.alloc (.cells #[.int .i64 y.1, .int .i64 y.2] 54)).heap.size := by have := h1.2.size; simp; omega
  generalize w1.heap.size = G at hkn ⊢
  generalize (w1.alloc (.cells #[.int .i64 y.1, .int .i64 y.2] 54)) = w2 at hkn tn hcn hbn ⊢
  have y0 := hkn.cell 0
  have y1 := hkn.cell 1
  simp at y0 y1
  have hf3 := rfind_any base K o _ nx w2.drew hcn hlen
  rw [ixR_mid hu hz] at hf3
  have hp := rput_any base K us.length y (us ++ z :: vs) nx w2.drew hcn (by simp) hlen hbn
  rw [List.take_left' rfl, List.drop_left' rfl] at hp
  have HF := Lib.hid hf3
  have HP := Lib.hid hp
  have HT := Lib.hid (h1.2.trans tn (fun _ => .inl))
  clear h1 hcn tn hf3 hp
  go_region_with (first
    | (go_at_call 31; refine HF.out.mono ?_; rintro e w' ⟨rfl, rfl⟩)
    | (go_at_call 33; refine HP.out.mono ?_; rintro e w3 ⟨rfl, h3⟩))
  all_goals
    go_wp2
    go_ret
    have h3' := h3.of_drew
    exact ⟨rfl, h3'.1, HT.out.trans h3'.2 (fun _ => .inl)⟩
end Go.Proofs.Ytlpaaehpcmnopaa
