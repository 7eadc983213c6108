/-
  The reference's chain: a struct with a row of members and the last handle; what its calls Find, fresh, put, cut do. The conditions stand in each theorem.
-/
import Derived.Test.YtlpaaehpcmnopaaSrow
import Derived.Test.YtlpaaehpcmnopaaKrow
import Derived.Handy
import Derived.Lib.Hide
import Derived.BigRegion
import Derived.Deep.RegionLaw
import Derived.RangeFuncBox
import Derived.Deep.Onto
namespace Go.Proofs.Ytlpaaehpcmnopaa
open Go.RowKit
set_option linter.unusedVariables false

/-- The cells of a row of members. -/
def rm (R : List (Int × Int)) : List Value := R.flatMap fun x => [.int .i64 x.1, .int .i64 x.2]
theorem rm_len (R : List (Int × Int)) : (rm R).length = R.length * 2 := by
  induction R with
  | nil => rfl
  | cons x xs ih => simp [rm] at ih ⊢; omega
theorem rm_append (R Q : List (Int × Int)) : rm (R ++ Q) = rm R ++ rm Q := by simp [rm]
theorem rm_take : ∀ (R : List (Int × Int)) (k : Nat), (rm R).take (k * 2) = rm (R.take k)
  | R, 0 => by simp [rm]
  | [], k + 1 => by simp [rm]
  | x :: xs, k + 1 => by
    have := rm_take xs k
    rw [show (k + 1) * 2 = k * 2 + 1 + 1 by omega]
    simp only [rm, List.flatMap_cons, List.cons_append, List.nil_append, List.take_succ_cons] at this ⊢
    rw [this]
theorem rm_drop : ∀ (R : List (Int × Int)) (k : Nat), (rm R).drop (k * 2) = rm (R.drop k)
  | R, 0 => by simp
  | [], k + 1 => by simp [rm]
  | x :: xs, k + 1 => by
    have := rm_drop xs k
    rw [show (k + 1) * 2 = k * 2 + 1 + 1 by omega]
    simp only [rm, List.flatMap_cons, List.cons_append, List.nil_append, List.drop_succ_cons] at this ⊢
    rw [this]
theorem rm_get : ∀ (R : List (Int × Int)) (k : Nat) (x : Int × Int), R[k]? = some x → (rm R)[k * 2]? = some (.int .i64 x.1) ∧ (rm R)[k * 2 + 1]? = some (.int .i64 x.2)
  | [], k, x, h => by simp at h
  | y :: ys, 0, x, h => by simp at h; subst h; simp [rm]
  | y :: ys, k + 1, x, h => by
    have := rm_get ys k x (by simpa using h)
    rw [show (k + 1) * 2 = k * 2 + 1 + 1 by omega]
    simpa [rm] using this
theorem rm_one (R : List (Int × Int)) : ∀ u ∈ rm R, u.oneCell' = true := by
  intro u hu
  simp only [rm, List.mem_flatMap] at hu
  obtain ⟨x, _, hx⟩ := hu
  simp at hx
  rcases hx with rfl | rfl <;> rfl

/-- The reference's chain at block K: its row, its last handle. -/
def RC (base K : Nat) (w : World) (R : List (Int × Int)) (nx : Int) : Prop :=
  ∃ v, KB w K 29 #[v, .int .i64 nx] ∧ w.ownsRow base 54 2 v R.length (rm R)

/-- The place of a handle, or -1. -/
def ixR (h : Int) : List (Int × Int) → Int
  | [] => -1
  | x :: xs => if x.1 = h then 0 else if ixR h xs < 0 then -1 else ixR h xs + 1
theorem ixR_no {h : Int} : ∀ {R : List (Int × Int)}, (∀ x ∈ R, x.1 ≠ h) → ixR h R = -1
  | [], _ => rfl
  | x :: xs, hx => by rw [ixR, if_neg (hx x (by simp)), ixR_no (fun y hy => hx y (by simp [hy]))]; rfl
theorem ixR_mid {h : Int} {y : Int × Int} {ys : List (Int × Int)} : ∀ {xs : List (Int × Int)}, (∀ x ∈ xs, x.1 ≠ h) → y.1 = h → ixR h (xs ++ y :: ys) = xs.length
  | [], _, hy => by simp [ixR, hy]
  | x :: xs, hx, hy => by
    rw [List.cons_append, ixR, if_neg (hx x (by simp)), ixR_mid (fun z hz => hx z (by simp [hz])) hy]
    rw [if_neg (by omega)]; simp

set_option maxHeartbeats 800000 in
/-- Find. -/
theorem rfind_any (base K : Nat) (h : Int) (R : List (Int × Int)) (nx : Int) (w : World) (hc : RC base K w R nx) (hn : R.length ≤ 1000000) :
    Calls Try.prog 31 #[.pointer (some ⟨K, 0, none⟩), .int .i64 h] w fun e w' => e = .returned (.int .i64 (ixR h R)) ∧ w = w' := by
  obtain ⟨v, hk, hrow⟩ := hc
  have c0 := hk.cell 0
  simp at c0
  rcases own_forms hrow with ⟨rfl, hl, hr⟩ | ⟨g, cap, rfl, _, hcap, _, _, cur, hg, hcs, hct⟩
  · obtain rfl : R = [] := List.eq_nil_of_length_eq_zero hl
    clear hrow hk
    go_enter Try.func31, Try.ntmps31
    go_wp2_with fail
    go_loopw [11] (fun tv wr => tv = .int .i64 0 ∧ wr = w) (fun tv _ => 0)
    case atStart => exact ⟨rfl, rfl⟩
    case round =>
      obtain ⟨rfl, rfl⟩ := hrel
      go_wp2
      go_ret
      exact ⟨rfl, rfl⟩
  · have hcell : ∀ i x, R[i]? = some x → w.cell? ⟨g, i * 2, none⟩ = some (.int .i64 x.1) := fun i x hx => by
      have h1 := (rm_get R i x hx).1
      have h2 := hrow.cellAt (i * 2) (by have := (List.getElem?_eq_some_iff.1 hx).1; omega)
      rw [h2, h1]
    have HC := Lib.hid hcell
    clear hrow hk hg hcs hct hcell
    go_enter Try.func31, Try.ntmps31
    go_wp2_with fail
    go_loopw [11] (fun tv wr => ∃ xs ys, R = xs ++ ys ∧ tv = .int .i64 (xs.length : Nat) ∧ (∀ x ∈ xs, x.1 ≠ h) ∧ wr = w) (fun tv _ => R.length - (intOf tv).toNat)
    case atStart => exact ⟨[], R, rfl, rfl, by simp, rfl⟩
    case round =>
      obtain ⟨xs, ys, hR, rfl, hx, rfl⟩ := hrel
      have hlR : R.length = xs.length + ys.length := by rw [hR]; simp
      cases ys with
      | nil =>
        have ht : decide (xs.length < R.length) = false := by simp; simp at hlR; omega
        have HR := Lib.hid hR
        have HX := Lib.hid hx
        simp at hlR
        clear hR hx
        go_wp2
        all_goals first
          | (exfalso; omega)
          | (go_ret; refine ⟨?_, rfl⟩; rw [HR.out, List.append_nil, ixR_no HX.out]; rfl)
      | cons y ys =>
        simp only [List.length_cons] at hlR
        have hlt : xs.length < R.length := by omega
        have hlc : xs.length < cap := by omega
        have k1 := HC.out xs.length y (by rw [hR]; simp)
        by_cases he : y.1 = h
        · have HR := Lib.hid hR
          have HX := Lib.hid hx
          have HE := Lib.hid he
          have hq : (y.1 == h) = true := by simp [he]
          clear hR hx he
          go_wp2
          go_ret
          refine ⟨?_, rfl⟩
          rw [HR.out, ixR_mid HX.out HE.out]; rfl
        · have HR := Lib.hid hR
          have HX := Lib.hid hx
          have HE := Lib.hid he
          have hq : (y.1 == h) = false := by simp [he]
          clear hR hx he
          go_wp2
          go_roundw
          case rel => exact ⟨xs ++ [y], ys, by rw [HR.out]; simp, by simp, fun z hz => (List.mem_append.1 hz).elim (HX.out z) (fun h1 => by rw [List.mem_singleton.1 h1]; exact HE.out), by first | rfl | trivial⟩
          case measure => simp [intOf]; omega

theorem info_rm : (Try.prog.info? 54).map (fun i => (i.zero, i.size, i.bytes)) = some (some (.agg #[.int .i64 0, .int .i64 0]), 2, 16) := by kernel_rfl

/-- What a call has made of the reference's chain: only its own block, and new ones, have turned. -/
def RcTo (base K : Nat) (w w' : World) (R : List (Int × Int)) (nx : Int) : Prop := RC base K w' R nx ∧ Turns (fun b => b = K) w w'

set_option maxHeartbeats 800000 in
/-- fresh. -/
theorem rfresh_any (base K : Nat) (x : Int) (R : List (Int × Int)) (nx : Int) (w : World) (hc : RC base K w R nx) (hw : (Lit.int .i64 (nx + 1)).wf = true) (h0 : 0 ≤ nx) :
    Calls Try.prog 34 #[.pointer (some ⟨K, 0, none⟩), .int .i64 x] w fun e w' => e = .returned (.agg #[.int .i64 (nx + 1), .int .i64 x]) ∧ RcTo base K w w' R (nx + 1) := by
  obtain ⟨v, hk, hrow⟩ := hc
  have c1 := hk.cell 1
  have f1 := hk.frozen 1
  simp at c1
  have hwr : IntKind.i64.wrap (nx + 1) = nx + 1 := by
    simp only [Lit.wf, decide_eq_true_eq, Bool.and_eq_true] at hw
    have : IntKind.i64.max = 9223372036854775807 := by decide
    exact IntWalk.i64_in _ (by omega)
  have hlt := hk.lt
  go_enter Try.func34, Try.ntmps34
  go_wp2
  have hk2 := (hk.set 1 (.int .i64 (nx + 1)))
  have hkA := hk2.alloc (.cells #[.int .i64 (nx + 1), .int .i64 x] 54)
  have hsz : (w.setCell ⟨K, 1, none⟩ (.int .i64 (nx + 1))).heap.size = w.heap.size := by simp [World.setCell]
  have hnew := KB.new (w.setCell ⟨K, 1, none⟩ (.int .i64 (nx + 1))) 54 #[.int .i64 (nx + 1), .int .i64 x]
  rw [hsz] at hnew
  have k0 := hnew.cell 0
  have k1 := hnew.cell 1
  simp at k0 k1
  refine bodyPost_ret (v := .agg #[.int .i64 (nx + 1), .int .i64 x]) (by simp [results, Try.results34, go_sem, k0, k1]) rfl ?_
  refine ⟨rfl, ⟨v, by simpa using hkA, ?_⟩, (Turns.setCell (F := fun b => b = K) w ⟨K, 1, none⟩ (.int .i64 (nx + 1)) rfl).trans (Turns.alloc (fun b => b = K) _ _) (fun _ => .inl)⟩
  refine World.ownsRow.alloc ?_ _
  refine hrow.kept (row := some K) ⟨rfl, rfl, rfl, by rw [hsz]; exact Nat.le_refl _, fun b _ hb => Below.heap_setCell w _ _ b (fun e => hb (by rw [e]))⟩ ?_
  rcases own_forms hrow with ⟨rfl, _, _⟩ | ⟨g, cap, rfl, _, _, _, _, cur, hg, _, _⟩
  · exact .inl rfl
  · refine .inr fun e => ?_
    injection e with e
    change g = K at e
    subst e
    unfold KB at hk
    rw [hk] at hg
    injection hg with hg
    injection hg with _ ht
    exact absurd ht (by decide)

theorem rc_ne {base K g cap n : Nat} {w : World} {v : Value} {nx : Value} {cs : List Value} (hk : KB w K 29 #[v, nx]) (hrow : w.ownsRow base 54 2 (.slice (some ⟨g, 0, none⟩) n cap) n cs) : g ≠ K := by
  rintro rfl
  rcases own_forms hrow with ⟨h, _, _⟩ | ⟨g', cap', h, _, _, _, _, cur, hg, _, _⟩
  · cases h
  · cases h
    unfold KB at hk
    rw [hk] at hg
    injection hg with hg
    injection hg with _ ht
    exact absurd ht (by decide)

set_option maxHeartbeats 1600000 in
/-- put. -/
theorem rput_any (base K i : Nat) (p : Int × Int) (R : List (Int × Int)) (nx : Int) (w : World) (hc : RC base K w R nx) (hi : i ≤ R.length) (hn : R.length ≤ 1000000) (hb : base ≤ w.heap.size) :
    Calls Try.prog 33 #[.pointer (some ⟨K, 0, none⟩), .int .i64 i, .agg #[.int .i64 p.1, .int .i64 p.2]] w fun e w' => e = .returned (.tuple #[]) ∧ RcTo base K w w' (R.take i ++ p :: R.drop i) nx := by
  obtain ⟨v, hk, hrow⟩ := hc
  have hkA := hk.alloc (.cells #[.int .i64 p.1, .int .i64 p.2] 54)
  have hrA := hrow.alloc (.cells #[.int .i64 p.1, .int .i64 p.2] 54)
  have hpA := KB.new w 54 #[.int .i64 p.1, .int .i64 p.2]
  have bA : Below w.heap.size w (w.alloc (.cells #[.int .i64 p.1, .int .i64 p.2] 54)) := (Below.refl _ w).alloc (Nat.le_refl _) _
  have c0 := hkA.cell 0
  simp at c0
  have hKlt := hk.lt
  rcases own_forms hrow with ⟨rfl, hl, hr⟩ | ⟨g, cap, rfl, _, hcap, hmax, hglt, _⟩
  · obtain rfl : R = [] := List.eq_nil_of_length_eq_zero hl
    obtain rfl : i = 0 := by simpa using hi
    clear hk hrow
    go_enter Try.func33, Try.ntmps33
    go_wp2_with (at_builtin; first
      | (refine wpList_appS _ 2 16 _ 54 rfl (.tmp 7) (.tmp 13) 27 rfl (w.heap.size + 1) Try.underlying27 info_rm rfl (by decide) none none 0 0 0 0 [] (rm (List.take 0 [])) rfl rfl (World.ownsRow_nil _ _ _ _) (Sr.nil _ _) (rm_one _) (by unfold maxLen; omega) (by omega) (by first | omega | (simp; omega) | simp) ?_; intro A1 d1 w1 o1 _ b1; simp only [Nat.zero_add, List.nil_append] at o1; have k1 := hkA.below b1 (by omega); have r1 := own_below hrA b1 (fun g' e => by cases e); have p1 := hpA.below b1 (by omega); have p10 := p1.cell 0; have p11 := p1.cell 1; simp at p10 p11; have s1 := b1.size; simp at s1; have e1 := (k1.alloc (.cells #[.int .i64 p.1, .int .i64 p.2] 54)).cell 0; simp at e1)
      | (refine wpList_appS _ 2 16 _ 54 rfl (.tmp 15) (.tmp 17) 27 rfl (w.heap.size + 1) Try.underlying27 info_rm rfl (by decide) A1 (some ⟨w1.heap.size, 0, none⟩) 0 d1 1 1 (rm (List.take 0 [])) [.int .i64 p.1, .int .i64 p.2] rfl rfl (o1.alloc _) (Sr.new w1 _ _ rfl) (rm_one [p]) (by unfold maxLen; omega) (by omega) (by first | omega | (simp; omega) | simp) ?_; intro A2 d2 w2 o2 _ b2; have k2 := (k1.alloc _).below b2 (by omega); have r2 := own_below (r1.alloc _) b2 (fun g' e => by cases e); have s2 := b2.size; simp at s2; have e2 := k2.cell 0; simp at e2; clear p10 p11 e1)
      | (refine wpList_appS _ 2 16 _ 54 rfl (.tmp 20) (.tmp 26) 27 rfl (w.heap.size + 1) Try.underlying27 info_rm rfl (by decide) A2 none (0 + 1) d2 0 0 (rm (List.take 0 []) ++ [.int .i64 p.1, .int .i64 p.2]) (rm (List.drop 0 [])) rfl rfl o2 (Sr.nil _ _) (rm_one _) (by unfold maxLen; omega) (by omega) (by first | omega | (simp; omega) | simp) ?_; intro A3 d3 w3 o3 _ b3; have k3 := k2.below b3 (by omega); have e3 := k3.cell 0; have f3 := k3.frozen 0; simp at e3; clear e2))
    go_end0
    have hB : Below w.heap.size w w3 := ((((bA.trans (b1.mono (by omega))).alloc (by omega) _).trans (b2.mono (by omega))).trans (b3.mono (by omega)))
    refine ⟨rfl, ⟨_, by simpa using k3.set 0 _, ?_⟩, (Turns.of_below (F := fun b => b = K) hB).trans (Turns.setCell (F := fun b => b = K) _ _ _ rfl) (fun _ => .inl)⟩
    exact (World.ownsRow.mono o3 (by omega)).kept (grownBy_setCell' w3 K _) (.inr (fun e => by have := (o3.lt K e).1; omega))
  · have pt : ∀ (W : World), W.ownsRow base 54 2 (.slice (some ⟨g, 0, none⟩) R.length cap) R.length (rm R) → Sr 2 W (some ⟨g, 0, none⟩) i cap (rm (R.take i)) ∧ Sr 2 W (some ⟨g, i * 2, none⟩) (R.length - i) (cap - i) (rm (R.drop i)) := by
      intro W hr
      have h1 := own_part hr 0 i (by omega)
      have h2 := own_part hr i (R.length - i) (by omega)
      simp only [Nat.zero_mul, List.drop_zero, Nat.sub_zero] at h1
      rw [rm_take] at h1
      rw [rm_drop, List.take_of_length_le (by rw [rm_len]; simp)] at h2
      exact ⟨h1, h2⟩
    clear hk hrow
    by_cases hic : i < cap
    · have HP := Lib.hid pt
      clear pt
      go_enter Try.func33, Try.ntmps33
      go_wp2_with (at_builtin; first
        | (refine wpList_appS _ 2 16 _ 54 rfl (.tmp 7) (.tmp 13) 27 rfl (w.heap.size + 1) Try.underlying27 info_rm rfl (by decide) none (some ⟨g, 0, none⟩) 0 0 i cap [] (rm (R.take i)) rfl rfl (World.ownsRow_nil _ _ _ _) (HP.out _ hrA).1 (rm_one _) (by unfold maxLen; omega) (by omega) (by first | omega | (simp; omega) | simp) ?_; intro A1 d1 w1 o1 _ b1; simp only [Nat.zero_add, List.nil_append] at o1; have k1 := hkA.below b1 (by omega); have r1 := own_below hrA b1 (fun g' e => by injection e with e; change g = g' at e; omega); have p1 := hpA.below b1 (by omega); have p10 := p1.cell 0; have p11 := p1.cell 1; simp at p10 p11; have s1 := b1.size; simp at s1; have e1 := (k1.alloc (.cells #[.int .i64 p.1, .int .i64 p.2] 54)).cell 0; simp at e1)
        | (refine wpList_appS _ 2 16 _ 54 rfl (.tmp 15) (.tmp 17) 27 rfl (w.heap.size + 1) Try.underlying27 info_rm rfl (by decide) A1 (some ⟨w1.heap.size, 0, none⟩) i d1 1 1 (rm (R.take i)) [.int .i64 p.1, .int .i64 p.2] rfl rfl (o1.alloc _) (Sr.new w1 _ _ rfl) (rm_one [p]) (by unfold maxLen; omega) (by omega) (by first | omega | (simp; omega) | simp) ?_; intro A2 d2 w2 o2 _ b2; have k2 := (k1.alloc _).below b2 (by omega); have r2 := own_below (r1.alloc _) b2 (fun g' e => by injection e with e; change g = g' at e; omega); have s2 := b2.size; simp at s2; have e2 := k2.cell 0; simp at e2; clear p10 p11 e1)
        | (refine wpList_appS _ 2 16 _ 54 rfl (.tmp 20) (.tmp 26) 27 rfl (w.heap.size + 1) Try.underlying27 info_rm rfl (by decide) A2 (some ⟨g, i * 2, none⟩) (i + 1) d2 (R.length - i) (cap - i) (rm (R.take i) ++ [.int .i64 p.1, .int .i64 p.2]) (rm (R.drop i)) rfl rfl o2 (HP.out _ r2).2 (rm_one _) (by unfold maxLen; omega) (by omega) (by first | omega | (simp; omega) | simp) ?_; intro A3 d3 w3 o3 _ b3; have k3 := k2.below b3 (by omega); have e3 := k3.cell 0; have f3 := k3.frozen 0; simp at e3; clear e2))
      go_end0
      have hB : Below w.heap.size w w3 := ((((bA.trans (b1.mono (by omega))).alloc (by omega) _).trans (b2.mono (by omega))).trans (b3.mono (by omega)))
      refine ⟨rfl, ⟨_, by simpa using k3.set 0 _, ?_⟩, (Turns.of_below (F := fun b => b = K) hB).trans (Turns.setCell (F := fun b => b = K) _ _ _ rfl) (fun _ => .inl)⟩
      rw [show (R.take i ++ p :: R.drop i).length = i + 1 + (R.length - i) by simp; try omega, show rm (R.take i ++ p :: R.drop i) = rm (R.take i) ++ [.int .i64 p.1, .int .i64 p.2] ++ rm (R.drop i) by simp [rm]]
      exact (World.ownsRow.mono o3 (by omega)).kept (grownBy_setCell' w3 K _) (.inr (fun e => by have := (o3.lt K e).1; omega))
    · obtain rfl : cap = i := by omega
      have pt2 : ∀ (W : World), W.ownsRow base 54 2 (.slice (some ⟨g, 0, none⟩) R.length cap) R.length (rm R) → Sr 2 W (some ⟨g, 0, none⟩) cap cap (rm (R.take cap)) ∧ Sr 2 W (some ⟨g, 0, none⟩) 0 0 (rm (R.drop cap)) := by
        intro W hr
        refine ⟨(pt W hr).1, ?_⟩
        rw [List.drop_eq_nil_of_le (by omega)]
        exact ⟨rfl, Nat.le_refl _, Nat.zero_le _, fun _ => ⟨rfl, rfl⟩, fun a e j u hu => by simp [rm] at hu⟩
      have HP := Lib.hid pt2
      clear pt pt2
      go_enter Try.func33, Try.ntmps33
      go_wp2_with (at_builtin; first
        | (refine wpList_appS _ 2 16 _ 54 rfl (.tmp 7) (.tmp 13) 27 rfl (w.heap.size + 1) Try.underlying27 info_rm rfl (by decide) none (some ⟨g, 0, none⟩) 0 0 cap cap [] (rm (R.take cap)) rfl rfl (World.ownsRow_nil _ _ _ _) (HP.out _ hrA).1 (rm_one _) (by unfold maxLen; omega) (by omega) (by first | omega | (simp; omega) | simp) ?_; intro A1 d1 w1 o1 _ b1; simp only [Nat.zero_add, List.nil_append] at o1; have k1 := hkA.below b1 (by omega); have r1 := own_below hrA b1 (fun g' e => by injection e with e; change g = g' at e; omega); have p1 := hpA.below b1 (by omega); have p10 := p1.cell 0; have p11 := p1.cell 1; simp at p10 p11; have s1 := b1.size; simp at s1; have e1 := (k1.alloc (.cells #[.int .i64 p.1, .int .i64 p.2] 54)).cell 0; simp at e1)
        | (refine wpList_appS _ 2 16 _ 54 rfl (.tmp 15) (.tmp 17) 27 rfl (w.heap.size + 1) Try.underlying27 info_rm rfl (by decide) A1 (some ⟨w1.heap.size, 0, none⟩) cap d1 1 1 (rm (R.take cap)) [.int .i64 p.1, .int .i64 p.2] rfl rfl (o1.alloc _) (Sr.new w1 _ _ rfl) (rm_one [p]) (by unfold maxLen; omega) (by omega) (by first | omega | (simp; omega) | simp) ?_; intro A2 d2 w2 o2 _ b2; have k2 := (k1.alloc _).below b2 (by omega); have r2 := own_below (r1.alloc _) b2 (fun g' e => by injection e with e; change g = g' at e; omega); have s2 := b2.size; simp at s2; have e2 := k2.cell 0; simp at e2; clear p10 p11 e1)
        | (refine wpList_appS _ 2 16 _ 54 rfl (.tmp 20) (.tmp 26) 27 rfl (w.heap.size + 1) Try.underlying27 info_rm rfl (by decide) A2 (some ⟨g, 0, none⟩) (cap + 1) d2 0 0 (rm (R.take cap) ++ [.int .i64 p.1, .int .i64 p.2]) (rm (R.drop cap)) rfl rfl o2 (HP.out _ r2).2 (rm_one _) (by unfold maxLen; omega) (by omega) (by first | omega | (simp; omega) | simp) ?_; intro A3 d3 w3 o3 _ b3; have k3 := k2.below b3 (by omega); have e3 := k3.cell 0; have f3 := k3.frozen 0; simp at e3; clear e2))
      go_end0
      have hB : Below w.heap.size w w3 := ((((bA.trans (b1.mono (by omega))).alloc (by omega) _).trans (b2.mono (by omega))).trans (b3.mono (by omega)))
      refine ⟨rfl, ⟨_, by simpa using k3.set 0 _, ?_⟩, (Turns.of_below (F := fun b => b = K) hB).trans (Turns.setCell (F := fun b => b = K) _ _ _ rfl) (fun _ => .inl)⟩
      rw [show (R.take cap ++ p :: R.drop cap).length = cap + 1 + 0 by simp; try omega, show rm (R.take cap ++ p :: R.drop cap) = rm (R.take cap) ++ [.int .i64 p.1, .int .i64 p.2] ++ rm (R.drop cap) by simp [rm]]
      exact (World.ownsRow.mono o3 (by omega)).kept (grownBy_setCell' w3 K _) (.inr (fun e => by have := (o3.lt K e).1; omega))

set_option maxHeartbeats 1600000 in
/-- cut. -/
theorem rcut_any (base K i : Nat) (q : Int × Int) (R : List (Int × Int)) (nx : Int) (w : World) (hc : RC base K w R nx) (hi : R[i]? = some q) (hn : R.length ≤ 1000000) (hb : base ≤ w.heap.size) :
    Calls Try.prog 37 #[.pointer (some ⟨K, 0, none⟩), .int .i64 i] w fun e w' => e = .returned (.agg #[.int .i64 q.1, .int .i64 q.2]) ∧ RcTo base K w w' (R.take i ++ R.drop (i + 1)) nx := by
  obtain ⟨v, hk, hrow⟩ := hc
  have hiR : i < R.length := (List.getElem?_eq_some_iff.1 hi).1
  have hKlt := hk.lt
  have c0 := hk.cell 0
  simp at c0
  rcases own_forms hrow with ⟨rfl, hl, hr⟩ | ⟨g, cap, rfl, _, hcap, hmax, hglt, _⟩
  · omega
  · have q0 := (rm_get R i q hi).1
    have q1 := (rm_get R i q hi).2
    have e0 := hrow.cellAt (i * 2) (by omega)
    have e1 := hrow.cellAt (i * 2 + 1) (by omega)
    rw [q0] at e0
    rw [q1] at e1
    clear q0 q1
    go_enter Try.func37, Try.ntmps37
    go_wp2_with fail
    have hbW : Below w.heap.size w ((w.alloc (.cells #[.int .i64 0, .int .i64 0] 54)).alloc (.cells #[.int .i64 q.1, .int .i64 q.2] 54)) := ((Below.refl _ w).alloc (Nat.le_refl _) _).alloc (by simp) _
    have kz := (KB.new w 54 #[.int .i64 0, .int .i64 0]).alloc (.cells #[.int .i64 q.1, .int .i64 q.2] 54)
    have kq := KB.new (w.alloc (.cells #[.int .i64 0, .int .i64 0] 54)) 54 #[.int .i64 q.1, .int .i64 q.2]
    simp only [World.size_alloc] at kq
    have hW := hk.below hbW hKlt
    have rW := own_below hrow hbW (fun g' e => by injection e with e; change g = g' at e; omega)
    generalize ((w.alloc (.cells #[.int .i64 0, .int .i64 0] 54)).alloc (.cells #[.int .i64 q.1, .int .i64 q.2] 54)) = W0 at hbW kz kq hW rW ⊢
    clear c0 e0 e1
    have hK0 := hW.lt
    have hs0 := hbW.size
    have c0 := hW.cell 0
    have c0a := (hW.alloc (.cells #[] 54)).cell 0
    simp at c0 c0a
    have r1 := own_part rW 0 i (by omega)
    have r2 := own_part rW (i + 1) (R.length - (i + 1)) (by omega)
    simp only [Nat.zero_mul, List.drop_zero, Nat.sub_zero] at r1
    rw [rm_take] at r1
    rw [rm_drop, List.take_of_length_le (by rw [rm_len]; simp)] at r2
    obtain ⟨A, hA, hA2, hAg⟩ : ∃ A : Addr, (if cap = i + 1 then some (⟨g, 0, none⟩ : Addr) else some ⟨g, (i + 1) * 2, none⟩) = some A ∧ Hid (Sr 2 W0 (some A) (R.length - (i + 1)) (cap - (i + 1)) (rm (R.drop (i + 1)))) ∧ A.block = g := by
      by_cases h : cap = i + 1
      · refine ⟨⟨g, 0, none⟩, by simp [h], ?_, rfl⟩
        show Sr 2 W0 (some ⟨g, 0, none⟩) (R.length - (i + 1)) (cap - (i + 1)) (rm (R.drop (i + 1)))
        have h0 : R.length - (i + 1) = 0 := by omega
        rw [h0, List.drop_eq_nil_of_le (by omega)]
        exact ⟨rfl, Nat.zero_le _, by unfold maxLen at hmax ⊢; omega, (fun e => by cases e), fun a e j u hu => by simp [rm] at hu⟩
      · exact ⟨⟨g, (i + 1) * 2, none⟩, by simp [h], r2, rfl⟩
    have R1 := Lib.hid r1
    have hic : i ≤ cap := by omega
    have hwr : IntKind.i64.wrap ((i : Int) + 1) = (i : Int) + 1 := by rw [IntKind.wrap_i64]; omega
    have hp0 : (0 : Int) ≤ (i : Int) + 1 := by omega
    have hp1 : (i : Int) + 1 ≤ (R.length : Int) := by omega
    have hp2 : ((i : Int) + 1).toNat = i + 1 := by omega
    clear hi r1 r2
    go_region_law (first
      | (refine step_appS _ 2 16 _ 54 rfl (.tmp 14) (.tmp 20) 27 rfl W0.heap.size Try.underlying27 info_rm rfl (by decide) (some ⟨W0.heap.size, 0, none⟩) (some ⟨g, 0, none⟩) 0 0 i cap [] (rm (R.take i)) (by simp [Act.eval, Act.put]) (by simp [Act.eval, Act.put]) (own_empty (KB.new W0 _ _) (Nat.le_refl _)) (R1.out.below ((Below.refl W0.heap.size W0).alloc (Nat.le_refl _) _).drew (fun a e _ => by cases e; show g < W0.heap.size; omega)) (rm_one _) (by unfold maxLen; omega) (by omega) (by simp) ?_; intro A1 d1 w1 o1 _ b1; simp only [Nat.zero_add, List.nil_append] at o1; have b1' : Below W0.heap.size W0 w1 := ((Below.refl W0.heap.size W0).alloc (Nat.le_refl _) (.cells #[] 54)).drew.trans b1; have k1 := hW.below b1' hK0; have z1 := k1.cell 0; have f1 := k1.frozen 0; simp at z1; have B1 := Lib.hid b1'; have O1 := Lib.hid o1; clear b1 o1 b1')
      | (refine step_appS _ 2 16 _ 54 rfl (.tmp 21) (.tmp 28) 27 rfl W0.heap.size Try.underlying27 info_rm rfl (by decide) A1 (some A) i d1 (R.length - (i + 1)) (cap - (i + 1)) (rm (R.take i)) (rm (R.drop (i + 1))) (by simp [Act.eval, Act.put]) (by simp [Act.eval, Act.put]) O1.out (hA2.out.below B1.out (fun a e _ => by cases e; omega)) (rm_one _) (by unfold maxLen; omega) (by omega) (by have := B1.out.size; first | omega | (simp; omega)) ?_; intro A2 d2 w2 o2 _ b2; have k2 := k1.below b2 hK0; have z2 := k2.cell 0; have f2 := k2.frozen 0; simp at z2; have B2 := Lib.hid (B1.out.trans b2); have O2 := Lib.hid o2; clear b2 o2))
    all_goals
      have hq2 := kq.lt
      have kq2 := (kq.below B2.out hq2).far (p := ⟨K, 0, none⟩) (by show w.heap.size + 1 ≠ K; omega) (.slice A2 (i + (R.length - (i + 1))) d2)
      have kz2 := (kz.below B2.out kz.lt).far (p := ⟨K, 0, none⟩) (by show w.heap.size ≠ K; omega) (.slice A2 (i + (R.length - (i + 1))) d2)
      have k3 := k2.set 0 (.slice A2 (i + (R.length - (i + 1))) d2)
      have t3 : Turns (fun b => b = K) w (w2.setCell ⟨K, 0, none⟩ (.slice A2 (i + (R.length - (i + 1))) d2)) := (Turns.of_below (F := fun b => b = K) (hbW.trans (B2.out.mono hs0))).trans (Turns.setCell (F := fun b => b = K) _ _ _ rfl) (fun _ => .inl)
      have o3 := own_far O2.out (p := ⟨K, 0, none⟩) (by show K < W0.heap.size; omega) (.slice A2 (i + (R.length - (i + 1))) d2)
      generalize (w2.setCell ⟨K, 0, none⟩ (.slice A2 (i + (R.length - (i + 1))) d2)) = w3 at kq2 kz2 k3 t3 o3 ⊢
      have y0 := kq2.cell 0
      have y1 := kq2.cell 1
      have x0 := kz2.cell 0
      have x1 := kz2.cell 1
      have g0 := kz2.frozen 0
      have g1 := kz2.frozen 1
      simp at y0 y1 x0 x1 k3
      clear z2 f2 c0 c0a hA hA2 R1 O2 B2 k2 kz kq hW rW hk hrow
      go_wp2
      have kf := (kz2.set 0 (.int .i64 q.1)).set 1 (.int .i64 q.2)
      have v0 := kf.cell 0
      have v1 := kf.cell 1
      simp at v0 v1
      have hKz : K ≠ w.heap.size := by omega
      refine bodyPost_ret (v := .agg #[.int .i64 q.1, .int .i64 q.2]) (by simp [results, Try.results37, go_sem, v0, v1]) rfl ?_
      refine ⟨rfl, ⟨_, ((k3.far (p := ⟨w.heap.size, 0, none⟩) hKz _).far (p := ⟨w.heap.size, 1, none⟩) hKz _), ?_⟩, ?_⟩
      · rw [show (R.take i ++ R.drop (i + 1)).length = i + (R.length - (i + 1)) by simp; omega, show rm (R.take i ++ R.drop (i + 1)) = rm (R.take i) ++ rm (R.drop (i + 1)) from rm_append _ _]
        exact World.ownsRow.mono (own_far (own_far o3 (p := ⟨w.heap.size, 0, none⟩) (by show w.heap.size < W0.heap.size; omega) _) (p := ⟨w.heap.size, 1, none⟩) (by show w.heap.size < W0.heap.size; omega) _) (by omega)
      · exact (t3.trans (Turns.setCell (F := fun b => b = w.heap.size) _ ⟨w.heap.size, 0, none⟩ _ rfl) (fun b e => .inr (by omega))).trans (Turns.setCell (F := fun b => b = w.heap.size) _ ⟨w.heap.size, 1, none⟩ _ rfl) (fun b e => .inr (by omega))
end Go.Proofs.Ytlpaaehpcmnopaa
