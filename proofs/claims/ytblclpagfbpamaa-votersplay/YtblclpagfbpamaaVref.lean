/-
  The reference's voters: a struct of thresholds and a row of voters; what its calls do. The conditions stand in each theorem.
-/
import Derived.Test.YtblclpagfbpamaaVsome
import Derived.Handy
import Derived.Lib.Hide
import Derived.BigRegion
import Derived.Deep.RegionLaw
import Derived.RangeFuncBox
import Derived.Deep.Onto
namespace Go.Proofs.Ytblclpagfbpamaa
open Go.RowKit
set_option linter.unusedVariables false

/-- The cells of a row of voters. -/
def vrc (R : List Vt) : List Value := R.flatMap fun x => [.int .i64 x.id, .int .u64 (x.st : Nat), .int .i64 (x.bag : Nat)]
theorem vrc_len (R : List Vt) : (vrc R).length = R.length * 3 := by
  induction R with
  | nil => rfl
  | cons x xs ih => simp [vrc] at ih ⊢; omega
theorem vrc_append (R Q : List Vt) : vrc (R ++ Q) = vrc R ++ vrc Q := by simp [vrc]
theorem vrc_take : ∀ (R : List Vt) (k : Nat), (vrc R).take (k * 3) = vrc (R.take k)
  | R, 0 => by simp [vrc]
  | [], k + 1 => by simp [vrc]
  | x :: xs, k + 1 => by
    have := vrc_take xs k
    rw [show (k + 1) * 3 = k * 3 + 1 + 1 + 1 by omega]
    simp only [vrc, List.flatMap_cons, List.cons_append, List.nil_append, List.take_succ_cons] at this ⊢
    rw [this]
theorem vrc_drop : ∀ (R : List Vt) (k : Nat), (vrc R).drop (k * 3) = vrc (R.drop k)
  | R, 0 => by simp
  | [], k + 1 => by simp [vrc]
  | x :: xs, k + 1 => by
    have := vrc_drop xs k
    rw [show (k + 1) * 3 = k * 3 + 1 + 1 + 1 by omega]
    simp only [vrc, List.flatMap_cons, List.cons_append, List.nil_append, List.drop_succ_cons] at this ⊢
    rw [this]
theorem vrc_get : ∀ (R : List Vt) (k : Nat) (x : Vt), R[k]? = some x → (vrc R)[k * 3]? = some (.int .i64 x.id) ∧ (vrc R)[k * 3 + 1]? = some (.int .u64 (x.st : Nat)) ∧ (vrc R)[k * 3 + 2]? = some (.int .i64 (x.bag : Nat))
  | [], k, x, h => by simp at h
  | y :: ys, 0, x, h => by simp at h; subst h; simp [vrc]
  | y :: ys, k + 1, x, h => by
    have := vrc_get ys k x (by simpa using h)
    rw [show (k + 1) * 3 = k * 3 + 1 + 1 + 1 by omega]
    simpa [vrc] using this
theorem vrc_one (R : List Vt) : ∀ u ∈ vrc R, u.oneCell' = true := by
  intro u hu
  simp only [vrc, List.mem_flatMap] at hu
  obtain ⟨x, _, hx⟩ := hu
  simp at hx
  rcases hx with rfl | rfl | rfl <;> rfl

/-- The reference's voters at block K: what lies in its first field, its row. -/
def RV (base K : Nat) (w : World) (R : List Vt) (tv : Value) : Prop :=
  ∃ v, KB w K 33 #[tv, v] ∧ w.ownsRow base 47 3 v R.length (vrc R)

/-- The place of a handle, or -1. -/
def ixV (h : Int) : List Vt → Int
  | [] => -1
  | x :: xs => if x.id = h then 0 else if ixV h xs < 0 then -1 else ixV h xs + 1
theorem ixV_no {h : Int} : ∀ {R : List Vt}, (∀ x ∈ R, x.id ≠ h) → ixV h R = -1
  | [], _ => rfl
  | x :: xs, hx => by rw [ixV, if_neg (hx x (by simp)), ixV_no (fun y hy => hx y (by simp [hy]))]; rfl
theorem ixV_mid {h : Int} {y : Vt} {ys : List Vt} : ∀ {xs : List Vt}, (∀ x ∈ xs, x.id ≠ h) → y.id = h → ixV h (xs ++ y :: ys) = xs.length
  | [], _, hy => by simp [ixV, hy]
  | x :: xs, hx, hy => by
    rw [List.cons_append, ixV, if_neg (hx x (by simp)), ixV_mid (fun z hz => hx z (by simp [hz])) hy]
    rw [if_neg (by omega)]; simp

/-- What a call has made of the reference's voters: only their own block, and new ones, have turned. -/
def RvTo (base K : Nat) (w w' : World) (R : List Vt) (tv : Value) : Prop := RV base K w' R tv ∧ Turns (fun b => b = K) w w'
set_option maxHeartbeats 800000 in
/-- Find. -/
theorem rvfind_any (base K : Nat) (h : Int) (R : List Vt) (tv : Value) (w : World) (hc : RV base K w R tv) (hn : R.length ≤ 1000000) :
    Calls Try.prog 22 #[.pointer (some ⟨K, 0, none⟩), .int .i64 h] w fun e w' => e = .returned (.int .i64 (ixV h R)) ∧ w = w' := by
  obtain ⟨v, hk, hrow⟩ := hc
  have c0 := hk.cell 1
  simp at c0
  rcases own_forms hrow with ⟨rfl, hl, hr⟩ | ⟨g, cap, rfl, _, hcap, _, _, cur, hg, hcs, hct⟩
  · obtain rfl : R = [] := List.eq_nil_of_length_eq_zero hl
    clear hrow hk
    go_enter Try.func22, Try.ntmps22
    go_wp2_with fail
    go_loopw [11] (fun tv wr => tv = .int .i64 0 ∧ wr = w) (fun tv _ => 0)
    case atStart => exact ⟨rfl, rfl⟩
    case round =>
      obtain ⟨rfl, rfl⟩ := hrel
      go_wp2
      go_ret
      exact ⟨rfl, rfl⟩
  · have hcell : ∀ i x, R[i]? = some x → w.cell? ⟨g, i * 3, none⟩ = some (.int .i64 x.id) := fun i x hx => by
      have h1 := (vrc_get R i x hx).1
      have h2 := hrow.cellAt (i * 3) (by have := (List.getElem?_eq_some_iff.1 hx).1; omega)
      rw [h2, h1]
    have HC := Lib.hid hcell
    clear hrow hk hg hcs hct hcell
    go_enter Try.func22, Try.ntmps22
    go_wp2_with fail
    go_loopw [11] (fun tv wr => ∃ xs ys, R = xs ++ ys ∧ tv = .int .i64 (xs.length : Nat) ∧ (∀ x ∈ xs, x.id ≠ h) ∧ wr = w) (fun tv _ => R.length - (intOf tv).toNat)
    case atStart => exact ⟨[], R, rfl, rfl, by simp, rfl⟩
    case round =>
      obtain ⟨xs, ys, hR, rfl, hx, rfl⟩ := hrel
      have hlR : R.length = xs.length + ys.length := by rw [hR]; simp
      cases ys with
      | nil =>
        have ht : decide (xs.length < R.length) = false := by simp; simp at hlR; omega
        have HR := Lib.hid hR
        have HX := Lib.hid hx
        simp at hlR
        clear hR hx
        go_wp2
        all_goals first
          | (exfalso; omega)
          | (go_ret; refine ⟨?_, rfl⟩; rw [HR.out, List.append_nil, ixV_no HX.out]; rfl)
      | cons y ys =>
        simp only [List.length_cons] at hlR
        have hlt : xs.length < R.length := by omega
        have hlc : xs.length < cap := by omega
        have k1 := HC.out xs.length y (by rw [hR]; simp)
        by_cases he : y.id = h
        · have HR := Lib.hid hR
          have HX := Lib.hid hx
          have HE := Lib.hid he
          have hq : (y.id == h) = true := by simp [he]
          clear hR hx he
          go_wp2
          go_ret
          refine ⟨?_, rfl⟩
          rw [HR.out, ixV_mid HX.out HE.out]; rfl
        · have HR := Lib.hid hR
          have HX := Lib.hid hx
          have HE := Lib.hid he
          have hq : (y.id == h) = false := by simp [he]
          clear hR hx he
          go_wp2
          go_roundw
          case rel => exact ⟨xs ++ [y], ys, by rw [HR.out]; simp, by simp, fun z hz => (List.mem_append.1 hz).elim (HX.out z) (fun h1 => by rw [List.mem_singleton.1 h1]; exact HE.out), by first | rfl | trivial⟩
          case measure => simp [intOf]; omega

theorem rv_ne {base K g cap n : Nat} {w : World} {v : Value} {tv : Value} {cs : List Value} (hk : KB w K 33 #[tv, v]) (hrow : w.ownsRow base 47 3 (.slice (some ⟨g, 0, none⟩) n cap) n cs) : g ≠ K := by
  rintro rfl
  rcases own_forms hrow with ⟨h, _, _⟩ | ⟨g', cap', h, _, _, _, _, cur, hg, _, _⟩
  · cases h
  · cases h
    unfold KB at hk
    rw [hk] at hg
    injection hg with hg
    injection hg with _ ht
    exact absurd ht (by decide)

set_option maxHeartbeats 1600000 in
/-- put. -/
theorem rvput_any (base K i : Nat) (p : Vt) (R : List Vt) (tv : Value) (w : World) (hc : RV base K w R tv) (hi : i ≤ R.length) (hn : R.length ≤ 1000000) (hb : base ≤ w.heap.size) :
    Calls Try.prog 38 #[.pointer (some ⟨K, 0, none⟩), .int .i64 i, .agg #[.int .i64 p.id, .int .u64 (p.st : Nat), .int .i64 (p.bag : Nat)]] w fun e w' => e = .returned (.tuple #[]) ∧ RvTo base K w w' (R.take i ++ p :: R.drop i) tv := by
  obtain ⟨v, hk, hrow⟩ := hc
  have hkA := hk.alloc (.cells #[.int .i64 p.id, .int .u64 (p.st : Nat), .int .i64 (p.bag : Nat)] 47)
  have hrA := hrow.alloc (.cells #[.int .i64 p.id, .int .u64 (p.st : Nat), .int .i64 (p.bag : Nat)] 47)
  have hpA := KB.new w 47 #[.int .i64 p.id, .int .u64 (p.st : Nat), .int .i64 (p.bag : Nat)]
  have bA : Below w.heap.size w (w.alloc (.cells #[.int .i64 p.id, .int .u64 (p.st : Nat), .int .i64 (p.bag : Nat)] 47)) := (Below.refl _ w).alloc (Nat.le_refl _) _
  have c0 := hkA.cell 1
  simp at c0
  have hKlt := hk.lt
  rcases own_forms hrow with ⟨rfl, hl, hr⟩ | ⟨g, cap, rfl, _, hcap, hmax, hglt, _⟩
  · obtain rfl : R = [] := List.eq_nil_of_length_eq_zero hl
    obtain rfl : i = 0 := by simpa using hi
    clear hk hrow
    go_enter Try.func38, Try.ntmps38
    go_wp2_with (at_builtin; first
      | (refine wpList_appS _ 3 24 _ 47 rfl (.tmp 7) (.tmp 13) 31 rfl (w.heap.size + 1) Try.underlying31 rvInfo rfl (by decide) none none 0 0 0 0 [] (vrc (List.take 0 [])) rfl rfl (World.ownsRow_nil _ _ _ _) (Sr.nil _ _) (vrc_one _) (by unfold maxLen; omega) (by omega) (by first | omega | (simp; omega) | simp) ?_; intro A1 d1 w1 o1 _ b1; simp only [Nat.zero_add, List.nil_append] at o1; have k1 := hkA.below b1 (by omega); have r1 := own_below hrA b1 (fun g' e => by cases e); have p1 := hpA.below b1 (by omega); have p10 := p1.cell 0; have p11 := p1.cell 1; have p12 := p1.cell 2; simp at p10 p11 p12; have s1 := b1.size; simp at s1; have e1 := (k1.alloc (.cells #[.int .i64 p.id, .int .u64 (p.st : Nat), .int .i64 (p.bag : Nat)] 47)).cell 1; simp at e1)
      | (refine wpList_appS _ 3 24 _ 47 rfl (.tmp 15) (.tmp 17) 31 rfl (w.heap.size + 1) Try.underlying31 rvInfo rfl (by decide) A1 (some ⟨w1.heap.size, 0, none⟩) 0 d1 1 1 (vrc (List.take 0 [])) [.int .i64 p.id, .int .u64 (p.st : Nat), .int .i64 (p.bag : Nat)] rfl rfl (o1.alloc _) (Sr.new w1 _ _ rfl) (vrc_one [p]) (by unfold maxLen; omega) (by omega) (by first | omega | (simp; omega) | simp) ?_; intro A2 d2 w2 o2 _ b2; have k2 := (k1.alloc _).below b2 (by omega); have r2 := own_below (r1.alloc _) b2 (fun g' e => by cases e); have s2 := b2.size; simp at s2; have e2 := k2.cell 1; simp at e2; clear p10 p11 p12 e1)
      | (refine wpList_appS _ 3 24 _ 47 rfl (.tmp 20) (.tmp 26) 31 rfl (w.heap.size + 1) Try.underlying31 rvInfo rfl (by decide) A2 none (0 + 1) d2 0 0 (vrc (List.take 0 []) ++ [.int .i64 p.id, .int .u64 (p.st : Nat), .int .i64 (p.bag : Nat)]) (vrc (List.drop 0 [])) rfl rfl o2 (Sr.nil _ _) (vrc_one _) (by unfold maxLen; omega) (by omega) (by first | omega | (simp; omega) | simp) ?_; intro A3 d3 w3 o3 _ b3; have k3 := k2.below b3 (by omega); have e3 := k3.cell 1; have f3 := k3.frozen 1; simp at e3; clear e2))
    go_end0
    have hB : Below w.heap.size w w3 := ((((bA.trans (b1.mono (by omega))).alloc (by omega) _).trans (b2.mono (by omega))).trans (b3.mono (by omega)))
    refine ⟨rfl, ⟨_, by simpa using k3.set 1 _, ?_⟩, (Turns.of_below (F := fun b => b = K) hB).trans (Turns.setCell (F := fun b => b = K) _ _ _ rfl) (fun _ => .inl)⟩
    exact (World.ownsRow.mono o3 (by omega)).kept (grownBy_setC w3 ⟨K, 1, none⟩ _) (.inr (fun e => by have := (o3.lt K e).1; omega))
  · have pt : ∀ (W : World), W.ownsRow base 47 3 (.slice (some ⟨g, 0, none⟩) R.length cap) R.length (vrc R) → Sr 3 W (some ⟨g, 0, none⟩) i cap (vrc (R.take i)) ∧ Sr 3 W (some ⟨g, i * 3, none⟩) (R.length - i) (cap - i) (vrc (R.drop i)) := by
      intro W hr
      have h1 := own_part hr 0 i (by omega)
      have h2 := own_part hr i (R.length - i) (by omega)
      simp only [Nat.zero_mul, List.drop_zero, Nat.sub_zero] at h1
      rw [vrc_take] at h1
      rw [vrc_drop, List.take_of_length_le (by rw [vrc_len]; simp)] at h2
      exact ⟨h1, h2⟩
    clear hk hrow
    by_cases hic : i < cap
    · have HP := Lib.hid pt
      clear pt
      go_enter Try.func38, Try.ntmps38
      go_wp2_with (at_builtin; first
        | (refine wpList_appS _ 3 24 _ 47 rfl (.tmp 7) (.tmp 13) 31 rfl (w.heap.size + 1) Try.underlying31 rvInfo rfl (by decide) none (some ⟨g, 0, none⟩) 0 0 i cap [] (vrc (R.take i)) rfl rfl (World.ownsRow_nil _ _ _ _) (HP.out _ hrA).1 (vrc_one _) (by unfold maxLen; omega) (by omega) (by first | omega | (simp; omega) | simp) ?_; intro A1 d1 w1 o1 _ b1; simp only [Nat.zero_add, List.nil_append] at o1; have k1 := hkA.below b1 (by omega); have r1 := own_below hrA b1 (fun g' e => by injection e with e; change g = g' at e; omega); have p1 := hpA.below b1 (by omega); have p10 := p1.cell 0; have p11 := p1.cell 1; have p12 := p1.cell 2; simp at p10 p11 p12; have s1 := b1.size; simp at s1; have e1 := (k1.alloc (.cells #[.int .i64 p.id, .int .u64 (p.st : Nat), .int .i64 (p.bag : Nat)] 47)).cell 1; simp at e1)
        | (refine wpList_appS _ 3 24 _ 47 rfl (.tmp 15) (.tmp 17) 31 rfl (w.heap.size + 1) Try.underlying31 rvInfo rfl (by decide) A1 (some ⟨w1.heap.size, 0, none⟩) i d1 1 1 (vrc (R.take i)) [.int .i64 p.id, .int .u64 (p.st : Nat), .int .i64 (p.bag : Nat)] rfl rfl (o1.alloc _) (Sr.new w1 _ _ rfl) (vrc_one [p]) (by unfold maxLen; omega) (by omega) (by first | omega | (simp; omega) | simp) ?_; intro A2 d2 w2 o2 _ b2; have k2 := (k1.alloc _).below b2 (by omega); have r2 := own_below (r1.alloc _) b2 (fun g' e => by injection e with e; change g = g' at e; omega); have s2 := b2.size; simp at s2; have e2 := k2.cell 1; simp at e2; clear p10 p11 p12 e1)
        | (refine wpList_appS _ 3 24 _ 47 rfl (.tmp 20) (.tmp 26) 31 rfl (w.heap.size + 1) Try.underlying31 rvInfo rfl (by decide) A2 (some ⟨g, i * 3, none⟩) (i + 1) d2 (R.length - i) (cap - i) (vrc (R.take i) ++ [.int .i64 p.id, .int .u64 (p.st : Nat), .int .i64 (p.bag : Nat)]) (vrc (R.drop i)) rfl rfl o2 (HP.out _ r2).2 (vrc_one _) (by unfold maxLen; omega) (by omega) (by first | omega | (simp; omega) | simp) ?_; intro A3 d3 w3 o3 _ b3; have k3 := k2.below b3 (by omega); have e3 := k3.cell 1; have f3 := k3.frozen 1; simp at e3; clear e2))
      go_end0
      have hB : Below w.heap.size w w3 := ((((bA.trans (b1.mono (by omega))).alloc (by omega) _).trans (b2.mono (by omega))).trans (b3.mono (by omega)))
      refine ⟨rfl, ⟨_, by simpa using k3.set 1 _, ?_⟩, (Turns.of_below (F := fun b => b = K) hB).trans (Turns.setCell (F := fun b => b = K) _ _ _ rfl) (fun _ => .inl)⟩
      rw [show (R.take i ++ p :: R.drop i).length = i + 1 + (R.length - i) by simp; try omega, show vrc (R.take i ++ p :: R.drop i) = vrc (R.take i) ++ [.int .i64 p.id, .int .u64 (p.st : Nat), .int .i64 (p.bag : Nat)] ++ vrc (R.drop i) by simp [vrc]]
      exact (World.ownsRow.mono o3 (by omega)).kept (grownBy_setC w3 ⟨K, 1, none⟩ _) (.inr (fun e => by have := (o3.lt K e).1; omega))
    · obtain rfl : cap = i := by omega
      have pt2 : ∀ (W : World), W.ownsRow base 47 3 (.slice (some ⟨g, 0, none⟩) R.length cap) R.length (vrc R) → Sr 3 W (some ⟨g, 0, none⟩) cap cap (vrc (R.take cap)) ∧ Sr 3 W (some ⟨g, 0, none⟩) 0 0 (vrc (R.drop cap)) := by
        intro W hr
        refine ⟨(pt W hr).1, ?_⟩
        rw [List.drop_eq_nil_of_le (by omega)]
        exact ⟨rfl, Nat.le_refl _, Nat.zero_le _, fun _ => ⟨rfl, rfl⟩, fun a e j u hu => by simp [vrc] at hu⟩
      have HP := Lib.hid pt2
      clear pt pt2
      go_enter Try.func38, Try.ntmps38
      go_wp2_with (at_builtin; first
        | (refine wpList_appS _ 3 24 _ 47 rfl (.tmp 7) (.tmp 13) 31 rfl (w.heap.size + 1) Try.underlying31 rvInfo rfl (by decide) none (some ⟨g, 0, none⟩) 0 0 cap cap [] (vrc (R.take cap)) rfl rfl (World.ownsRow_nil _ _ _ _) (HP.out _ hrA).1 (vrc_one _) (by unfold maxLen; omega) (by omega) (by first | omega | (simp; omega) | simp) ?_; intro A1 d1 w1 o1 _ b1; simp only [Nat.zero_add, List.nil_append] at o1; have k1 := hkA.below b1 (by omega); have r1 := own_below hrA b1 (fun g' e => by injection e with e; change g = g' at e; omega); have p1 := hpA.below b1 (by omega); have p10 := p1.cell 0; have p11 := p1.cell 1; have p12 := p1.cell 2; simp at p10 p11 p12; have s1 := b1.size; simp at s1; have e1 := (k1.alloc (.cells #[.int .i64 p.id, .int .u64 (p.st : Nat), .int .i64 (p.bag : Nat)] 47)).cell 1; simp at e1)
        | (refine wpList_appS _ 3 24 _ 47 rfl (.tmp 15) (.tmp 17) 31 rfl (w.heap.size + 1) Try.underlying31 rvInfo rfl (by decide) A1 (some ⟨w1.heap.size, 0, none⟩) cap d1 1 1 (vrc (R.take cap)) [.int .i64 p.id, .int .u64 (p.st : Nat), .int .i64 (p.bag : Nat)] rfl rfl (o1.alloc _) (Sr.new w1 _ _ rfl) (vrc_one [p]) (by unfold maxLen; omega) (by omega) (by first | omega | (simp; omega) | simp) ?_; intro A2 d2 w2 o2 _ b2; have k2 := (k1.alloc _).below b2 (by omega); have r2 := own_below (r1.alloc _) b2 (fun g' e => by injection e with e; change g = g' at e; omega); have s2 := b2.size; simp at s2; have e2 := k2.cell 1; simp at e2; clear p10 p11 p12 e1)
        | (refine wpList_appS _ 3 24 _ 47 rfl (.tmp 20) (.tmp 26) 31 rfl (w.heap.size + 1) Try.underlying31 rvInfo rfl (by decide) A2 (some ⟨g, 0, none⟩) (cap + 1) d2 0 0 (vrc (R.take cap) ++ [.int .i64 p.id, .int .u64 (p.st : Nat), .int .i64 (p.bag : Nat)]) (vrc (R.drop cap)) rfl rfl o2 (HP.out _ r2).2 (vrc_one _) (by unfold maxLen; omega) (by omega) (by first | omega | (simp; omega) | simp) ?_; intro A3 d3 w3 o3 _ b3; have k3 := k2.below b3 (by omega); have e3 := k3.cell 1; have f3 := k3.frozen 1; simp at e3; clear e2))
      go_end0
      have hB : Below w.heap.size w w3 := ((((bA.trans (b1.mono (by omega))).alloc (by omega) _).trans (b2.mono (by omega))).trans (b3.mono (by omega)))
      refine ⟨rfl, ⟨_, by simpa using k3.set 1 _, ?_⟩, (Turns.of_below (F := fun b => b = K) hB).trans (Turns.setCell (F := fun b => b = K) _ _ _ rfl) (fun _ => .inl)⟩
      rw [show (R.take cap ++ p :: R.drop cap).length = cap + 1 + 0 by simp; try omega, show vrc (R.take cap ++ p :: R.drop cap) = vrc (R.take cap) ++ [.int .i64 p.id, .int .u64 (p.st : Nat), .int .i64 (p.bag : Nat)] ++ vrc (R.drop cap) by simp [vrc]]
      exact (World.ownsRow.mono o3 (by omega)).kept (grownBy_setC w3 ⟨K, 1, none⟩ _) (.inr (fun e => by have := (o3.lt K e).1; omega))

set_option maxHeartbeats 1600000 in
/-- cut. -/
theorem rvcut_any (base K i : Nat) (q : Vt) (R : List Vt) (tv : Value) (w : World) (hc : RV base K w R tv) (hi : R[i]? = some q) (hn : R.length ≤ 1000000) (hb : base ≤ w.heap.size) :
    Calls Try.prog 37 #[.pointer (some ⟨K, 0, none⟩), .int .i64 i] w fun e w' => e = .returned (.agg #[.int .i64 q.id, .int .u64 (q.st : Nat), .int .i64 (q.bag : Nat)]) ∧ RvTo base K w w' (R.take i ++ R.drop (i + 1)) tv := by
  obtain ⟨v, hk, hrow⟩ := hc
  have hiR : i < R.length := (List.getElem?_eq_some_iff.1 hi).1
  have hKlt := hk.lt
  have c0 := hk.cell 1
  simp at c0
  rcases own_forms hrow with ⟨rfl, hl, hr⟩ | ⟨g, cap, rfl, _, hcap, hmax, hglt, _⟩
  · omega
  · have q0 := (vrc_get R i q hi).1
    have q1 := (vrc_get R i q hi).2.1
    have e0 := hrow.cellAt (i * 3) (by omega)
    have e1 := hrow.cellAt (i * 3 + 1) (by omega)
    have q2 := (vrc_get R i q hi).2.2
    have e2 := hrow.cellAt (i * 3 + 2) (by omega)
    rw [q2] at e2
    clear q2
    rw [q0] at e0
    rw [q1] at e1
    clear q0 q1
    go_enter Try.func37, Try.ntmps37
    go_wp2_with fail
    have hbW : Below w.heap.size w ((w.alloc (.cells #[.int .i64 0, .int .u64 0, .int .i64 0] 47)).alloc (.cells #[.int .i64 q.id, .int .u64 (q.st : Nat), .int .i64 (q.bag : Nat)] 47)) := ((Below.refl _ w).alloc (Nat.le_refl _) _).alloc (by simp) _
    have kz := (KB.new w 47 #[.int .i64 0, .int .u64 0, .int .i64 0]).alloc (.cells #[.int .i64 q.id, .int .u64 (q.st : Nat), .int .i64 (q.bag : Nat)] 47)
    have kq := KB.new (w.alloc (.cells #[.int .i64 0, .int .u64 0, .int .i64 0] 47)) 47 #[.int .i64 q.id, .int .u64 (q.st : Nat), .int .i64 (q.bag : Nat)]
    simp only [World.size_alloc] at kq
    have hW := hk.below hbW hKlt
    have rW := own_below hrow hbW (fun g' e => by injection e with e; change g = g' at e; omega)
    generalize ((w.alloc (.cells #[.int .i64 0, .int .u64 0, .int .i64 0] 47)).alloc (.cells #[.int .i64 q.id, .int .u64 (q.st : Nat), .int .i64 (q.bag : Nat)] 47)) = W0 at hbW kz kq hW rW ⊢
    clear c0 e0 e1 e2
    have hK0 := hW.lt
    have hs0 := hbW.size
    have c0 := hW.cell 1
    have c0a := (hW.alloc (.cells #[] 47)).cell 1
    simp at c0 c0a
    have r1 := own_part rW 0 i (by omega)
    have r2 := own_part rW (i + 1) (R.length - (i + 1)) (by omega)
    simp only [Nat.zero_mul, List.drop_zero, Nat.sub_zero] at r1
    rw [vrc_take] at r1
    rw [vrc_drop, List.take_of_length_le (by rw [vrc_len]; simp)] at r2
    obtain ⟨A, hA, hA2, hAg⟩ : ∃ A : Addr, (if cap = i + 1 then some (⟨g, 0, none⟩ : Addr) else some ⟨g, (i + 1) * 3, none⟩) = some A ∧ Hid (Sr 3 W0 (some A) (R.length - (i + 1)) (cap - (i + 1)) (vrc (R.drop (i + 1)))) ∧ A.block = g := by
      by_cases h : cap = i + 1
      · refine ⟨⟨g, 0, none⟩, by simp [h], ?_, rfl⟩
        show Sr 3 W0 (some ⟨g, 0, none⟩) (R.length - (i + 1)) (cap - (i + 1)) (vrc (R.drop (i + 1)))
        have h0 : R.length - (i + 1) = 0 := by omega
        rw [h0, List.drop_eq_nil_of_le (by omega)]
        exact ⟨rfl, Nat.zero_le _, by unfold maxLen at hmax ⊢; omega, (fun e => by cases e), fun a e j u hu => by simp [vrc] at hu⟩
      · exact ⟨⟨g, (i + 1) * 3, none⟩, by simp [h], r2, rfl⟩
    have R1 := Lib.hid r1
    have hic : i ≤ cap := by omega
    have hwr : IntKind.i64.wrap ((i : Int) + 1) = (i : Int) + 1 := by rw [IntKind.wrap_i64]; omega
    have hp0 : (0 : Int) ≤ (i : Int) + 1 := by omega
    have hp1 : (i : Int) + 1 ≤ (R.length : Int) := by omega
    have hp2 : ((i : Int) + 1).toNat = i + 1 := by omega
    clear hi r1 r2
    go_region_law (first
      | (refine step_appS _ 3 24 _ 47 rfl (.tmp 14) (.tmp 20) 31 rfl W0.heap.size Try.underlying31 rvInfo rfl (by decide) (some ⟨W0.heap.size, 0, none⟩) (some ⟨g, 0, none⟩) 0 0 i cap [] (vrc (R.take i)) (by simp [Act.eval, Act.put]) (by simp [Act.eval, Act.put]) (own_empty (KB.new W0 _ _) (Nat.le_refl _)) (R1.out.below ((Below.refl W0.heap.size W0).alloc (Nat.le_refl _) _).drew (fun a e _ => by cases e; show g < W0.heap.size; omega)) (vrc_one _) (by unfold maxLen; omega) (by omega) (by simp) ?_; intro A1 d1 w1 o1 _ b1; simp only [Nat.zero_add, List.nil_append] at o1; have b1' : Below W0.heap.size W0 w1 := ((Below.refl W0.heap.size W0).alloc (Nat.le_refl _) (.cells #[] 47)).drew.trans b1; have k1 := hW.below b1' hK0; have z1 := k1.cell 1; have f1 := k1.frozen 1; simp at z1; have B1 := Lib.hid b1'; have O1 := Lib.hid o1; clear b1 o1 b1')
      | (refine step_appS _ 3 24 _ 47 rfl (.tmp 21) (.tmp 28) 31 rfl W0.heap.size Try.underlying31 rvInfo rfl (by decide) A1 (some A) i d1 (R.length - (i + 1)) (cap - (i + 1)) (vrc (R.take i)) (vrc (R.drop (i + 1))) (by simp [Act.eval, Act.put]) (by simp [Act.eval, Act.put]) O1.out (hA2.out.below B1.out (fun a e _ => by cases e; omega)) (vrc_one _) (by unfold maxLen; omega) (by omega) (by have := B1.out.size; first | omega | (simp; omega)) ?_; intro A2 d2 w2 o2 _ b2; have k2 := k1.below b2 hK0; have z2 := k2.cell 1; have f2 := k2.frozen 1; simp at z2; have B2 := Lib.hid (B1.out.trans b2); have O2 := Lib.hid o2; clear b2 o2))
    all_goals
      have hq2 := kq.lt
      have kq2 := (kq.below B2.out hq2).far (p := ⟨K, 1, none⟩) (by show w.heap.size + 1 ≠ K; omega) (.slice A2 (i + (R.length - (i + 1))) d2)
      have kz2 := (kz.below B2.out kz.lt).far (p := ⟨K, 1, none⟩) (by show w.heap.size ≠ K; omega) (.slice A2 (i + (R.length - (i + 1))) d2)
      have k3 := k2.set 1 (.slice A2 (i + (R.length - (i + 1))) d2)
      have t3 : Turns (fun b => b = K) w (w2.setCell ⟨K, 1, none⟩ (.slice A2 (i + (R.length - (i + 1))) d2)) := (Turns.of_below (F := fun b => b = K) (hbW.trans (B2.out.mono hs0))).trans (Turns.setCell (F := fun b => b = K) _ _ _ rfl) (fun _ => .inl)
      have o3 := own_far O2.out (p := ⟨K, 1, none⟩) (by show K < W0.heap.size; omega) (.slice A2 (i + (R.length - (i + 1))) d2)
      generalize (w2.setCell ⟨K, 1, none⟩ (.slice A2 (i + (R.length - (i + 1))) d2)) = w3 at kq2 kz2 k3 t3 o3 ⊢
      have y0 := kq2.cell 0
      have y1 := kq2.cell 1
      have y2 := kq2.cell 2
      have x2 := kz2.cell 2
      have g2 := kz2.frozen 2
      have x0 := kz2.cell 0
      have x1 := kz2.cell 1
      have g0 := kz2.frozen 0
      have g1 := kz2.frozen 1
      simp at y0 y1 y2 x0 x1 x2 k3
      clear z2 f2 c0 c0a hA hA2 R1 O2 B2 k2 kz kq hW rW hk hrow
      go_wp2
      have kf := ((kz2.set 0 (.int .i64 q.id)).set 1 (.int .u64 (q.st : Nat))).set 2 (.int .i64 (q.bag : Nat))
      have v0 := kf.cell 0
      have v1 := kf.cell 1
      have v2 := kf.cell 2
      simp at v0 v1 v2
      have hKz : K ≠ w.heap.size := by omega
      refine bodyPost_ret (v := .agg #[.int .i64 q.id, .int .u64 (q.st : Nat), .int .i64 (q.bag : Nat)]) (by simp [results, Try.results37, go_sem, v0, v1, v2]) rfl ?_
      have hsz : w.heap.size < W0.heap.size := by omega
      have hK1 := ((k3.far (p := ⟨w.heap.size, 0, none⟩) hKz (.int .i64 q.id)).far (p := ⟨w.heap.size, 1, none⟩) hKz (.int .u64 (q.st : Nat))).far (p := ⟨w.heap.size, 2, none⟩) hKz (.int .i64 (q.bag : Nat))
      have hO1 := own_far (own_far (own_far o3 (p := ⟨w.heap.size, 0, none⟩) hsz (.int .i64 q.id)) (p := ⟨w.heap.size, 1, none⟩) hsz (.int .u64 (q.st : Nat))) (p := ⟨w.heap.size, 2, none⟩) hsz (.int .i64 (q.bag : Nat))
      have hT1 := ((t3.trans (Turns.setCell (F := fun b => b = w.heap.size) w3 ⟨w.heap.size, 0, none⟩ (.int .i64 q.id) rfl) (fun b e => .inr (by omega))).trans (Turns.setCell (F := fun b => b = w.heap.size) _ ⟨w.heap.size, 1, none⟩ (.int .u64 (q.st : Nat)) rfl) (fun b e => .inr (by omega))).trans (Turns.setCell (F := fun b => b = w.heap.size) _ ⟨w.heap.size, 2, none⟩ (.int .i64 (q.bag : Nat)) rfl) (fun b e => .inr (by omega))
      refine ⟨rfl, ⟨_, hK1, ?_⟩, hT1⟩
      rw [show (R.take i ++ R.drop (i + 1)).length = i + (R.length - (i + 1)) by simp; omega, show vrc (R.take i ++ R.drop (i + 1)) = vrc (R.take i) ++ vrc (R.drop (i + 1)) from vrc_append _ _]
      exact World.ownsRow.mono hO1 (by omega)
end Go.Proofs.Ytblclpagfbpamaa
