/-
  The reference's voters: what its calls last, Insert, Remove, Update, Rebag and Front do; the law's own Same. The conditions stand in each theorem.
-/
import Derived.Test.YtblclpagfbpamaaVref
import Derived.Deep.LoopGhost
import Derived.Deep.DeepCutAuto
import Derived.BigQuiet
import Derived.RegionTactic
namespace Go.Proofs.Ytblclpagfbpamaa
open Go.RowKit
set_option linter.unusedVariables false

theorem RV.below {base K : Nat} {w w' : World} {R : List Vt} {tv : Value} (h : RV base K w R tv) (hb : Below w.heap.size w w') : RV base K w' R tv := by
  obtain ⟨v, hk, ho⟩ := h
  exact ⟨v, hk.below hb hk.lt, own_below ho hb (fun g e => (ho.lt g e).2)⟩
theorem RV.lt {base K : Nat} {w : World} {R : List Vt} {tv : Value} (h : RV base K w R tv) : K < w.heap.size := by obtain ⟨v, hk, _⟩ := h; exact hk.lt
theorem RvTo.trans {base K : Nat} {w w1 w2 : World} {R R' : List Vt} {tv : Value} (h : RvTo base K w w1 R tv) (h' : RvTo base K w1 w2 R' tv) : RvTo base K w w2 R' tv := ⟨h'.1, h.2.trans h'.2 (fun _ => .inl)⟩
theorem RvTo.of_below {base K : Nat} {w w' : World} {R : List Vt} {tv : Value} (h : RV base K w R tv) (hb : Below w.heap.size w w') : RvTo base K w w' R tv := ⟨h.below hb, Turns.of_below hb⟩
/-- The row's slice, and its cells. -/
theorem RV.read {base K : Nat} {w : World} {R : List Vt} {tv : Value} (h : RV base K w R tv) : ∃ A c, w.cell? ⟨K, 0, none⟩ = some tv ∧ w.cell? ⟨K, 1, none⟩ = some (.slice A R.length c) ∧ R.length ≤ c ∧ c ≤ maxLen ∧
    ∀ i x, R[i]? = some x → ∃ g, A = some ⟨g, 0, none⟩ ∧ w.cell? ⟨g, i * 3, none⟩ = some (.int .i64 x.id) ∧ w.cell? ⟨g, i * 3 + 1, none⟩ = some (.int .u64 (x.st : Nat)) ∧ w.cell? ⟨g, i * 3 + 2, none⟩ = some (.int .i64 (x.bag : Nat)) := by
  obtain ⟨v, hk, ho⟩ := h
  have c0 := hk.cell 0
  have c1 := hk.cell 1
  simp at c0 c1
  rcases own_forms ho with ⟨rfl, hl, hr⟩ | ⟨g, cap, rfl, _, hcap, hmax, _⟩
  · refine ⟨none, 0, c0, by rw [hl]; exact c1, by omega, by unfold maxLen; omega, fun i x hx => ?_⟩
    have := (List.getElem?_eq_some_iff.1 hx).1
    omega
  · refine ⟨some ⟨g, 0, none⟩, cap, c0, c1, hcap, hmax, fun i x hx => ⟨g, rfl, ?_⟩⟩
    have hi := (List.getElem?_eq_some_iff.1 hx).1
    obtain ⟨h0, h1, h2⟩ := vrc_get R i x hx
    exact ⟨(ho.cellAt _ (by omega)).trans h0, (ho.cellAt _ (by omega)).trans h1, (ho.cellAt _ (by omega)).trans h2⟩
theorem tw_at {n : Nat} {R : List Vt} {i : Nat} (hi : i ≤ R.length) (h : ∀ j y, R[j]? = some y → j < i → n ≤ y.bag) (he : ∀ y, R[i]? = some y → y.bag < n) : R.takeWhile (fun y => decide (n ≤ y.bag)) = R.take i ∧ R.dropWhile (fun y => decide (n ≤ y.bag)) = R.drop i := by
  induction R generalizing i with
  | nil => simp
  | cons y ys ih =>
    cases i with
    | zero =>
      have := he y (by simp)
      have hd : decide (n ≤ y.bag) = false := by simp; omega
      rw [List.takeWhile_cons, List.dropWhile_cons, hd]
      simp
    | succ i =>
      have := h 0 y (by simp) (by omega)
      have hd : decide (n ≤ y.bag) = true := by simpa using this
      obtain ⟨h1, h2⟩ := ih (i := i) (by simpa using hi) (fun j z hz hj => h (j + 1) z (by simpa using hz) (by omega)) (fun z hz => he z (by simpa using hz))
      rw [List.takeWhile_cons, List.dropWhile_cons, hd]
      simp [h1, h2]

set_option maxRecDepth 100000 in
set_option maxHeartbeats 1600000 in
/-- last. -/
theorem rvlast_any (base K : Nat) (x : Vt) (R : List Vt) (tv : Value) (w : World) (hc : RV base K w R tv) (hn : R.length ≤ 1000000) (hb : base ≤ w.heap.size) :
    Calls Try.prog 34 #[.pointer (some ⟨K, 0, none⟩), .agg #[.int .i64 x.id, .int .u64 (x.st : Nat), .int .i64 (x.bag : Nat)]] w fun e w' => e = .returned (.tuple #[]) ∧ RvTo base K w w' (lastV x R) tv := by
  have hkx := KB.new w 47 #[.int .i64 x.id, .int .u64 (x.st : Nat), .int .i64 (x.bag : Nat)]
  have bA : Below w.heap.size w (w.alloc (.cells #[.int .i64 x.id, .int .u64 (x.st : Nat), .int .i64 (x.bag : Nat)] 47)) := (Below.refl _ w).alloc (Nat.le_refl _) _
  have hc1 := hc.below bA
  go_enter Try.func34, Try.ntmps34
  go_wp2_with fail
  have HC := Lib.hid hc
  clear hc
  generalize hG : w.heap.size = G at hkx bA ⊢
  have HG := Lib.hid hG
  clear hG
  generalize (w.alloc (.cells #[.int .i64 x.id, .int .u64 (x.st : Nat), .int .i64 (x.bag : Nat)] 47)) = W at hkx bA hc1 ⊢
  go_loopw [4] (fun tv' wr => ∃ (i q : Nat), i ≤ R.length ∧ tv' = .int .i64 (i : Int) ∧ wr = W.drewN q ∧ ∀ j y, R[j]? = some y → j < i → x.bag ≤ y.bag) (fun tv' _ => R.length - (intOf tv').toNat)
  case atStart => exact ⟨0, 0, by omega, rfl, rfl, fun _ _ _ h => by omega⟩
  case round =>
    obtain ⟨i, q, hi, rfl, rfl, hall⟩ := hrel
    have hcq : RV base K (W.drewN q) R tv := hc1.below (below_drewN (Below.refl _ _) q)
    obtain ⟨A, c, c0, c1, hcap, hmax, hcell⟩ := hc1.read
    have x0 := hkx.cell 0
    have x1 := hkx.cell 1
    have x2 := hkx.cell 2
    simp at x0 x1 x2
    have HCQ := Lib.hid hcq
    have HALL := Lib.hid hall
    have HB := Lib.hid (And.intro bA (And.intro hkx hc1))
    clear hcq hall hkx bA hc1
    by_cases hlt : i < R.length
    · obtain ⟨y, hy⟩ : ∃ y, R[i]? = some y := ⟨_, List.getElem?_eq_getElem hlt⟩
      obtain ⟨g, rfl, g0, g1, g2⟩ := hcell i y hy
      have HY := Lib.hid hy
      clear hcell hy
      have k1 : decide (i < R.length) = true := by simpa using hlt
      have k1' : decide ((i : Int) < (R.length : Int)) = true := by simp; omega
      by_cases hbg : x.bag ≤ y.bag
      · have k2 : decide (((x.bag : Nat) : Int) ≤ ((y.bag : Nat) : Int)) = true := by simp; omega
        have k3 : decide (x.bag ≤ y.bag) = true := by simpa using hbg
        go_wp2_with fail
        go_quiet (fail)
        go_wp2
        go_roundw
        case rel =>
          refine ⟨i + 1, _, by omega, by go_num, rfl, fun j z hz hj => ?_⟩
          rcases Nat.lt_or_ge j i with h | h
          · exact HALL.out j z hz h
          · obtain rfl : j = i := by omega
            rw [HY.out] at hz
            cases hz
            exact hbg
        case measure => simp [intOf]; omega
      · have k2 : decide (((x.bag : Nat) : Int) ≤ ((y.bag : Nat) : Int)) = false := by simp; omega
        have k3 : decide (x.bag ≤ y.bag) = false := by simpa using hbg
        have htw := tw_at (n := x.bag) hi HALL.out (fun z hz => by rw [HY.out] at hz; cases hz; omega)
        have HTW := Lib.hid htw
        clear htw
        go_wp2_with fail
        go_quiet (fail)
        go_wp2_with fail
        have bq : Below w.heap.size w (W.drewN (q + nq)) := below_drewN (HG.out ▸ HB.out.1) _
        refine (rvput_any base K i x R tv _ (HC.out.below bq) hi hn (Nat.le_trans hb bq.size)).mono ?_
        rintro e w' ⟨rfl, hT⟩
        have HT := Lib.hid ((RvTo.of_below HC.out bq).trans hT)
        clear hT
        go_wp2
        go_end0
        refine ⟨rfl, ?_⟩
        unfold lastV
        rw [HTW.out.1, HTW.out.2]
        exact HT.out
    · have k1 : decide (i < R.length) = false := by simpa using hlt
      have k1' : decide ((i : Int) < (R.length : Int)) = false := by simp; omega
      have htw := tw_at (n := x.bag) hi HALL.out (fun z hz => by have := (List.getElem?_eq_some_iff.1 hz).1; omega)
      have HTW := Lib.hid htw
      clear htw hcell
      go_wp2_with fail
      go_quiet (fail)
      go_wp2_with fail
      have bq : Below w.heap.size w (W.drewN (q + nq)) := below_drewN (HG.out ▸ HB.out.1) _
      refine (rvput_any base K i x R tv _ (HC.out.below bq) hi hn (Nat.le_trans hb bq.size)).mono ?_
      rintro e w' ⟨rfl, hT⟩
      have HT := Lib.hid ((RvTo.of_below HC.out bq).trans hT)
      clear hT
      go_wp2
      go_end0
      refine ⟨rfl, ?_⟩
      unfold lastV
      rw [HTW.out.1, HTW.out.2]
      exact HT.out

theorem ixV_none {R : List Vt} {i : Int} (h : fnd R i = none) : ixV i R = -1 := ixV_no (fnd_none h)
theorem ixV_some {R : List Vt} (hn : (R.map Vt.id).Nodup) {i : Int} {x : Vt} (h : fnd R i = some x) : ∃ xs ys, R = xs ++ x :: ys ∧ (∀ z ∈ xs, z.id ≠ i) ∧ (∀ z ∈ ys, z.id ≠ i) ∧ x.id = i ∧ ixV i R = ((xs.length : Nat) : Int) := by
  obtain ⟨h1, h2⟩ := fnd_some h
  obtain ⟨xs, ys, rfl, h3, h4⟩ := split_at hn h1
  rw [h2] at h3 h4
  exact ⟨xs, ys, rfl, h3, h4, h2, ixV_mid h3 h2⟩
theorem cut_mid {x : Vt} {xs ys : List Vt} : (xs ++ x :: ys).take xs.length ++ (xs ++ x :: ys).drop (xs.length + 1) = xs ++ ys := by
  rw [List.take_left' rfl, List.drop_append]
  simp
theorem put_mid {x : Vt} {xs ys : List Vt} : (xs ++ ys).take xs.length ++ x :: (xs ++ ys).drop xs.length = xs ++ x :: ys := by
  rw [List.take_left' rfl, List.drop_left' rfl]
theorem updV_mid {i : Int} {s : Nat} {x : Vt} {xs ys : List Vt} (h1 : ∀ z ∈ xs, z.id ≠ i) (h2 : ∀ z ∈ ys, z.id ≠ i) (hx : x.id = i) : updV i s (xs ++ x :: ys) = xs ++ { x with st := s } :: ys := by
  have key : ∀ zs : List Vt, (∀ z ∈ zs, z.id ≠ i) → zs.map (fun x => if x.id = i then { x with st := s } else x) = zs := fun zs hz => by
    conv => rhs; rw [← List.map_id zs]
    exact List.map_congr_left fun z hm => by simp [hz z hm]
  unfold updV
  rw [List.map_append, List.map_cons, key xs h1, key ys h2, if_pos hx]
theorem bquiet {f : FuncId} {args : Array Value} {w : World} {n : Nat} {r : Nat × Nat} (h : Calls Try.prog f args (w.drewN n) (OutB2 (w.drewN n) r)) :
    Calls Try.prog f args (w.drewN n) fun e w'' => e = .returned (.tuple #[.int .i64 (r.1 : Nat), .int .i64 (r.2 : Nat)]) ∧ ∃ m, w'' = w.drewN m :=
  h.mono fun _ _ ⟨he, q, hq⟩ => ⟨he, n + q, by rw [hq, World.drewN_drewN]⟩

theorem bagM_rs {T : List Nat} (h : Ris T) (s : Nat) : bagM T s = (bagN T s, 0) := if_pos h
section
variable {base K : Nat} {w : World} {R : List Vt} {TA : Option Addr} {Tn Tc : Nat} {T : List Nat}
set_option maxRecDepth 100000 in
set_option maxHeartbeats 1600000 in
theorem rvins_any (hc : RV base K w R (.slice TA Tn Tc)) (hT : Rk .u64 w TA Tn Tc T) (hX : Bl 18446744073709551616 T) (hR : Ris T) (hn : R.length ≤ 1000000) (hb : base ≤ w.heap.size) (hok : VOk T.length R) (i : Int) (s : Nat) :
    Calls Try.prog 11 #[.pointer (some ⟨K, 0, none⟩), .int .i64 i, .int .u64 (s : Nat)] w fun e w' => e = .returned (.int .i64 (insM T R i s).2) ∧ RvTo base K w w' (insM T R i s).1 (.slice TA Tn Tc) := by
  have hF := rvfind_any base K i R _ w hc hn
  unfold insM
  cases hf : fnd R i with
  | some x =>
    obtain ⟨xs, ys, hR, h1, h2, h3, h4⟩ := ixV_some hok.nd hf
    rw [h4] at hF
    have h0 : (0 : Int) ≤ ((xs.length : Nat) : Int) := by omega
    have HC := Lib.hid (RvTo.of_below hc (Below.refl _ _))
    have HF := Lib.hid hF
    clear hc hF hR h4
    go_enter Try.func11, Try.ntmps11
    go_wp2_with fail
    refine HF.out.mono ?_
    rintro e w1 ⟨rfl, rfl⟩
    go_wp2
    go_ret
    exact ⟨rfl, HC.out⟩
  | none =>
    rw [ixV_none hf] at hF
    have HC := Lib.hid hc
    have HF := Lib.hid hF
    have hB := rbag_any TA Tn Tc T s w hT hX
    rw [bagM_rs hR] at hB
    have HB := Lib.hid hB
    obtain ⟨A, c, c0, c1, _⟩ := hc.read
    clear hF hB hc c1 hT hX hR
    go_enter Try.func11, Try.ntmps11
    go_wp2_with fail
    refine HF.out.mono ?_
    rintro e w1 ⟨rfl, rfl⟩
    go_wp2_with fail
    refine HB.out.mono ?_
    rintro e w1 ⟨rfl, q, rfl⟩
    have bq : Below w.heap.size w (w.drewN q) := below_drewN (Below.refl _ _) q
    have HL := Lib.hid (rvlast_any base K ⟨i, s, bagN T s⟩ R _ _ (HC.out.below bq) hn (Nat.le_trans hb bq.size))
    go_wp2_with fail
    refine HL.out.mono ?_
    rintro e w2 ⟨rfl, hT⟩
    have HT := Lib.hid ((RvTo.of_below HC.out bq).trans hT)
    clear hT bq
    go_wp2
    go_ret
    exact ⟨rfl, HT.out⟩

set_option maxRecDepth 100000 in
set_option maxHeartbeats 1600000 in
theorem rvrem_any (hc : RV base K w R (.slice TA Tn Tc)) (hn : R.length ≤ 1000000) (hb : base ≤ w.heap.size) (hok : VOk T.length R) (i : Int) :
    Calls Try.prog 13 #[.pointer (some ⟨K, 0, none⟩), .int .i64 i] w fun e w' => e = .returned (.int .i64 (remM R i).2) ∧ RvTo base K w w' (remM R i).1 (.slice TA Tn Tc) := by
  have hF := rvfind_any base K i R _ w hc hn
  unfold remM
  cases hf : fnd R i with
  | none =>
    rw [ixV_none hf] at hF
    have HC := Lib.hid (RvTo.of_below hc (Below.refl _ _))
    have HF := Lib.hid hF
    clear hc hF
    go_enter Try.func13, Try.ntmps13
    go_wp2_with fail
    refine HF.out.mono ?_
    rintro e w1 ⟨rfl, rfl⟩
    go_wp2
    go_ret
    exact ⟨rfl, HC.out⟩
  | some x =>
    obtain ⟨xs, ys, hR, h1, h2, h3, h4⟩ := ixV_some hok.nd hf
    rw [h4] at hF
    have hcut := rvcut_any base K xs.length x R _ w hc (by rw [hR]; simp) hn hb
    have hdel : R.take xs.length ++ R.drop (xs.length + 1) = delV i R := by rw [hR, cut_mid, delV_mid h1 h3 h2]
    rw [hdel] at hcut
    have h0 : ¬ ((xs.length : Nat) : Int) < 0 := by omega
    have HF := Lib.hid hF
    have HC := Lib.hid hcut
    clear hc hF hcut hR hdel h4
    go_enter Try.func13, Try.ntmps13
    go_wp2_with fail
    refine HF.out.mono ?_
    rintro e w1 ⟨rfl, rfl⟩
    go_wp2_with fail
    refine HC.out.mono ?_
    rintro e w1 ⟨rfl, hT⟩
    have HT := Lib.hid hT
    clear hT
    go_wp2
    go_ret
    exact ⟨rfl, HT.out⟩

set_option maxRecDepth 100000 in
set_option maxHeartbeats 1600000 in
theorem rvupd_any (hc : RV base K w R (.slice TA Tn Tc)) (hn : R.length ≤ 1000000) (hb : base ≤ w.heap.size) (hok : VOk T.length R) (i : Int) (s : Nat) :
    Calls Try.prog 15 #[.pointer (some ⟨K, 0, none⟩), .int .i64 i, .int .u64 (s : Nat)] w fun e w' => e = .returned (.int .i64 (updM R i s).2) ∧ RvTo base K w w' (updM R i s).1 (.slice TA Tn Tc) := by
  have hF := rvfind_any base K i R _ w hc hn
  unfold updM
  cases hf : fnd R i with
  | none =>
    rw [ixV_none hf] at hF
    have HC := Lib.hid (RvTo.of_below hc (Below.refl _ _))
    have HF := Lib.hid hF
    clear hc hF
    go_enter Try.func15, Try.ntmps15
    go_wp2_with fail
    refine HF.out.mono ?_
    rintro e w1 ⟨rfl, rfl⟩
    go_wp2
    go_ret
    exact ⟨rfl, HC.out⟩
  | some x =>
    obtain ⟨xs, ys, hR, h1, h2, h3, h4⟩ := ixV_some hok.nd hf
    rw [h4] at hF
    have hcut := rvcut_any base K xs.length x R _ w hc (by rw [hR]; simp) hn hb
    have hdel : R.take xs.length ++ R.drop (xs.length + 1) = xs ++ ys := by rw [hR, cut_mid]
    rw [hdel] at hcut
    have hput : (xs ++ ys).take xs.length ++ { x with st := s } :: (xs ++ ys).drop xs.length = updV i s R := by rw [put_mid, hR, updV_mid h1 h2 h3]
    have hlen : (xs ++ ys).length ≤ 1000000 := by rw [hR] at hn; simp at hn ⊢; omega
    have h0 : ¬ ((xs.length : Nat) : Int) < 0 := by omega
    have HF := Lib.hid hF
    have HC := Lib.hid hcut
    have HP := Lib.hid (And.intro hput hlen)
    clear hc hF hcut hR hdel h4 hput hlen h1 h2 h3
    go_enter Try.func15, Try.ntmps15
    go_wp2_with fail
    refine HF.out.mono ?_
    rintro e w1 ⟨rfl, rfl⟩
    go_wp2_with fail
    refine HC.out.mono ?_
    rintro e w1 ⟨rfl, hT⟩
    have b2 : Below w1.heap.size w1 (w1.alloc (.cells #[.int .i64 x.id, .int .u64 (s : Nat), .int .i64 (x.bag : Nat)] 47)) := (Below.refl _ w1).alloc (Nat.le_refl _) _
    have HPUT := Lib.hid (rvput_any base K xs.length { x with st := s } (xs ++ ys) _ _ (hT.1.below b2) (by simp) HP.out.2 (Nat.le_trans hb (Nat.le_trans hT.2.size b2.size)))
    have HT := Lib.hid (hT.trans (RvTo.of_below hT.1 b2))
    clear hT b2
    go_wp2_with fail
    refine HPUT.out.mono ?_
    rintro e w3 ⟨rfl, hT3⟩
    have HT3 := Lib.hid (HT.out.trans hT3)
    rw [HP.out.1] at HT3
    clear hT3
    go_wp2
    go_ret
    exact ⟨rfl, HT3.out⟩
end

theorem delV_of {x : Vt} {xs ys : List Vt} {i : Int} (h1 : ∀ z ∈ xs, z.id ≠ i) (h2 : ∀ z ∈ ys, z.id ≠ i) (hx : x.id = i) : delV i (xs ++ x :: ys) = xs ++ ys := delV_mid h1 hx h2
section
variable {base K : Nat} {w : World} {R : List Vt} {TA : Option Addr} {Tn Tc : Nat} {T : List Nat}
set_option maxRecDepth 100000 in
set_option maxHeartbeats 3200000 in
theorem rvreb_any (hc : RV base K w R (.slice TA Tn Tc)) (hT : Rk .u64 w TA Tn Tc T) (hX : Bl 18446744073709551616 T) (hR : Ris T) (hn : R.length ≤ 1000000) (hb : base ≤ w.heap.size) (hok : VOk T.length R) (i : Int) :
    Calls Try.prog 17 #[.pointer (some ⟨K, 0, none⟩), .int .i64 i] w fun e w' => e = .returned (.int .i64 (rebM T R i).2) ∧ RvTo base K w w' (rebM T R i).1 (.slice TA Tn Tc) := by
  have hF := rvfind_any base K i R _ w hc hn
  unfold rebM
  cases hf : fnd R i with
  | none =>
    rw [ixV_none hf] at hF
    have HC := Lib.hid (RvTo.of_below hc (Below.refl _ _))
    have HF := Lib.hid hF
    clear hc hF
    go_enter Try.func17, Try.ntmps17
    go_wp2_with fail
    refine HF.out.mono ?_
    rintro e w1 ⟨rfl, rfl⟩
    go_wp2
    go_ret
    exact ⟨rfl, HC.out⟩
  | some x =>
    obtain ⟨xs, ys, hRe, h1, h2, h3, h4⟩ := ixV_some hok.nd hf
    rw [h4] at hF
    have hdel : xs ++ ys = delV i R := by rw [hRe, delV_of h1 h2 h3]
    have hxi : R[xs.length]? = some x := by rw [hRe]; simp
    have hlen : (delV i R).length ≤ 1000000 := by rw [← hdel]; rw [hRe] at hn; simp at hn ⊢; omega
    have hcd : R.take xs.length ++ R.drop (xs.length + 1) = delV i R := by rw [← hdel, hRe, cut_mid]
    have hlx : xs.length < R.length := (List.getElem?_eq_some_iff.1 hxi).1
    obtain ⟨k, hk⟩ : ∃ k, xs.length = k := ⟨_, rfl⟩
    rw [hk] at hF hxi hcd hlx
    obtain ⟨A, c, c0, c1, hcap, hmax, hcell⟩ := hc.read
    obtain ⟨g, rfl, g0, g1, g2⟩ := hcell k x hxi
    have hq := fun (n : Nat) (hW : Rk .u64 (w.drewN n) TA Tn Tc T) => bquiet (rbag_any TA Tn Tc T x.st (w.drewN n) hW hX)
    rw [bagM_rs hR] at hq
    have HQ := Lib.hid hq
    have HTT := Lib.hid hT
    have k0 : ¬ ((k : Nat) : Int) < 0 := by omega
    have HF := Lib.hid hF
    have HC := Lib.hid hc
    have HX := Lib.hid (And.intro hxi (And.intro hcd hlen))
    have HI := Lib.hid (show ({ x with bag := bagN T x.st } : Vt) = ⟨x.id, x.st, bagN T x.st⟩ from rfl)
    clear hc hF hRe hdel h4 h1 h2 h3 hq hT hX hR hcell hxi hcd hlen hf hk
    dsimp only
    obtain ⟨b, hbb⟩ : ∃ b, bagN T x.st = b := ⟨_, rfl⟩
    rw [hbb] at HQ ⊢
    clear hbb HI
    by_cases hbg : x.bag = b
    · rw [if_pos hbg]
      rw [hbg] at g2
      clear hbg
      go_enter Try.func17, Try.ntmps17
      go_wp2_with fail
      refine HF.out.mono ?_
      rintro e w1 ⟨rfl, rfl⟩
      go_wp2_with fail
      go_quiet (first | (go_at_call 26; exact HQ.out _ (HTT.out.drewN _)))
      go_wp2
      go_ret
      refine ⟨rfl, ?_⟩
      exact RvTo.of_below HC.out (below_drewN (Below.refl _ _) _)
    · rw [if_neg hbg]
      have k1 : (((b : Nat) : Int) == ((x.bag : Nat) : Int)) = false := by simp; omega
      have k2 : ((b : Nat) == (x.bag : Nat)) = false := by simp; omega
      go_enter Try.func17, Try.ntmps17
      go_wp2_with fail
      refine HF.out.mono ?_
      rintro e w1 ⟨rfl, rfl⟩
      go_wp2_with fail
      go_quiet (first | (go_at_call 26; exact HQ.out _ (HTT.out.drewN _)))
      go_wp2_with fail
      have bq : Below w.heap.size w (w.drewN nq) := below_drewN (Below.refl _ _) _
      have hcut := rvcut_any base K k x R _ _ (HC.out.below bq) HX.out.1 hn (Nat.le_trans hb bq.size)
      rw [HX.out.2.1] at hcut
      refine hcut.mono ?_
      rintro e w1 ⟨rfl, hT⟩
      have b2 : Below w1.heap.size w1 (w1.alloc (.cells #[.int .i64 x.id, .int .u64 (x.st : Nat), .int .i64 (b : Nat)] 47)) := (Below.refl _ w1).alloc (Nat.le_refl _) _
      have HL := Lib.hid (rvlast_any base K { x with bag := b } (delV i R) _ _ (hT.1.below b2) HX.out.2.2 (Nat.le_trans hb (Nat.le_trans bq.size (Nat.le_trans hT.2.size b2.size))))
      have HT := Lib.hid (((RvTo.of_below HC.out bq).trans hT).trans (RvTo.of_below hT.1 b2))
      clear hT b2 bq hcut
      go_wp2_with fail
      refine HL.out.mono ?_
      rintro e w3 ⟨rfl, hT3⟩
      have HT3 := Lib.hid (HT.out.trans hT3)
      clear hT3
      go_wp2
      go_ret
      exact ⟨rfl, HT3.out⟩

set_option maxRecDepth 100000 in
set_option maxHeartbeats 6400000 in
theorem rvfro_any (hc : RV base K w R (.slice TA Tn Tc)) (hn : R.length ≤ 1000000) (hb : base ≤ w.heap.size) (hok : VOk T.length R) (i o : Int) :
    Calls Try.prog 19 #[.pointer (some ⟨K, 0, none⟩), .int .i64 i, .int .i64 o] w fun e w' => e = .returned (.int .i64 (froM R i o).2) ∧ RvTo base K w w' (froM R i o).1 (.slice TA Tn Tc) := by
  have hF := rvfind_any base K i R _ w hc hn
  have hG := rvfind_any base K o R _ w hc hn
  have HC := Lib.hid hc
  have H0 := Lib.hid (RvTo.of_below hc (Below.refl w.heap.size w))
  cases hf : fnd R i with
  | none =>
    have hm : froM R i o = (R, 5) := by unfold froM; rw [hf]
    rw [hm]
    rw [ixV_none hf] at hF
    obtain ⟨z, hz⟩ : ∃ z, ixV o R = z := ⟨_, rfl⟩
    rw [hz] at hG
    have HF := Lib.hid hF
    have HG := Lib.hid hG
    clear hc hF hG hm hz hf
    go_enter Try.func19, Try.ntmps19
    go_wp2_with fail
    refine HF.out.mono ?_
    rintro e w1 ⟨rfl, rfl⟩
    go_wp2_with fail
    refine HG.out.mono ?_
    rintro e w1 ⟨rfl, rfl⟩
    go_wp2
    go_ret
    exact ⟨rfl, H0.out⟩
  | some x =>
    obtain ⟨xs, ys, hRe, h1, h2, h3, h4⟩ := ixV_some hok.nd hf
    rw [h4] at hF
    have hxi : R[xs.length]? = some x := by rw [hRe]; simp
    have hdel : xs ++ ys = delV i R := by rw [hRe, delV_of h1 h2 h3]
    have hlen : (delV i R).length ≤ 1000000 := by rw [← hdel]; rw [hRe] at hn; simp at hn ⊢; omega
    have hcd : R.take xs.length ++ R.drop (xs.length + 1) = delV i R := by rw [← hdel, hRe, cut_mid]
    obtain ⟨k, hk⟩ : ∃ k, xs.length = k := ⟨_, rfl⟩
    rw [hk] at hF hxi hcd
    have hlx : k < R.length := (List.getElem?_eq_some_iff.1 hxi).1
    have k0 : ¬ ((k : Nat) : Int) < 0 := by omega
    cases hg : fnd R o with
    | none =>
      have hm : froM R i o = (R, 5) := by unfold froM; rw [hf, hg]
      rw [hm]
      rw [ixV_none hg] at hG
      have HF := Lib.hid hF
      have HG := Lib.hid hG
      clear hc hF hG hm hf hg hRe h1 h2 h3 h4 hxi hdel hlen hcd hk
      go_enter Try.func19, Try.ntmps19
      go_wp2_with fail
      refine HF.out.mono ?_
      rintro e w1 ⟨rfl, rfl⟩
      go_wp2_with fail
      refine HG.out.mono ?_
      rintro e w1 ⟨rfl, rfl⟩
      go_wp2
      go_ret
      exact ⟨rfl, H0.out⟩
    | some y =>
      obtain ⟨us, vs, hRy, u1, u2, u3, u4⟩ := ixV_some hok.nd hg
      rw [u4] at hG
      have hyi : R[us.length]? = some y := by rw [hRy]; simp
      obtain ⟨m, hm⟩ : ∃ m, us.length = m := ⟨_, rfl⟩
      rw [hm] at hG hyi
      have hly : m < R.length := (List.getElem?_eq_some_iff.1 hyi).1
      have m0 : ¬ ((m : Nat) : Int) < 0 := by omega
      obtain ⟨A, c, c0, c1, hcap, hmax, hcell⟩ := hc.read
      obtain ⟨g, rfl, g0, g1, g2⟩ := hcell k x hxi
      obtain ⟨g', hg', e0, e1, e2⟩ := hcell m y hyi
      cases hg'
      have HF := Lib.hid hF
      have HG := Lib.hid hG
      by_cases hcond : x.bag ≠ y.bag ∨ x.st ≤ y.st
      · have hfm : froM R i o = (R, 10) := by unfold froM; rw [hf, hg]; dsimp only; rw [if_pos hcond]
        rw [hfm]
        by_cases hkm : k = m
        · subst hkm
          rw [hxi] at hyi
          cases hyi
          clear hc hF hG hfm hf hg hRe h1 h2 h3 h4 hxi hdel hlen hcd hk hcell hRy u1 u2 u3 u4 hm hcond
          go_enter Try.func19, Try.ntmps19
          go_wp2_with fail
          refine HF.out.mono ?_
          rintro e w1 ⟨rfl, rfl⟩
          go_wp2_with fail
          refine HG.out.mono ?_
          rintro e w1 ⟨rfl, rfl⟩
          go_wp2_with fail
          go_quiet (fail)
          go_wp2
          go_ret
          exact ⟨rfl, RvTo.of_below HC.out (below_drewN (Below.refl _ _) _)⟩
        · have q1 : (((k : Nat) : Int) == ((m : Nat) : Int)) = false := by simp; omega
          have q2 : ((k : Nat) == (m : Nat)) = false := by simp; omega
          by_cases hbg : x.bag = y.bag
          · have hst : x.st ≤ y.st := hcond.resolve_left (fun h => h hbg)
            have q3 : decide (((x.st : Nat) : Int) ≤ ((y.st : Nat) : Int)) = true := by simp; omega
            have q4 : decide (x.st ≤ y.st) = true := by simpa using hst
            rw [hbg] at g2
            clear hc hF hG hfm hf hg hRe h1 h2 h3 h4 hxi hyi hdel hlen hcd hk hcell hRy u1 u2 u3 u4 hm hcond hbg
            go_enter Try.func19, Try.ntmps19
            go_wp2_with fail
            refine HF.out.mono ?_
            rintro e w1 ⟨rfl, rfl⟩
            go_wp2_with fail
            refine HG.out.mono ?_
            rintro e w1 ⟨rfl, rfl⟩
            go_wp2_with fail
            go_quiet (fail)
            go_wp2
            go_ret
            exact ⟨rfl, RvTo.of_below HC.out (below_drewN (Below.refl _ _) _)⟩
          · have q3 : (((x.bag : Nat) : Int) == ((y.bag : Nat) : Int)) = false := by simp; omega
            have q4 : ((x.bag : Nat) == (y.bag : Nat)) = false := by simp; omega
            have q5 : (((x.bag : Nat) : Int) != ((y.bag : Nat) : Int)) = true := by simp; omega
            have q6 : ((x.bag : Nat) != (y.bag : Nat)) = true := by simp; omega
            have q7 : decide (((x.bag : Nat) : Int) = ((y.bag : Nat) : Int)) = false := by simp; omega
            have q8 : decide ((x.bag : Nat) = (y.bag : Nat)) = false := by simp; omega
            clear hc hF hG hfm hf hg hRe h1 h2 h3 h4 hxi hyi hdel hlen hcd hk hcell hRy u1 u2 u3 u4 hm hcond hbg
            go_enter Try.func19, Try.ntmps19
            go_wp2_with fail
            refine HF.out.mono ?_
            rintro e w1 ⟨rfl, rfl⟩
            go_wp2_with fail
            refine HG.out.mono ?_
            rintro e w1 ⟨rfl, rfl⟩
            go_wp2_with fail
            go_quiet (fail)
            go_wp2
            go_ret
            exact ⟨rfl, RvTo.of_below HC.out (below_drewN (Below.refl _ _) _)⟩
      · have hfm : froM R i o = (insV o x (delV i R), 0) := by unfold froM; rw [hf, hg]; dsimp only; rw [if_neg hcond]
        rw [hfm]
        have hbg : x.bag = y.bag := Classical.byContradiction fun h => hcond (.inl h)
        have hst : ¬ x.st ≤ y.st := fun h => hcond (.inr h)
        have hkm : k ≠ m := fun h => by
          subst h
          rw [hxi] at hyi
          cases hyi
          exact hst (Nat.le_refl _)
        have hoi : o ≠ i := fun h => by
          subst h
          rw [hf] at hg
          cases hg
          exact hst (Nat.le_refl _)
        have q1 : (((k : Nat) : Int) == ((m : Nat) : Int)) = false := by simp; omega
        have q2 : ((k : Nat) == (m : Nat)) = false := by simp; omega
        have q3 : decide (((x.st : Nat) : Int) ≤ ((y.st : Nat) : Int)) = false := by simp; omega
        have q4 : decide (x.st ≤ y.st) = false := by simpa using hst
        rw [hbg] at g2
        have hyd : y ∈ delV i R := delV_mem.2 ⟨(fnd_some hg).1, by rw [u3]; exact hoi⟩
        have hnd := delV_nd i hok.nd
        have hfd : fnd (delV i R) o = some y := (fnd_iff hnd).2 ⟨hyd, u3⟩
        obtain ⟨au, bs, hA, a1, a2, a3, a4⟩ := ixV_some hnd hfd
        have hput : (delV i R).take au.length ++ x :: (delV i R).drop au.length = insV o x (delV i R) := by rw [hA, put_mid, insV_mid a1 a3]
        have hal : au.length ≤ (delV i R).length := by rw [hA]; simp
        have HX := Lib.hid (And.intro hxi (And.intro hcd (And.intro hlen (And.intro a4 (And.intro hput hal)))))
        obtain ⟨n1, hn1⟩ : ∃ n1, au.length = n1 := ⟨_, rfl⟩
        rw [hn1] at HX
        obtain ⟨D, hD⟩ : ∃ D, delV i R = D := ⟨_, rfl⟩
        rw [hD] at HX ⊢
        have hp2 : D.take n1 ++ (⟨x.id, x.st, y.bag⟩ : Vt) :: D.drop n1 = insV o x D := by
          rw [← hbg]
          exact HX.out.2.2.2.2.1
        have HP2 := Lib.hid hp2
        clear hp2
        clear hc hF hG hfm hf hg hRe h1 h2 h3 h4 hxi hyi hdel hlen hcd hk hcell hRy u1 u2 u3 u4 hm hcond hst hyd hnd hfd hA a1 a2 a3 a4 hput hal hn1 hkm hoi hD
        go_enter Try.func19, Try.ntmps19
        go_wp2_with fail
        refine HF.out.mono ?_
        rintro e w1 ⟨rfl, rfl⟩
        go_wp2_with fail
        refine HG.out.mono ?_
        rintro e w1 ⟨rfl, rfl⟩
        go_wp2_with fail
        go_quiet (fail)
        go_wp2_with fail
        have bq : Below w.heap.size w (w.drewN nq) := below_drewN (Below.refl _ _) _
        have hcut := rvcut_any base K k x R _ _ (HC.out.below bq) HX.out.1 hn (Nat.le_trans hb bq.size)
        rw [HX.out.2.1] at hcut
        refine hcut.mono ?_
        rintro e w1 ⟨rfl, hT⟩
        have b2 : Below w1.heap.size w1 (w1.alloc (.cells #[.int .i64 x.id, .int .u64 (x.st : Nat), .int .i64 (y.bag : Nat)] 47)) := (Below.refl _ w1).alloc (Nat.le_refl _) _
        have b3 : Below w1.heap.size w1 ((w1.alloc (.cells #[.int .i64 x.id, .int .u64 (x.st : Nat), .int .i64 (y.bag : Nat)] 47)).drew) := b2.drew
        have hv3 := hT.1.below b3
        have hf3 := rvfind_any base K o D _ _ hv3 HX.out.2.2.1
        rw [HX.out.2.2.2.1] at hf3
        have HF3 := Lib.hid hf3
        have HP3 := Lib.hid (rvput_any base K n1 ⟨x.id, x.st, y.bag⟩ D _ _ hv3 HX.out.2.2.2.2.2 HX.out.2.2.1 (Nat.le_trans hb (Nat.le_trans bq.size (Nat.le_trans hT.2.size b3.size))))
        have HT := Lib.hid (((RvTo.of_below HC.out bq).trans hT).trans (RvTo.of_below hT.1 b3))
        clear hT b2 b3 bq hcut hv3 hf3
        go_wp2_with fail
        go_region_with (first
          | (go_at_call 22; refine HF3.out.mono ?_; rintro e w' ⟨rfl, rfl⟩)
          | (go_at_call 38; refine HP3.out.mono ?_; rintro e w3 ⟨rfl, hT3⟩; have HT3 := Lib.hid (HT.out.trans hT3); clear hT3))
        all_goals
          go_wp2
          go_ret
          exact ⟨rfl, HP2.out ▸ HT3.out⟩
end

theorem vcs_get : ∀ (R : List Vt) (k : Nat) (x : Vt), R[k]? = some x → (vcs R)[k * 3]? = some (.int .i64 x.id) ∧ (vcs R)[k * 3 + 1]? = some (.int .u64 (x.st : Nat))
  | [], k, x, h => by simp at h
  | y :: ys, 0, x, h => by simp at h; subst h; simp [vcs]
  | y :: ys, k + 1, x, h => by
    have := vcs_get ys k x (by simpa using h)
    rw [show (k + 1) * 3 = k * 3 + 1 + 1 + 1 by omega]
    simpa [vcs] using this
theorem pcs_get : ∀ (R : List Vt) (k : Nat) (x : Vt), R[k]? = some x → (pcs (pairs R))[k * 3]? = some (.int .i64 x.id) ∧ (pcs (pairs R))[k * 3 + 2]? = some (.int .i64 (x.bag : Nat))
  | [], k, x, h => by simp at h
  | y :: ys, 0, x, h => by simp at h; subst h; simp [pcs, pairs]
  | y :: ys, k + 1, x, h => by
    have := pcs_get ys k x (by simpa using h)
    rw [show (k + 1) * 3 = k * 3 + 1 + 1 + 1 by omega]
    simpa [pcs, pairs] using this
theorem lquiet {f : FuncId} {args : Array Value} {w : World} {n : Nat} {v : Value} (h : Calls Try.prog f args (w.drewN n) fun e w' => e = .returned v ∧ w.drewN n = w') :
    Calls Try.prog f args (w.drewN n) fun e w'' => e = .returned v ∧ ∃ m, w'' = w.drewN m := h.mono fun _ _ ⟨he, hm⟩ => ⟨he, n, hm.symm⟩
/-- What is the call's own, and lies before its loop. -/
structure LR (w0 w : World) (base base' p K : Nat) (T : List Nat) (L : List Vt) (G : Nat) (tv : Value) (A B : Option Addr) (c d : Nat) : Prop where
  va : VA base w p T L G
  rv : RV base' K w L tv
  l : w.ownsRow w0.heap.size 47 3 (.slice A L.length c) L.length (vcs L)
  r : w.ownsRow w0.heap.size 47 3 (.slice B L.length d) L.length (pcs (pairs L))
  bel : Below w0.heap.size w0 w
theorem LR.below {w0 w w' : World} {base base' p K : Nat} {T : List Nat} {L : List Vt} {G : Nat} {tv : Value} {A B : Option Addr} {c d : Nat} (h : LR w0 w base base' p K T L G tv A B c d) (hb : Below w.heap.size w w') : LR w0 w' base base' p K T L G tv A B c d :=
  ⟨h.va.below hb, h.rv.below hb, own_below h.l hb (fun g e => (h.l.lt g e).2), own_below h.r hb (fun g e => (h.r.lt g e).2), h.bel.trans (hb.mono h.bel.size)⟩
theorem LR.cells {w0 w : World} {base base' p K : Nat} {T : List Nat} {L : List Vt} {G : Nat} {tv : Value} {A B : Option Addr} {c d : Nat} (h : LR w0 w base base' p K T L G tv A B c d) {i : Nat} {x : Vt} (hx : L[i]? = some x) :
    (∃ g, A = some ⟨g, 0, none⟩ ∧ L.length ≤ c ∧ c ≤ maxLen ∧ w.cell? ⟨g, i * 3, none⟩ = some (.int .i64 x.id) ∧ w.cell? ⟨g, i * 3 + 1, none⟩ = some (.int .u64 (x.st : Nat))) ∧ (∃ g, B = some ⟨g, 0, none⟩ ∧ L.length ≤ d ∧ d ≤ maxLen ∧ w.cell? ⟨g, i * 3, none⟩ = some (.int .i64 x.id) ∧ w.cell? ⟨g, i * 3 + 2, none⟩ = some (.int .i64 (x.bag : Nat))) := by
  have hi := (List.getElem?_eq_some_iff.1 hx).1
  constructor
  · rcases own_forms h.l with ⟨_, h0, _⟩ | ⟨g, cap, hv, _, h1, h2, _⟩
    · omega
    · have hl := h.l
      injection hv with e1 _ e3
      subst e1 e3
      exact ⟨g, rfl, h1, h2, (hl.cellAt _ (by omega)).trans (vcs_get L i x hx).1, (hl.cellAt _ (by omega)).trans (vcs_get L i x hx).2⟩
  · rcases own_forms h.r with ⟨_, h0, _⟩ | ⟨g, cap, hv, _, h1, h2, _⟩
    · omega
    · have hl := h.r
      injection hv with e1 _ e3
      subst e1 e3
      exact ⟨g, rfl, h1, h2, (hl.cellAt _ (by omega)).trans (pcs_get L i x hx).1, (hl.cellAt _ (by omega)).trans (pcs_get L i x hx).2⟩

set_option maxRecDepth 100000 in
set_option maxHeartbeats 6400000 in
theorem sameV_any {base base' : Nat} {w : World} {p K : Nat} {T : List Nat} {L : List Vt} {G : Nat} {tv : Value} (h : VA base w p T L G) (hr : RV base' K w L tv) (hl : L.length ≤ 1000) (hG : G < 4611686018427387904) :
    Calls Try.prog 21 #[.pointer (some ⟨p, 0, none⟩), .pointer (some ⟨K, 0, none⟩)] w fun e w' => e = .returned (.bool true) ∧ Below w.heap.size w w' := by
  have HA := Lib.hid (lall_any h (by omega) hG)
  have HV := Lib.hid h
  have HR := Lib.hid hr
  have HOK := Lib.hid h.ok
  clear h hr
  go_enter Try.func21, Try.ntmps21
  go_wp2_with fail
  refine HA.out.mono ?_
  rintro e w1 ⟨⟨A, c, rfl, ha⟩, hb1⟩
  have HB := Lib.hid (lrows_any (HV.out.below hb1) (by omega) hG)
  have HA1 := Lib.hid (And.intro ha hb1)
  clear ha hb1
  go_wp2_with fail
  refine HB.out.mono ?_
  rintro e w2 ⟨⟨B, d, rfl, hrw⟩, hb2⟩
  have hLR : LR w w2 base base' p K T L G tv A B c d := by
    have hb1 := HA1.out.2
    exact ⟨(HV.out.below hb1).below hb2, (HR.out.below hb1).below hb2, own_below HA1.out.1 hb2 (fun g e => (HA1.out.1.lt g e).2), World.ownsRow.mono hrw hb1.size, hb1.trans (hb2.mono hb1.size)⟩
  clear hrw hb2 HA1 HB HA
  obtain ⟨Q, q, c0, c1, hcap, hmax, _⟩ := hLR.rv.read
  have HLEN := Lib.hid (fun (W : World) (hW : VA base W p T L G) => vlen_any hW)
  have HLR := Lib.hid hLR
  clear hLR c0
  go_wp2_with fail
  go_quiet (first | (go_at_call 24; exact lquiet (HLEN.out _ (HLR.out.va.below (below_drewN (Below.refl _ _) _)))))
  go_wp2_with fail
  go_loopg [50] L.length (fun gk tv' wr => ∃ i : Nat, i + gk = L.length ∧ tv' = .int .i64 (i : Int) ∧ Hid (LR w wr base base' p K T L G tv A B c d))
  case atStart => exact ⟨0, by omega, rfl, Lib.hid (HLR.out.below (below_drewN (Below.refl _ _) _))⟩
  case round =>
    obtain ⟨i, hi, rfl, HW⟩ := hrel
    clear HLR c1 HLEN HV HR hcap hmax
    by_cases hlt : i < L.length
    · obtain ⟨x, hx⟩ : ∃ x, L[i]? = some x := ⟨_, List.getElem?_eq_getElem hlt⟩
      obtain ⟨Q', q', _, c1, hcap', hmax', hcell⟩ := HW.out.rv.read
      obtain ⟨g, rfl, g0, g1, g2⟩ := hcell i x hx
      have hxm : x ∈ L := List.mem_of_getElem? hx
      have hwf := HOK.out.wf x hxm
      have b3 : Below wr.heap.size wr (wr.alloc (.cells #[.int .i64 x.id, .int .u64 (x.st : Nat), .int .i64 (x.bag : Nat)] 47)) := (Below.refl _ wr).alloc (Nat.le_refl _) _
      have HW3 := Lib.hid (HW.out.below b3)
      have HK3 := Lib.hid (KB.new wr 47 #[.int .i64 x.id, .int .u64 (x.st : Nat), .int .i64 (x.bag : Nat)])
      have hB := vbag_any HW3.out.va x.id hwf
      rw [bagA_eq HOK.out hxm, hasA_eq HOK.out hxm] at hB
      have HB := Lib.hid hB
      have HXM := Lib.hid (And.intro hx hxm)
      obtain ⟨P3, hP3⟩ : ∃ P3, wr.heap.size = P3 := ⟨_, rfl⟩
      rw [hP3] at HK3
      clear b3 hB hcell hx hxm
      go_wp2_with fail
      generalize (wr.alloc (.cells #[.int .i64 x.id, .int .u64 (x.st : Nat), .int .i64 (x.bag : Nat)] 47)) = w3 at *
      try simp only [hP3]
      clear c1 g0 g1 g2 hP3
      refine HB.out.mono ?_
      rintro e w4 ⟨rfl, hb4⟩
      have HW4 := Lib.hid (HW3.out.below hb4)
      have HK4 := Lib.hid (HK3.out.below hb4 HK3.out.lt)
      have x0 := HK4.out.cell 0
      have x1 := HK4.out.cell 1
      have x2 := HK4.out.cell 2
      simp at x0 x1 x2
      have hS := vstake_any HW4.out.va x.id hwf
      rw [stA_eq HOK.out HXM.out.2, hasA_eq HOK.out HXM.out.2] at hS
      have HS := Lib.hid hS
      clear hb4 HK3 HW3 HB hS
      go_wp2_with fail
      refine HS.out.mono ?_
      rintro e w5 ⟨rfl, hb5⟩
      have HW5 := Lib.hid (HW4.out.below hb5)
      have HK5 := Lib.hid (HK4.out.below hb5 HK4.out.lt)
      clear x0 x1 x2 hb5 HK4 HW4 HS
      have x0 := HK5.out.cell 0
      have x1 := HK5.out.cell 1
      have x2 := HK5.out.cell 2
      simp at x0 x1 x2
      obtain ⟨⟨ga, rfl, la, ma, a0, a1⟩, ⟨gb, rfl, lb, mb, b0, b2⟩⟩ := HW5.out.cells HXM.out.1
      go_wp2_with fail
      go_quiet (fail)
      go_wp2
      go_roundg (L.length - (i + 1))
      case rel => exact ⟨i + 1, by omega, by go_num, Lib.hid (HW5.out.below (below_drewN (Below.refl _ _) _))⟩
      case measure => omega
    · obtain rfl : i = L.length := by omega
      go_wp2
      go_ret
      exact ⟨rfl, HW.out.bel⟩
end Go.Proofs.Ytblclpagfbpamaa
