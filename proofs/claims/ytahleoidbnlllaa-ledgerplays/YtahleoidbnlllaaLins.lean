/-
  slices.Insert of one chunk. The conditions stand in each theorem.
-/
import Derived.Test.YtahleoidbnlllaaLcopy
import Derived.Lib.SlFresh
namespace Go.Proofs.Ytahleoidbnlllaa
open Go.RowKit
set_option linter.unusedVariables false

/-- What an insertion makes: the row, in its own block still or in a new one. -/
def InsTo (base : Nat) (w : World) (v : Value) (R : List Ck) (e : Ending) (w' : World) : Prop :=
  ∃ v', e = .returned v' ∧ w'.ownsRow base 53 2 v' R.length (ccs R) ∧ Turns (fun b => v.ownBlock = some b) w w' ∧ (∀ g, v'.ownBlock = some g → v.ownBlock = some g ∨ w.heap.size ≤ g) ∧ ∀ g, v.ownBlock = some g → ∃ cur, KB w' g 53 cur
theorem own_base {w : World} {B base sz n : Nat} {e : TypeId} {v : Value} {cs : List Value} (h : w.ownsRow B e sz v n cs) (hb : base ≤ B) : w.ownsRow base e sz v n cs := by
  refine ⟨h.1, ?_⟩
  rcases h.2 with h0 | ⟨g, cap, cur, rfl, h1, h3⟩
  · exact .inl h0
  · exact .inr ⟨g, cap, cur, rfl, Nat.le_trans hb h1, h3⟩
theorem ckInfo : (Try.prog.info? 53).map (fun i => (i.zero, i.size, i.bytes)) = some (some (.agg #[.int .u64 0, .int .i64 0]), 2, 16) := by kernel_rfl
theorem ckSize : (Try.prog.info? 53).map (·.size) = some 2 := by kernel_rfl
theorem ccs_cons (x : Ck) (R : List Ck) : ccs (x :: R) = .int .u64 (x.1 : Nat) :: .int .i64 x.2 :: ccs R := rfl
/-- append of one chunk: where it lies. -/
theorem app1 {base : Nat} {w : World} {v : Value} {n : Nat} {xs : List Value} {q : Nat} {era : Int} (ty : TypeId) (h : w.ownsRow base 53 2 v n xs) (hq : KB w q 53 #[.int .u64 0, .int .i64 era]) (h8 : n ≤ 8) (hbase : base ≤ w.heap.size) :
    ∃ v' w', (Builtin.append_ #[47, 47] ty #[v, .slice (some ⟨q, 0, none⟩) 1 1]).run Try.prog w = .ok v' w' ∧ w'.ownsRow base 53 2 v' (n + 1) (xs ++ [.int .u64 0, .int .i64 era]) ∧
      Turns (fun b => v.ownBlock = some b) w w' ∧ (∀ g, v'.ownBlock = some g → v.ownBlock = some g ∨ w.heap.size ≤ g) ∧ ∀ g, v.ownBlock = some g → ∃ cur, KB w' g 53 cur := by
  obtain ⟨i0, hi, hz0, hz1, hz2⟩ := info_parts ckInfo
  have hnew : ∀ (j : Nat) (u : Value), [Value.int .u64 0, .int .i64 era][j]? = some u → w.cell? ((⟨q, 0, none⟩ : Addr).add j) = some u := fun j u hu => by rw [addr_add, hq.cell]; simpa using hu
  have h1 : ∀ u ∈ [Value.int .u64 0, .int .i64 era], u.oneCell' = true := by simp [Value.oneCell']
  rcases own_forms h with ⟨rfl, rfl, rfl⟩ | ⟨g, cap, rfl, hg, hnc, hcm, hgs, cur, hgk, hcs, htk⟩
  · have hown : w.ownsRow w.heap.size 53 2 (.slice none 0 0) 0 [] := ⟨by simp, .inl ⟨rfl, rfl⟩⟩
    obtain ⟨v', w', hr, h2, h3, _⟩ := run_append_own (P := Try.prog) w w.heap.size 47 ty 53 i0 _ 2 16 Try.underlying47 hi hz0 hz1 hz2 (by simp [Value.cells]) (by omega) (.slice none 0 0) 0 [] hown ⟨q, 0, none⟩ 1 1 _ (by simp) hnew h1 (by unfold maxLen; omega) (by omega) (Nat.le_refl _)
    exact ⟨v', w', hr, own_base h2 hbase, Turns.grown h3 (fun r e => e), fun g e => .inr (h2.lt g e).1, fun g e => by cases e⟩
  · obtain ⟨v', w', hr, h2, h3, _⟩ := run_append_own (P := Try.prog) w base 47 ty 53 i0 _ 2 16 Try.underlying47 hi hz0 hz1 hz2 (by simp [Value.cells]) (by omega) (.slice (some ⟨g, 0, none⟩) n cap) n xs h ⟨q, 0, none⟩ 1 1 _ (by simp) hnew h1 (by unfold maxLen; omega) (by omega) hbase
    rcases Nat.lt_or_ge n cap with hlt | hge
    · have hr2 := run_append_room (P := Try.prog) w 47 ty 53 i0 Try.underlying47 hi g n cap cur hgk ⟨q, 0, none⟩ 1 1 _ (by simp [hz1]) hnew h1 (by omega) (by rw [hz1, hcs]; simp; omega)
      rw [hr2] at hr
      cases hr
      exact ⟨_, _, hr2, h2, Turns.grown h3 (fun r e => e), fun g' e => .inl e, fun g' e => own_kb h2 e⟩
    · obtain rfl : n = cap := by omega
      have hr2 := run_append_grow (P := Try.prog) w 47 ty 53 i0 _ Try.underlying47 hi hz0 ⟨g, 0, none⟩ n n xs (by rw [hz1]; exact h.1) (fun j u hu => by
        rw [addr_add, KB.cell (show KB w g _ cur from hgk), Nat.zero_add]
        rw [← htk, List.take_of_length_le (by simp [hcs])] at hu
        simpa using hu) ⟨q, 0, none⟩ 1 1 _ (by simp [hz1]) hnew (by omega) (by omega) (by rw [hz2]; exact growslice_fits (by omega) (by omega))
      rw [hr2] at hr
      cases hr
      exact ⟨_, _, hr2, h2, Turns.grown h3 (fun r e => e), fun g' e => .inr (by cases e; exact Nat.le_refl _), fun g' e => by cases e; exact ⟨cur, (show KB w.drew g _ cur from hgk).alloc _⟩⟩
theorem splice_mid {α : Type} (A Z B : List α) (k : Nat) (hk : k = A.length) : splice (A ++ Z) k B = A ++ B ++ Z.drop B.length := by
  subst hk
  simp [splice, List.drop_append]
theorem splice_two {α : Type} (A Z B C : List α) (k m : Nat) (hk : k = A.length) (hm : m = A.length + B.length) : splice (splice (A ++ Z) k B) m C = A ++ B ++ C ++ (Z.drop B.length).drop C.length := by
  rw [splice_mid A Z B k hk, splice_mid (A ++ B) _ C m (by simp [hm])]
theorem splice_back {α : Type} (A D Y B : List α) (k m : Nat) (hk : k = A.length) (hm : m = A.length + B.length) (hY : B.length ≤ D.length + Y.length) : splice (splice (A ++ (D ++ Y)) m D) k B = A ++ B ++ D ++ (D ++ Y).drop (B.length + D.length) := by
  have h1 : splice (A ++ (D ++ Y)) m D = A ++ ((D ++ Y).take B.length ++ D ++ (D ++ Y).drop (B.length + D.length)) := by
    subst hm
    simp only [splice, List.take_append, List.drop_append, List.append_assoc]
    rw [List.take_of_length_le (show A.length ≤ A.length + B.length by omega), List.drop_eq_nil_of_le (show A.length ≤ A.length + B.length + D.length by omega)]
    simp [Nat.add_assoc, Nat.add_sub_cancel_left]
  rw [h1, splice_mid A _ B k hk]
  have h2 : ((D ++ Y).take B.length).length = B.length := by simp; omega
  rw [List.append_assoc, List.append_assoc, List.append_assoc, List.append_assoc, List.drop_append, h2]
  simp
theorem zc_size (k : Nat) : (Builtin.zeroCells (Value.agg #[.int .u64 0, .int .i64 0]).cells k).toList.length = k * 2 := by simp [Builtin.zeroCells, Value.cells]
theorem own_of_kb {w : World} {base g n cap : Nat} {cur : List Value} {R : List Ck} (h : KB w g 53 cur.toArray) (hb : base ≤ g) (hn : n = R.length) (hnc : n ≤ cap) (hcm : cap ≤ maxLen) (hl : cur.length = cap * 2) (Z : List Value) (hc : cur = ccs R ++ Z) :
    w.ownsRow base 53 2 (.slice (some ⟨g, 0, none⟩) n cap) R.length (ccs R) := by
  subst hn
  exact ⟨ccs_len R, .inr ⟨g, cap, cur.toArray, rfl, hb, h, hnc, hcm, by simpa using hl, by rw [hc, List.take_left' (ccs_len R)]⟩⟩
set_option maxHeartbeats 1600000 in
set_option maxRecDepth 100000 in
theorem ins_end {base : Nat} {w : World} {A : Option Addr} {n c : Nat} {ch : List Ck} {q : Nat} {era : Int} (h : w.ownsRow base 53 2 (.slice A n c) n (ccs ch)) (hn : n = ch.length) (hc : n ≤ c) (hq : KB w q 53 #[.int .u64 0, .int .i64 era]) (h8 : n ≤ 8) (hbase : base ≤ w.heap.size) :
    Calls Try.prog 50 #[.slice A n c, .int .i64 (n : Nat), .slice (some ⟨q, 0, none⟩) 1 1] w (InsTo base w (.slice A n c) (ch ++ [(0, era)])) := by
  obtain ⟨v', w', hr, h2, h3, h4⟩ := app1 (era := era) 47 h hq h8 hbase
  have fin : InsTo base w (.slice A n c) (ch ++ [(0, era)]) (.returned v') w' := by
    refine ⟨v', rfl, ?_, h3, h4⟩
    rw [hn] at h2
    rw [ccs_append]
    simpa [ccs] using h2
  have HF := Lib.hid fin
  clear hn h2 h3 h4 fin h
  have hcs : c = n ∨ ¬ c = n := by omega
  rcases hcs with rfl | hcn
  case inr =>
    go_enter Try.func50, Try.ntmps50
    go_wp2_with (at_builtin; refine Lib.wpList_append_run _ rfl _ _ _ _ rfl _ _ rfl rfl _ _ hr ?_)
    go_ret
    exact HF.out
  go_enter Try.func50, Try.ntmps50
  go_wp2_with (at_builtin; refine Lib.wpList_append_run _ rfl _ _ _ _ rfl _ _ rfl rfl _ _ hr ?_)
  go_ret
  exact HF.out
set_option maxHeartbeats 3200000 in
set_option maxRecDepth 100000 in
theorem ins_grow {base : Nat} {w : World} {g n i : Nat} {ch : List Ck} {q : Nat} {era : Int} (h : w.ownsRow base 53 2 (.slice (some ⟨g, 0, none⟩) n n) n (ccs ch)) (hn : n = ch.length) (hi : i < n) (hq : KB w q 53 #[.int .u64 0, .int .i64 era]) (h8 : n ≤ 8) (hbase : base ≤ w.heap.size) :
    Calls Try.prog 50 #[.slice (some ⟨g, 0, none⟩) n n, .int .i64 (i : Nat), .slice (some ⟨q, 0, none⟩) 1 1] w (InsTo base w (.slice (some ⟨g, 0, none⟩) n n) (ch.take i ++ (0, era) :: ch.drop i)) := by
  obtain ⟨i0, hi0, hz0, hz1, hz2⟩ := info_parts ckInfo
  have hgs : g < w.heap.size := (h.lt g rfl).2
  have hqs := hq.lt
  have hcell : ∀ (j : Nat) (u : Value), (ccs ch)[j]? = some u → w.cell? ⟨g, j, none⟩ = some u := fun j u hu => by
    rcases own_forms h with ⟨e, _⟩ | ⟨g', cap, e, _, _, _, _, cur, hgk, hcs, htk⟩
    · cases e
    · cases e
      rw [KB.cell (show KB w g _ cur from hgk)]
      rw [← htk, List.take_of_length_le (by simp [hcs])] at hu
      simpa using hu
  have hold : (Builtin.firstCells i0.size i (.slice (some ⟨g, 0, none⟩) i n)).run Try.prog w.drew = .ok (ccs (ch.take i)).toArray w.drew := by
    rw [hz1]
    exact run_firstCells_some w.drew 2 i ⟨g, 0, none⟩ i n _ (by rw [ccs_len, List.length_take]; omega) (fun j u hj => by
      rw [addr_add, Nat.zero_add]
      rw [← ccs_take, List.getElem?_take] at hj
      split at hj
      · exact hcell j u hj
      · cases hj)
  have hkk : (n : Int) + 1 - (i : Int) = ((n + 1 - i : Nat) : Int) := by omega
  have hik : i + (n + 1 - i) = n + 1 := by omega
  obtain ⟨G, hG⟩ : ∃ G, G = grownCap w (n + 1) n 53 := ⟨_, rfl⟩
  obtain ⟨Z, hZ⟩ : ∃ Z : List Value, Z = (Builtin.zeroCells (Value.agg #[.int .u64 0, .int .i64 0]).cells (n + 1 - i)).toList ++ (Builtin.zeroCells (Value.agg #[.int .u64 0, .int .i64 0]).cells (G - (n + 1))).toList := ⟨_, rfl⟩
  have hGn : n + 1 ≤ G := by rw [hG]; exact grownCap_ge w _ _ _
  have hGm : G ≤ maxLen := by rw [hG]; exact grownCap_le_maxLen w (n + 1) n _ (by unfold maxLen; omega)
  have hZl : Z.length = (G - i) * 2 := by rw [hZ, List.length_append, zc_size, zc_size]; omega
  have hrz : ∀ ty, (Builtin.append_ #[47, 3] ty #[.slice (some ⟨g, 0, none⟩) i n, .int .i64 ((n : Int) + 1 - (i : Int))]).run Try.prog w =
      .ok (.slice (some ⟨w.heap.size, 0, none⟩) (n + 1) G) (w.drew.alloc (.cells (ccs (ch.take i) ++ Z).toArray 53)) := fun ty => by
    have h := Lib.run_append_grow_zeros w 47 3 ty 53 i0 _ .i64 .i64 Try.underlying47 Try.underlying3 hi0 hz0 (some ⟨g, 0, none⟩) i n _ hold (n + 1 - i) (by omega) (by omega) (by omega) (by omega) (by rw [hz2]; omega) (by rw [hz2, hik]; exact growslice_fits (by omega) (by omega))
    rw [hik] at h
    rw [hkk, h, ← hG, hZ]
    congr 3
    apply Array.toList_inj.1
    simp
  obtain ⟨w1, hw1⟩ : ∃ w1, w1 = w.drew.alloc (.cells (ccs (ch.take i) ++ Z).toArray 53) := ⟨_, rfl⟩
  rw [← hw1] at hrz
  obtain ⟨N, hN⟩ : ∃ N, N = w.heap.size := ⟨_, rfl⟩
  rw [← hN] at hrz
  have k1 : KB w1 N 53 (ccs (ch.take i) ++ Z).toArray := by rw [hw1, hN]; exact KB.new w.drew _ _
  have t1 : Turns (fun b => (Value.slice (some ⟨g, 0, none⟩) n n).ownBlock = some b) w w1 := by rw [hw1]; exact ⟨rfl, rfl, rfl, by simp, fun b hb _ => Below.heap_alloc w.drew _ b hb⟩
  have b1 : Below w.heap.size w w1 := by rw [hw1]; exact ((Below.refl _ _).drew).alloc (Nat.le_refl _) _
  have q1 : KB w1 q 53 #[.int .u64 0, .int .i64 era] := hq.below b1 hqs
  have g1 : ∀ (j : Nat) (u : Value), (ccs ch)[j]? = some u → w1.cell? ⟨g, j, none⟩ = some u := fun j u hu => (b1.cell (p := ⟨g, j, none⟩) hgs).trans (hcell j u hu)
  have hNG := Lib.hid hN
  have hlt : (ch.take i).length = i := by rw [List.length_take]; omega
  have hld : (ch.drop i).length = n - i := by rw [List.length_drop]; omega
  obtain ⟨w2, r2, k2, t2⟩ := run_copyA (P := Try.prog) w1 47 47 53 2 N (i * 2) (n + 1 - i) (some ⟨N, i * 2, none⟩) (some ⟨q, 0, none⟩) 1 (ccs (ch.take i) ++ Z) 53 (ccs [(0, era)]) Try.underlying47 ckSize (by omega) k1 1 (Nat.min_eq_left (by omega)) rfl
    (fun _ => ⟨rfl, _, rfl, fun j u hu => by rw [addr_add, q1.cell]; simpa [ccs] using hu⟩) (by rw [List.length_append, ccs_len, ccs_len, hlt, hZl]; simp; omega) (ccs_one _)
  have T2 : Turns (fun b => (Value.slice (some ⟨g, 0, none⟩) n n).ownBlock = some b) w w2.drew := (t1.trans t2 (fun b e => .inr (by rw [e, hN]; exact Nat.le_refl _))).drew
  have g2 : ∀ (j : Nat) (u : Value), (ccs (ch.drop i))[j]? = some u → w2.drew.cell? ((⟨g, i * 2, none⟩ : Addr).add j) = some u := fun j u hu => by
    rw [addr_add]
    rw [← ccs_drop, List.getElem?_drop] at hu
    exact ((t2.below (B := N) (by rw [hN]; exact b1.size) (fun b e => by rw [e]; exact Nat.le_refl _)).cell (p := ⟨g, i * 2 + j, none⟩) (by rw [hN]; exact hgs)).trans (g1 _ u hu)
  have k2d : KB w2.drew N 53 (splice (ccs (ch.take i) ++ Z) (i * 2) (ccs [(0, era)])).toArray := k2
  obtain ⟨w3, r3, k3, t3⟩ := run_copyA (P := Try.prog) w2.drew 47 47 53 2 N ((i + 1) * 2) (n - i) (some ⟨N, (i + 1) * 2, none⟩) (some ⟨g, i * 2, none⟩) (n - i) _ 53 (ccs (ch.drop i)) Try.underlying47 ckSize (by omega) k2d (n - i) (Nat.min_eq_left (by omega)) (by rw [ccs_len, hld])
    (fun _ => ⟨rfl, _, rfl, g2⟩) (by rw [splice_mid _ _ _ _ (by rw [ccs_len, hlt])]; simp [ccs_len, hlt, hld, hZl]; omega) (ccs_one _)
  rw [splice_two _ _ _ _ _ _ (by rw [ccs_len, hlt]) (by rw [ccs_len, ccs_len, hlt]; simp; omega)] at k3
  have T3 := T2.trans t3 (fun b e => .inr (by rw [e, hN]; exact Nat.le_refl _))
  have KO : ∃ cur, KB w3 g 53 cur := by
    obtain ⟨cur, hk⟩ := own_kb h (g := g) rfl
    have hgN : ¬ g = N := by omega
    have hk2 : KB w2 g 53 cur := (hk.below b1 hgs).turns t2 (fun e => hgN e)
    have hk2d : KB w2.drew g 53 cur := hk2
    exact ⟨cur, hk2d.turns t3 (fun e => hgN e)⟩
  have fin : InsTo base w (.slice (some ⟨g, 0, none⟩) n n) (ch.take i ++ (0, era) :: ch.drop i) (.returned (.slice (some ⟨N, 0, none⟩) (n + 1) G)) w3 := by
    refine ⟨_, rfl, ?_, T3, fun g' e => .inr (by cases e; rw [hN]; exact Nat.le_refl _), fun g' e => by cases e; exact KO⟩
    refine own_of_kb k3 (by rw [hN]; exact hbase) (by simp [hlt, hld]; omega) (by omega) hGm (by simp [ccs_len, hlt, hld, hZl]; omega) (List.drop (ccs (List.drop i ch)).length (List.drop (ccs [(0, era)]).length Z)) ?_
    rw [ccs_append, ccs_cons]
    simp [ccs]
  have HF := Lib.hid fin
  have hGi : ¬ (G = i) := by omega
  have hGim : ¬ (G = i + 1) := by omega
  have hw1' : IntKind.i64.wrap ((i : Int) + 1) = (i : Int) + 1 := by rw [IntKind.wrap_i64]; omega
  have hb1 : (0 : Int) ≤ (i : Int) + 1 := by omega
  have htn : ((i : Int) + 1).toNat = i + 1 := by omega
  have hni : ¬ (n = i) := by omega
  have hp1 : (i : Int) + 1 ≤ (n : Int) + 1 := by omega
  have hin : i ≤ n := by omega
  have hp4 : i + 1 ≤ n + 1 := by omega
  clear hkk hik hold hG hZ hw1 hN hlt hld hn hZl hz0 hz1 hz2 hi0 k1 t1 b1 q1 g1 k2 k2d T2 g2 t2 t3 k3 T3 fin h hq hcell
  go_enter Try.func50, Try.ntmps50
  go_wp2_with (first
    | (at_builtin; refine Lib.wpList_append_run _ rfl _ _ _ _ rfl _ _ rfl rfl _ _ (hrz _) ?_)
    | (at_builtin; refine wpList_copyR rfl _ _ 47 47 rfl rfl rfl (r2 _ _ _) ?_))
  go_region_law (refine step_copyR rfl _ _ 47 47 rfl (v := .slice (some ⟨N, (i + 1) * 2, none⟩) (n - i) (G - (i + 1))) (u := .slice (some ⟨g, i * 2, none⟩) (n - i) (n - i)) (by simp [Act.eval, Act.put]) (by simp [Act.eval, Act.put]) (r3 _ _ _) ?_)
  all_goals
    go_wp2
    go_ret
    exact HF.out
set_option maxHeartbeats 3200000 in
set_option maxRecDepth 100000 in
theorem ins_room {base : Nat} {w : World} {g n cap i : Nat} {ch : List Ck} {q : Nat} {era : Int} (h : w.ownsRow base 53 2 (.slice (some ⟨g, 0, none⟩) n cap) n (ccs ch)) (hn : n = ch.length) (hi : i < n) (hnc : n < cap) (hq : KB w q 53 #[.int .u64 0, .int .i64 era]) (hqg : g ≠ q) (h8 : n ≤ 8) (hbase : base ≤ w.heap.size) :
    Calls Try.prog 50 #[.slice (some ⟨g, 0, none⟩) n cap, .int .i64 (i : Nat), .slice (some ⟨q, 0, none⟩) 1 1] w (InsTo base w (.slice (some ⟨g, 0, none⟩) n cap) (ch.take i ++ (0, era) :: ch.drop i)) := by
  have hgs : g < w.heap.size := (h.lt g rfl).2
  have hqs := hq.lt
  obtain ⟨Y, hcm, k0, hYl⟩ : ∃ Y : List Value, cap ≤ maxLen ∧ KB w g 53 (ccs (ch.take i) ++ (ccs (ch.drop i) ++ Y)).toArray ∧ Y.length = (cap - n) * 2 := by
    rcases own_forms h with ⟨e, _⟩ | ⟨g', cap', e, _, _, hcm, _, cur, hgk, hcs, htk⟩
    · cases e
    · cases e
      have hl : cur.toList.length = cap * 2 := by simpa using hcs
      refine ⟨cur.toList.drop (n * 2), hcm, ?_, by rw [List.length_drop, hl]; omega⟩
      rw [← List.append_assoc, ← ccs_append, List.take_append_drop, ← htk, List.take_append_drop]
      simpa [KB] using hgk
  have hov : ∀ d lb cb, (callFunc 60 #[.slice (some ⟨q, 0, none⟩) 1 d, .slice (some ⟨g, (i + 1) * 2, none⟩) lb cb]).run Try.prog w = .ok (.value (.bool false)) w := fun d lb cb =>
    run_ovl w q 0 g ((i + 1) * 2) 1 d lb cb _ _ _ _ hq k0 (fun e => hqg e.symm) (by simp [hYl, ccs_len]; omega)
  have hlt : (ch.take i).length = i := by rw [List.length_take]; omega
  have hld : (ch.drop i).length = n - i := by rw [List.length_drop]; omega
  have k0d : KB w.drew g 53 (ccs (ch.take i) ++ (ccs (ch.drop i) ++ Y)).toArray := k0
  obtain ⟨w2, r2, k2, t2⟩ := run_copyA (P := Try.prog) w.drew 47 47 53 2 g ((i + 1) * 2) (n - i) (some ⟨g, (i + 1) * 2, none⟩) (some ⟨g, i * 2, none⟩) (n + 1 - i) _ 53 (ccs (ch.drop i)) Try.underlying47 ckSize (by omega) k0d (n - i) (Nat.min_eq_right (by omega)) (by rw [ccs_len, hld])
    (fun _ => ⟨rfl, _, rfl, fun j u hu => by
      rw [addr_add, k0d.cell]
      have hj := (List.getElem?_eq_some_iff.1 hu).1
      rw [List.getElem?_toArray, List.getElem?_append_right (by rw [ccs_len, hlt]; omega), ccs_len, hlt, Nat.add_sub_cancel_left, List.getElem?_append_left hj]
      exact hu⟩) (by simp [ccs_len, hlt, hld, hYl]; omega) (ccs_one _)
  have q2 : KB w2 q 53 #[.int .u64 0, .int .i64 era] := (show KB w.drew q _ _ from hq).turns t2 (fun e => hqg e.symm)
  have T2 : Turns (fun b => (Value.slice (some ⟨g, 0, none⟩) n cap).ownBlock = some b) w w2 := ⟨t2.os, t2.tape, t2.output, t2.size, fun b hb hn => t2.block b hb (fun e => hn (by rw [e]; rfl))⟩
  obtain ⟨w3, r3, k3, t3⟩ := run_copyA (P := Try.prog) w2 47 47 53 2 g (i * 2) (n + 1 - i) (some ⟨g, i * 2, none⟩) (some ⟨q, 0, none⟩) 1 _ 53 (ccs [(0, era)]) Try.underlying47 ckSize (by omega) k2 1 (Nat.min_eq_left (by omega)) rfl
    (fun _ => ⟨rfl, _, rfl, fun j u hu => by rw [addr_add, q2.cell]; simpa [ccs] using hu⟩) (by simp [splice, ccs_len, hlt, hld, hYl]; omega) (ccs_one _)
  rw [splice_back _ _ _ _ _ _ (by rw [ccs_len, hlt]) (by rw [ccs_len, ccs_len, hlt]; simp; omega) (by rw [ccs_len, ccs_len, hld, hYl]; simp; omega)] at k3
  have T3 := T2.trans t3 (fun b e => .inl (by rw [e]; rfl))
  have fin : InsTo base w (.slice (some ⟨g, 0, none⟩) n cap) (ch.take i ++ (0, era) :: ch.drop i) (.returned (.slice (some ⟨g, 0, none⟩) (n + 1) cap)) w3 := by
    refine ⟨_, rfl, ?_, T3, fun g' e => .inl e, fun g' e => by cases e; exact ⟨_, k3⟩⟩
    refine own_of_kb k3 (h.lt g rfl).1 (by simp [hlt, hld]; omega) (by omega) hcm (by simp [ccs_len, hlt, hld, hYl]; omega) ((ccs (ch.drop i) ++ Y).drop ((ccs [(0, era)]).length + (ccs (ch.drop i)).length)) ?_
    rw [ccs_append, ccs_cons]
    simp [ccs]
  have HF := Lib.hid fin
  have hGi : ¬ (cap = i) := by omega
  have hGim : ¬ (cap = i + 1) := by omega
  have hGn : n + 1 ≤ cap := by omega
  have hw1' : IntKind.i64.wrap ((i : Int) + 1) = (i : Int) + 1 := by rw [IntKind.wrap_i64]; omega
  have hb1 : (0 : Int) ≤ (i : Int) + 1 := by omega
  have htn : ((i : Int) + 1).toNat = i + 1 := by omega
  have hp1 : (i : Int) + 1 ≤ (n : Int) + 1 := by omega
  have hin : i ≤ n := by omega
  have hp4 : i + 1 ≤ n + 1 := by omega
  have hp5 : i ≤ n + 1 := by omega
  have hp6 : (i : Int) ≤ (n : Int) + 1 := by omega
  have hcm' : cap ≤ 9223372036854775807 := by unfold maxLen at hcm; omega
  clear hlt hld hn hYl k0 k0d T2 t2 k2 q2 t3 k3 T3 fin h hq hcm
  go_enter Try.func50, Try.ntmps50
  go_wp2_with (simp only [hov])
  go_region_law (refine step_copyR rfl _ _ 47 47 rfl (v := .slice (some ⟨g, (i + 1) * 2, none⟩) (n - i) (cap - (i + 1))) (u := .slice (some ⟨g, i * 2, none⟩) (n + 1 - i) (cap - i)) (by simp [Act.eval, Act.put]) (by simp [Act.eval, Act.put]) (r2 _ _ _) ?_)
  all_goals
    go_wp2_with (at_builtin; refine wpList_copyR rfl _ _ 47 47 rfl rfl rfl (r3 _ _ _) ?_)
    go_ret
    exact HF.out
/-- Insert of one chunk, wherever. -/
theorem ins_any {base : Nat} {w : World} {v : Value} {i : Nat} {ch : List Ck} {q : Nat} {era : Int} (h : w.ownsRow base 53 2 v ch.length (ccs ch)) (hi : i ≤ ch.length) (hq : KB w q 53 #[.int .u64 0, .int .i64 era]) (hqg : v.ownBlock ≠ some q) (h8 : ch.length ≤ 8) (hbase : base ≤ w.heap.size) :
    Calls Try.prog 50 #[v, .int .i64 (i : Nat), .slice (some ⟨q, 0, none⟩) 1 1] w (InsTo base w v (ch.take i ++ (0, era) :: ch.drop i)) := by
  by_cases hlast : i = ch.length
  · subst hlast
    rw [List.take_length, List.drop_length]
    rcases own_forms h with ⟨rfl, h0, _⟩ | ⟨g, cap, rfl, _, hnc, _⟩
    · have h' := h
      rw [h0] at h'
      have := ins_end h' h0.symm (Nat.le_refl _) hq (Nat.zero_le _) hbase
      rw [h0]; exact this
    · exact ins_end h rfl hnc hq h8 hbase
  · rcases own_forms h with ⟨rfl, h0, _⟩ | ⟨g, cap, rfl, _, hnc, _⟩
    · omega
    · rcases Nat.lt_or_ge ch.length cap with hlt | hge
      · exact ins_room h rfl (by omega) hlt hq (fun e => hqg (by rw [e]; rfl)) h8 hbase
      · obtain rfl : ch.length = cap := by omega
        exact ins_grow h rfl (by omega) hq h8 hbase
end Go.Proofs.Ytahleoidbnlllaa
