/-
  PROVED: for every snapshot and every number of seats the law PhragmenFair returns true: no group of voters that is due so many seats has fewer members that one of it approves. No conditions.
  The walk of the law PhragmenFair: it returns true, whatever the snapshot and the number, and writes nothing that was there.
  No group of voters is due more members than an election gives it: in bits, as the reference asks. No program is walked here.
  The reference's Fair of layer 14. For well formed snapshots of at most ten voters, where no group is due more members than it has.
  Groups of voters as bits: the stake of a group, the candidates that all of it, or one of it, approve; in lists. No program is walked here.
  Snapshots that a law makes: voters in a row of the call's own; stakes all so many times as great; a voter more. No program is walked here.
-/
import Derived.Test.YtehekjlakegkpaaGreatX28
import Derived.Test.YtehekjlakegkpaaGreatX31
import Derived.Lib.RabinKarpLaws
import Derived.Test.YtehekjlakegkpaaGreatX27
import Derived.Deep.RegionHeld3
import Derived.Test.YtehekjlakegkpaaGreatRows
import Derived.Test.YtehekjlakegkpaaGreatX30
import Derived.WalkKit
import Derived.ProofKit
import Derived.OpenShut
import Derived.ShutString
import Derived.ChangeOld
import Derived.Below
import Derived.Lib.SmallJoins
section
namespace Go.Proofs.YtehekjlakegkpaaGreat
open Go.RowKit
set_option linter.unusedVariables false

def Vr.lst (v : Vr) : List Value := [.int .i64 v.id, .int .u64 (v.st : Int), .slice v.a v.n v.c]
def vrC (l : List Vr) : List Value := l.flatMap Vr.lst
theorem vrC_append (l k : List Vr) : vrC (l ++ k) = vrC l ++ vrC k := List.flatMap_append
theorem vrInfo : (Tryz.prog.info? 43).map (fun i => (i.zero, i.size, i.bytes)) = some (some (.agg #[.int .i64 0, .int .u64 0, .slice none 0 0]), 3, 40) := by kernel_rfl
theorem rv_of_own {w : World} {base n c : Nat} {A : Option Addr} {T : TypeId} {l : List Vr} (h : w.ownsRow base T 3 (.slice A n c) n (vrC l)) (hl : l.length = n) (hv : ∀ v ∈ l, v.ok ∧ Ri w v.a v.n v.c v.ps) : Rv w A n c l := by
  subst hl
  have hcap := own_caps h
  refine ⟨rfl, hcap.1, hcap.2, hv, fun h0 => ?_⟩
  obtain ⟨g, c', e, hb, hg, hnc, hc, hi⟩ := ownK_at h h0
  injection e with e1 e2 e3
  refine ⟨g, 0, e1, hg, fun j s hj => ?_⟩
  have hjl := (List.getElem?_eq_some_iff.1 hj).1
  obtain ⟨g', c'', e', _, _, _, _, hi'⟩ := ownK_at h hjl
  injection e' with e1' _ _
  rw [e1] at e1'
  injection e1' with e1'
  injection e1' with e1' _ _
  subst e1'
  have key : ∀ i, i < 3 → w.cell? ⟨g, j * 3 + i, none⟩ = s.lst[i]? := fun i h4 => by
    have := hi' i h4
    unfold vrC at this
    rw [flatK_get 3 Vr.lst (fun _ => rfl) l j i s hj h4] at this
    exact this
  rw [Nat.zero_add]
  exact ⟨key 0 (by omega), key 1 (by omega), key 2 (by omega)⟩
theorem tot_mul (t : Nat) (vs : List Vr) : tot (stk (vs.map (mulV t))) = tot (stk vs) * t := by
  induction vs with
  | nil => simp [stk, tot]
  | cons v vs ih =>
    simp only [stk, List.map_cons, tot] at ih ⊢
    rw [ih, Nat.add_mul]
    rfl
theorem tot_le (M : Nat) (vs : List Vr) (h : ∀ v ∈ vs, v.st ≤ M) : tot (stk vs) ≤ vs.length * M := by
  induction vs with
  | nil => simp [stk, tot]
  | cons v vs ih =>
    have h1 := ih fun u hu => h u (List.mem_cons_of_mem _ hu)
    have h2 := h v List.mem_cons_self
    simp only [stk, List.map_cons, tot, List.length_cons] at h1 ⊢
    rw [Nat.succ_mul]
    omega
theorem fd_mul {vs : List Vr} {cs : List Int} {t : Nat} (h : Fd vs cs) (ht : t < 65536) (hs : ∀ v ∈ vs, v.st ≤ 1099511627776) : Fd (vs.map (mulV t)) cs := by
  obtain ⟨h1, h2, h3, h4, h5, h6⟩ := h
  refine ⟨by rw [List.length_map]; exact h1, h2, fun v hv => ?_, ?_, fun v hv => ?_, ?_⟩
  · obtain ⟨u, hu, rfl⟩ := List.mem_map.1 hv; exact h3 u hu
  · rw [tot_mul]
    have h7 := tot_le 1099511627776 vs hs
    have h8 : tot (stk vs) * t ≤ (32 * 1099511627776) * 65535 := Nat.mul_le_mul (Nat.le_trans h7 (Nat.mul_le_mul_right _ h1)) (by omega)
    omega
  · obtain ⟨u, hu, rfl⟩ := List.mem_map.1 hv; exact h5 u hu
  · have : idl (vs.map (mulV t)) = idl vs := by unfold idl; rw [List.map_map]; rfl
    rw [this]; exact h6
theorem supR_mul {vs : List Vr} {cs : List Int} {t : Nat} (h : Fd vs cs) (h' : Fd (vs.map (mulV t)) cs) (ht : 0 < t) : supR (vs.map (mulV t)) cs = supR vs cs := by
  rw [supR_eq h, supR_eq h']
  refine List.filter_congr fun x _ => ?_
  rw [List.any_map]
  congr 1
  funext v
  exact apv_mul ht v x
theorem fd_front {vs : List Vr} {cs : List Int} {u : Vr} (h : Fd (vs ++ [u]) cs) : Fd vs cs := by
  obtain ⟨h1, h2, h3, h4, h5, h6⟩ := h
  refine ⟨by rw [List.length_append] at h1; omega, h2, fun v hv => h3 v (List.mem_append_left _ hv), ?_, fun v hv => h5 v (List.mem_append_left _ hv), ?_⟩
  · rw [stk, List.map_append, tot_append] at h4
    rw [stk]; omega
  · unfold idl at h6 ⊢
    rw [List.map_append, List.nodup_append] at h6
    exact h6.1
theorem supR_idle {vs : List Vr} {cs : List Int} {u : Vr} (h : Fd (vs ++ [u]) cs) (hu : ∀ c ∈ cs, ¬ apv u c = true) : supR (vs ++ [u]) cs = supR vs cs := by
  rw [supR_eq h, supR_eq (fd_front h)]
  refine List.filter_congr fun x hx => ?_
  rw [List.any_append]
  simp [hu x hx]
theorem mul_es {vs : List Vr} {cs : List Int} {t k : Nat} (h : Fd vs cs) (h' : Fd (vs.map (mulV t)) cs) (ht : 0 < t) {es es' : List Se} (he : es.map Se.out = ((rc0 vs (supR vs cs)).run (min k (supR vs cs).length)).es) (he' : es'.map Se.out = ((rc0 (vs.map (mulV t)) (supR (vs.map (mulV t)) cs)).run (min k (supR (vs.map (mulV t)) cs).length)).es) :
    es'.length = es.length ∧ ∀ (i : Nat) (x y : Se), es[i]? = some x → es'[i]? = some y → y.cd = x.cd ∧ y.x * (t : Rat) = x.x := by
  rw [supR_mul h h' ht, run_mul ht vs _ (supR_nodup h) (supR_some h) _ (Nat.min_le_right _ _)] at he'
  have e : es'.map Se.out = (es.map Se.out).map fun e => (e.1, e.2 / (t : Rat)) := by rw [he', he]; rfl
  have htr : (t : Rat) ≠ 0 := by
    have : t ≠ 0 := by omega
    exact_mod_cast this
  refine ⟨by have := congrArg List.length e; simpa using this, fun i x y hx hy => ?_⟩
  have h1 := congrArg (fun l : List (Int × Rat) => l[i]?) e
  simp only [List.getElem?_map, hx, hy, Option.map_some] at h1
  injection h1 with h1
  have h2 := congrArg Prod.fst h1
  have h3 := congrArg Prod.snd h1
  refine ⟨h2, ?_⟩
  show y.out.2 * (t : Rat) = x.x
  rw [h3]
  exact Rat.div_mul_cancel htr
theorem idle_es {vs : List Vr} {cs : List Int} {u : Vr} {k : Nat} (h : Fd (vs ++ [u]) cs) (hu : ∀ c ∈ cs, ¬ apv u c = true) {es es' : List Se} (he : es.map Se.out = ((rc0 vs (supR vs cs)).run (min k (supR vs cs).length)).es) (he' : es'.map Se.out = ((rc0 (vs ++ [u]) (supR (vs ++ [u]) cs)).run (min k (supR (vs ++ [u]) cs).length)).es) :
    es'.map Se.out = es.map Se.out := by
  have hf := fd_front h
  rw [supR_idle h hu, run_idle vs _ (supR_nodup hf) (supR_some hf) (fun c hc => hu c ((supR_mem hf).1 hc).1) _ (Nat.min_le_right _ _)] at he'
  rw [he', he]
  rfl
theorem wts_idle {u : Vr} {L : List (Int × Rat)} (h : ∀ e ∈ L, ¬ apv u e.1 = true) {a : List Sh} (ha : GivL u L a) : a = [] := ha.nil_iff.2 h
theorem shR_idle {L : List (Int × Rat)} {vs : List Vr} {u : Vr} (hu : ∀ e ∈ L, ¬ apv u e.1 = true) {l : List Sh} (h : ShR L (vs ++ [u]) l) : ShR L vs l := by
  induction vs generalizing l with
  | nil =>
    obtain ⟨a, b, rfl, ha, hb⟩ := h
    rw [wts_idle hu ha, show b = [] from hb]
    rfl
  | cons v vs ih =>
    obtain ⟨a, b, rfl, ha, hb⟩ := h
    exact ⟨a, b, rfl, ha, ih hb⟩
end Go.Proofs.YtehekjlakegkpaaGreat
end
section
namespace Go.Proofs.YtehekjlakegkpaaGreat
open Go.RowKit
set_option linter.unusedVariables false

/-- The voters that have a stake. -/
def stV (vs : List Vr) : List Vr := vs.filter fun v => decide (0 < v.st)
theorem stV_take {vs : List Vr} {k : Nat} {v : Vr} (h : vs[k]? = some v) : stV (vs.take (k + 1)) = stV (vs.take k) ++ if 0 < v.st then [v] else [] := by
  unfold stV
  rw [List.take_add_one, h, List.filter_append]
  congr 1
  show [v].filter _ = _
  by_cases e : 0 < v.st <;> simp [e]
theorem stV_len (vs : List Vr) : (stV vs).length ≤ vs.length := List.length_filter_le _ _
/-- The stake of a group. -/
def slS (g : Nat) : List Vr → Nat → Nat
  | [], _ => 0
  | v :: l, k => (if g.testBit k = true then v.st else 0) + slS g l (k + 1)
/-- All of it approve; one of it does. -/
def evB (g : Nat) (c : Int) : List Vr → Nat → Bool
  | [], _ => true
  | v :: l, k => (!g.testBit k || decide (c ∈ v.ps)) && evB g c l (k + 1)
def smB (g : Nat) (c : Int) : List Vr → Nat → Bool
  | [], _ => false
  | v :: l, k => (g.testBit k && decide (c ∈ v.ps)) || smB g c l (k + 1)
theorem slS_snoc (g : Nat) (l : List Vr) (v : Vr) (k : Nat) : slS g (l ++ [v]) k = slS g l k + if g.testBit (k + l.length) = true then v.st else 0 := by
  induction l generalizing k with
  | nil => simp [slS]
  | cons u l ih =>
    simp only [List.cons_append, slS, ih, List.length_cons]
    rw [show k + 1 + l.length = k + (l.length + 1) by omega]; omega
theorem evB_snoc (g : Nat) (c : Int) (l : List Vr) (v : Vr) (k : Nat) : evB g c (l ++ [v]) k = (evB g c l k && (!g.testBit (k + l.length) || decide (c ∈ v.ps))) := by
  induction l generalizing k with
  | nil => simp [evB]
  | cons u l ih =>
    simp only [List.cons_append, evB, ih, List.length_cons]
    rw [show k + 1 + l.length = k + (l.length + 1) by omega, Bool.and_assoc]
theorem smB_snoc (g : Nat) (c : Int) (l : List Vr) (v : Vr) (k : Nat) : smB g c (l ++ [v]) k = (smB g c l k || (g.testBit (k + l.length) && decide (c ∈ v.ps))) := by
  induction l generalizing k with
  | nil => simp [smB]
  | cons u l ih =>
    simp only [List.cons_append, smB, ih, List.length_cons]
    rw [show k + 1 + l.length = k + (l.length + 1) by omega, Bool.or_assoc]
theorem take_snoc' {l : List Vr} {i : Nat} {v : Vr} (h : l[i]? = some v) : l.take (i + 1) = l.take i ++ [v] := by rw [List.take_add_one, h]; rfl
theorem take_len {l : List Vr} {i : Nat} {v : Vr} (h : l[i]? = some v) : (l.take i).length = i := by
  rw [List.length_take]; have := (List.getElem?_eq_some_iff.1 h).1; omega
theorem slS_take {g i : Nat} {l : List Vr} {v : Vr} (h : l[i]? = some v) : slS g (l.take (i + 1)) 0 = slS g (l.take i) 0 + if g.testBit i = true then v.st else 0 := by
  rw [take_snoc' h, slS_snoc, take_len h, Nat.zero_add]
theorem evB_take {g i : Nat} {c : Int} {l : List Vr} {v : Vr} (h : l[i]? = some v) : evB g c (l.take (i + 1)) 0 = (evB g c (l.take i) 0 && (!g.testBit i || decide (c ∈ v.ps))) := by
  rw [take_snoc' h, evB_snoc, take_len h, Nat.zero_add]
theorem smB_take {g i : Nat} {c : Int} {l : List Vr} {v : Vr} (h : l[i]? = some v) : smB g c (l.take (i + 1)) 0 = (smB g c (l.take i) 0 || (g.testBit i && decide (c ∈ v.ps))) := by
  rw [take_snoc' h, smB_snoc, take_len h, Nat.zero_add]
theorem slS_le (g : Nat) (l : List Vr) (k : Nat) : slS g l k ≤ tot (stk l) := by
  induction l generalizing k with
  | nil => simp [slS, stk, tot]
  | cons v l ih =>
    have := ih (k + 1)
    simp only [slS, stk, List.map_cons, tot] at this ⊢
    split <;> omega
theorem stV_tot (vs : List Vr) : tot (stk (stV vs)) = tot (stk vs) := by
  induction vs with
  | nil => rfl
  | cons v vs ih =>
    unfold stV at ih ⊢
    by_cases e : 0 < v.st
    · rw [List.filter_cons_of_pos (by simpa using e)]
      simp only [stk, List.map_cons, tot] at ih ⊢
      rw [ih]
    · rw [List.filter_cons_of_neg (by simpa using e)]
      simp only [stk, List.map_cons, tot] at ih ⊢
      omega
/-- How many candidates all of a group approve; how many members one of it does. -/
def cmN (g : Nat) (cs : List Int) (ls : List Vr) : Nat := (cs.filter fun c => evB g c ls 0).length
def mbN (g : Nat) (cs : List Int) (ls : List Vr) (ms : List Int) : Nat := (cs.filter fun c => smB g c ls 0 && decide (c ∈ ms)).length
theorem filt_take {p : Int → Bool} {cs : List Int} {k : Nat} (h : k < cs.length) : ((cs.take (k + 1)).filter p).length = ((cs.take k).filter p).length + if p (zl cs k) = true then 1 else 0 := by
  rw [List.take_add_one, List.getElem?_eq_getElem h, List.filter_append, List.length_append, zl_get cs k h]
  congr 1
  show ([cs[k]].filter p).length = _
  by_cases e : p cs[k] = true <;> simp [e]
/-- A group as a choice of voters. -/
def grp (g : Nat) (ls : List Vr) (v : Vr) : Bool := (List.range ls.length).any fun i => g.testBit i && decide ((ls[i]?.map Vr.id) = some v.id)
theorem grp_at {g : Nat} {ls : List Vr} (hd : (idl ls).Nodup) {i : Nat} {v : Vr} (h : ls[i]? = some v) : grp g ls v = g.testBit i := by
  have hi := (List.getElem?_eq_some_iff.1 h).1
  unfold idl at hd
  unfold grp
  rw [Bool.eq_iff_iff, List.any_eq_true]
  constructor
  · rintro ⟨j, hj, hb⟩
    rw [Bool.and_eq_true, decide_eq_true_iff] at hb
    have hjl := List.mem_range.1 hj
    rw [List.getElem?_eq_getElem hjl] at hb
    have hid : ls[j].id = v.id := by simpa using hb.2
    have hji : j = i := by
      have hp := List.pairwise_iff_getElem.1 hd
      have hv : ls[i].id = v.id := by rw [(List.getElem?_eq_some_iff.1 h).2]
      rcases Nat.lt_trichotomy j i with h1 | h1 | h1
      · exact absurd (by rw [List.getElem_map, List.getElem_map, hid, hv]) (hp j i (by rw [List.length_map]; exact hjl) (by rw [List.length_map]; exact hi) h1)
      · exact h1
      · exact absurd (by rw [List.getElem_map, List.getElem_map, hid, hv]) (hp i j (by rw [List.length_map]; exact hi) (by rw [List.length_map]; exact hjl) h1)
    rw [← hji]; exact hb.1
  · intro hb
    exact ⟨i, List.mem_range.2 hi, by rw [h]; simp [hb]⟩
theorem slS_grp {g : Nat} (G : Vr → Bool) (l : List Vr) (k : Nat) (h : ∀ i v, l[i]? = some v → G v = g.testBit (k + i)) : slS g l k = tot (stk (l.filter G)) := by
  induction l generalizing k with
  | nil => rfl
  | cons v l ih =>
    have h0 := h 0 v rfl
    rw [Nat.add_zero] at h0
    have h1 := ih (k + 1) fun i u hu => by rw [h (i + 1) u (by simpa using hu)]; congr 1; omega
    unfold slS
    rw [h1]
    by_cases e : g.testBit k = true
    · rw [if_pos e, List.filter_cons_of_pos (by rw [h0]; exact e)]; rfl
    · rw [if_neg e, List.filter_cons_of_neg (by rw [h0]; exact e), Nat.zero_add]
theorem evB_grp {g : Nat} {c : Int} (G : Vr → Bool) (l : List Vr) (k : Nat) (h : ∀ i v, l[i]? = some v → G v = g.testBit (k + i)) : evB g c l k = true ↔ ∀ v ∈ l, G v = true → c ∈ v.ps := by
  induction l generalizing k with
  | nil => simp [evB]
  | cons v l ih =>
    have h0 := h 0 v rfl
    rw [Nat.add_zero] at h0
    have h1 := ih (k + 1) fun i u hu => by rw [h (i + 1) u (by simpa using hu)]; congr 1; omega
    unfold evB
    rw [Bool.and_eq_true, h1, ← h0]
    constructor
    · rintro ⟨h2, h3⟩ u hu hg
      rcases List.mem_cons.1 hu with rfl | hu
      · simpa [hg] using h2
      · exact h3 u hu hg
    · intro h2
      refine ⟨?_, fun u hu => h2 u (List.mem_cons_of_mem _ hu)⟩
      cases hg : G v with
      | false => rfl
      | true => simpa using h2 v List.mem_cons_self hg
theorem smB_grp {g : Nat} {c : Int} (G : Vr → Bool) (l : List Vr) (k : Nat) (h : ∀ i v, l[i]? = some v → G v = g.testBit (k + i)) : smB g c l k = true ↔ ∃ v ∈ l, G v = true ∧ c ∈ v.ps := by
  induction l generalizing k with
  | nil => simp [smB]
  | cons v l ih =>
    have h0 := h 0 v rfl
    rw [Nat.add_zero] at h0
    have h1 := ih (k + 1) fun i u hu => by rw [h (i + 1) u (by simpa using hu)]; congr 1; omega
    unfold smB
    rw [Bool.or_eq_true, h1, ← h0, Bool.and_eq_true, decide_eq_true_iff]
    constructor
    · rintro (⟨h2, h3⟩ | ⟨u, hu, h2, h3⟩)
      · exact ⟨v, List.mem_cons_self, h2, h3⟩
      · exact ⟨u, List.mem_cons_of_mem _ hu, h2, h3⟩
    · rintro ⟨u, hu, h2, h3⟩
      rcases List.mem_cons.1 hu with rfl | hu
      · exact .inl ⟨h2, h3⟩
      · exact .inr ⟨u, hu, h2, h3⟩
theorem grp_bit (g i : Nat) (hg : g < 9223372036854775808) : (bits BinOp.and IntKind.i64 ((g : Int) / 2 ^ i) 1 == 1) = g.testBit i := by
  have e : (g : Int) / 2 ^ i = ((g / 2 ^ i : Nat) : Int) := by rw [Int.natCast_ediv]; congr 1
  have hd : g / 2 ^ i < 9223372036854775808 := Nat.lt_of_le_of_lt (Nat.div_le_self _ _) hg
  rw [e, Go.Proofs.and_one _ hd, Nat.testBit_eq_decide_div_mod_eq, Bool.eq_iff_iff, beq_iff_eq, decide_eq_true_iff]
  omega
theorem tot_take (l : List Vr) (i : Nat) : tot (stk (l.take i)) ≤ tot (stk l) := by
  conv => rhs; rw [← List.take_append_drop i l]
  rw [stk, stk, List.map_append, tot_append]; omega
theorem bit_some {g n : Nat} (h0 : 0 < g) (hn : g < 2 ^ n) : ∃ i, i < n ∧ g.testBit i = true := by
  obtain ⟨i, hi⟩ := Nat.exists_testBit_of_ne_zero (show g ≠ 0 by omega)
  refine ⟨i, ?_, hi⟩
  rcases Nat.lt_or_ge i n with h | h
  · exact h
  · rw [Nat.testBit_lt_two_pow (Nat.lt_of_lt_of_le hn (Nat.pow_le_pow_right (by omega) h))] at hi
    cases hi
end Go.Proofs.YtehekjlakegkpaaGreat
end
section
namespace Go.Proofs.YtehekjlakegkpaaGreat
open Go.RowKit
set_option linter.unusedVariables false

set_option maxRecDepth 100000 in
set_option maxHeartbeats 12800000 in
theorem fair14_any (s : Sn) (most : Nat) (MA : Option Addr) (mn mc : Nat) (ms : List Int) (w : World) (h : s.In w) (hm : Ri w MA mn mc ms) (hfd : Fd s.vs s.cs) (h10 : s.vs.length ≤ 10) (hmost : most ≤ 8)
    (hF : ∀ g r, 0 < g → g < 2 ^ (stV s.vs).length → mbN g s.cs (stV s.vs) ms < r → r ≤ cmN g s.cs (stV s.vs) → r ≤ most → slS g (stV s.vs) 0 * most < tot (stk s.vs) * r) :
    Calls Tryz.prog 21 #[s.val, .int .i64 (most : Int), .slice MA mn mc] w (OutF w true) := by
  obtain ⟨A, n, c, B, m, d, vs, cs⟩ := s
  have HIN := Lib.hid h
  have HV := Lib.hid h.1
  have HC := Lib.hid h.2
  have HM := Lib.hid hm
  have hb1 : Below w.heap.size w (w.alloc (.cells #[.slice A n c, .slice B m d] 25)) := (Below.refl _ _).alloc (Nat.le_refl _) _
  have hk1 := KB.new w 25 #[.slice A n c, .slice B m d]
  have HB1 := Lib.hid hb1
  have HK1 := Lib.hid hk1
  have HTO := Lib.hid (fun W g => total10_any ⟨A, n, c, B, m, d, vs, cs⟩ W g hfd)
  unfold Sn.val at HTO ⊢
  dsimp only at HV HC HTO hfd h10 hF ⊢
  have HL := Lib.hid HV.out.len
  have HLC := Lib.hid HC.out.len
  have hcap := HV.out.cap
  have hmax := HV.out.max
  have hcap2 := HC.out.cap
  have hmax2 := HC.out.max
  have hn10 : n ≤ 10 := by have := HL.out; omega
  have hm32 : m ≤ 32 := by have := hfd.2.1.1; have := HLC.out; omega
  have HFF := Lib.hid hF
  have hT := hfd.2.2.2.1
  clear h hm hb1 hk1 hF h10
  go_enter Tryz.func21, Tryz.ntmps21
  go_upto_region 1 with (fail)
  generalize (w.alloc (.cells #[.slice A n c, .slice B m d] 25)) = w1 at *
  have x0 := HK1.out.cell 0
  have x1 := HK1.out.cell 1
  simp at x0 x1
  go_wp2_with fail
  clear x0 x1
  go_loopg [7, 28] n (fun g9 rv tv wr => ∃ (k : Nat) (SA : Option Addr) (sc : Nat), g9 = n - k ∧ k ≤ n ∧ tv = .int .i64 (k : Int) ∧ rv = .slice SA (stV (vs.take k)).length sc ∧ wr.ownsRow (w.heap.size + 1) 43 3 (.slice SA (stV (vs.take k)).length sc) (stV (vs.take k)).length (vrC (stV (vs.take k))) ∧ KB wr w.heap.size 25 #[.slice A n c, .slice B m d] ∧ Below w.heap.size w wr)
  case atStart => exact ⟨0, none, 0, by omega, by omega, rfl, rfl, World.ownsRow_nil _ _ _ _, HK1.out, HB1.out⟩
  case round =>
    obtain ⟨k, SA, sc, hg9, hk, rfl, rfl, hown, hkb, hbw⟩ := hrel
    clear HK1 HB1
    have HO := Lib.hid hown
    have HKB := Lib.hid hkb
    have HBW := Lib.hid hbw
    have x0 := hkb.cell 0
    have x1 := hkb.cell 1
    simp at x0 x1
    have hgl := hkb.lt
    clear hown hkb
    by_cases hlt : k < n
    · obtain ⟨b, o, v, rfl, hbb, hve, ok, ri, c0, c1, c2⟩ := HV.out.at_ hlt
      have d0 := (hbw.cell (p := ⟨b, o + k * 3, none⟩) hbb).trans c0
      have d1 := (hbw.cell (p := ⟨b, o + k * 3 + 1, none⟩) hbb).trans c1
      have d2 := (hbw.cell (p := ⟨b, o + k * 3 + 2, none⟩) hbb).trans c2
      have hsk := stV_take hve
      have hki : (k : Int) < (n : Int) := by omega
      have hlk : (stV (vs.take k)).length ≤ k := by have := stV_len (vs.take k); rw [List.length_take] at this; omega
      clear c0 c1 c2 ok ri hve hbw
      obtain ⟨vi, vst, va, vn, vc, vp⟩ := v
      dsimp only at d0 d1 d2 hsk
      by_cases h0 : 0 < vst
      · have h0i : (0 : Int) < (vst : Int) := by omega
        rw [if_pos h0] at hsk
        have HSK := Lib.hid hsk
        generalize stV (vs.take k) = L at *
        have hA5 : Below wr.heap.size wr (wr.alloc (.cells #[.int .i64 vi, .int .u64 (vst : Int), .slice va vn vc] 43)) := (Below.refl _ _).alloc (Nat.le_refl _) _
        have HSR := Lib.hid (Sr.new (sz := 3) wr 43 #[.int .i64 vi, .int .u64 (vst : Int), .slice va vn vc] rfl)
        have HO5 := Lib.hid (own_below HO.out hA5 (fun g e => (HO.out.lt _ e).2))
        have HB5 := Lib.hid (HBW.out.trans (hA5.mono HBW.out.size))
        have HK5 := Lib.hid (HKB.out.below hA5 hgl)
        have hs5 := HK5.out.lt
        clear hA5 hsk
        go_wp2_with (at_builtin; (refine wpList_appT 3 40 _ 43 rfl (.tmp 38) (.tmp 44) 22 rfl (w.heap.size + 1) Tryz.underlying22 vrInfo rfl (by decide) (.slice SA L.length sc) ⟨wr.heap.size, 0, none⟩ L.length 1 (vrC L) [.int .i64 vi, .int .u64 (vst : Int), .slice va vn vc] (by simp [Act.eval]) (by simp [Act.eval]) HO5.out HSR.out (by simp [Value.oneCell']) (by unfold maxLen; omega) (by omega) hs5 ?_); intro A1 c1 w11 o1 t1 h5)
        have hbF : Below w.heap.size w w11 := HB5.out.trans (t1.below HB5.out.size (fun y hy => by have := (HO5.out.lt _ hy).1; omega))
        have hkF := HK5.out.turns t1 (fun e => by have := (HO5.out.lt _ e).1; omega)
        have HN := Lib.hid (And.intro o1 (And.intro hkF hbF))
        clear o1 t1 h5 hbF hkF d0 d1 d2 x0 x1
        go_roundg (n - (k + 1))
        case measure => omega
        case rel => exact ⟨k + 1, A1, c1, rfl, by omega, by go_num, by rw [HSK.out, List.length_append]; rfl, by rw [HSK.out, List.length_append, vrC_append]; exact HN.out.1, HN.out.2.1, HN.out.2.2⟩
      · have h0i : ¬ (0 : Int) < (vst : Int) := by omega
        rw [if_neg h0, List.append_nil] at hsk
        have HSK := Lib.hid hsk
        clear hsk
        go_wp2
        go_roundg (n - (k + 1))
        case measure => omega
        case rel => exact ⟨k + 1, SA, sc, rfl, by omega, by go_num, by rw [HSK.out], by rw [HSK.out]; exact HO.out, HKB.out, HBW.out⟩
    · obtain rfl : k = n := by omega
      have htk : vs.take k = vs := List.take_of_length_le (by rw [HL.out]; exact Nat.le_refl _)
      rw [htk] at HO
      rw [htk]
      have hll : (stV vs).length ≤ 10 := by have := stV_len vs; have := HL.out; omega
      have hoc := own_caps HO.out
      have hLR : Rv wr SA (stV vs).length sc (stV vs) := rv_of_own HO.out rfl (fun v hv => by
        obtain ⟨ok, ri⟩ := HV.out.mem (List.mem_filter.1 hv).1
        exact ⟨ok, ri.below hbw (Nat.le_refl _)⟩)
      have HLR := Lib.hid hLR
      clear hLR
      have HSTV := Lib.hid (And.intro (stV_tot vs) trivial)
      generalize hLS : stV vs = ls at *
      clear hLS hbw
      go_wp2_with fail
      refine (HTO.out wr (HIN.out.below HBW.out (Nat.le_refl _))).mono ?_
      rintro e w2 ⟨rfl, hb2⟩
      generalize hTT : tot (stk vs) = T at *
      go_wp2_with fail
      refine (rof_any T _ hT).mono ?_
      rintro e w3 ⟨A1, n1, c1, rfl, hN1, hb3⟩
      have HB3 := Lib.hid (hb2.trans (hb3.mono hb2.size))
      have HTN := Lib.hid hN1
      clear hb2 hb3 hN1 x0 x1
      obtain ⟨P, hPP⟩ : ∃ P, 2 ^ ls.length = P := ⟨_, rfl⟩
      have hlen2 : P ≤ 1024 := by rw [← hPP]; exact Nat.pow_le_pow_right (by omega) hll
      have hP1 : 1 ≤ P := by rw [← hPP]; exact Nat.one_le_two_pow
      have hPi : (2 : Int) ^ ls.length = (P : Int) := by rw [← hPP]; exact (Int.natCast_pow 2 ls.length).symm
      have hPw : RowKit.wrap64 ((2 : Int) ^ ls.length) = (P : Int) := by rw [hPi]; exact IntWalk.wrap64_in _ (by omega)
      have HPW := Lib.hid hPw
      rw [hPP] at HFF
      clear hPi hPw hPP
      generalize wr = w0 at *
      go_wp2_with fail
      go_loopw [10] (fun tv wr => ∃ (g : Nat), 0 < g ∧ g ≤ P ∧ tv = .int .i64 (g : Int) ∧ Below w3.heap.size w3 wr) (fun tv _ => P - (intOf tv).toNat)
      case atStart => exact ⟨1, by omega, hP1, rfl, Below.refl _ _⟩
      case round =>
        obtain ⟨g, hg0, hgn, rfl, hbg⟩ := hrel
        have HBG := Lib.hid hbg
        have HR3 := Lib.hid (show Below w0.heap.size w0 wr from HB3.out.trans (hbg.mono HB3.out.size))
        have HKG := Lib.hid (HKB.out.below HR3.out hgl)
        have HWG := Lib.hid (HBW.out.trans (HR3.out.mono HBW.out.size))
        clear hbg
        by_cases hglt : g < P
        · have hgi : (g : Int) < RowKit.wrap64 ((2 : Int) ^ ls.length) := by rw [HPW.out]; omega
          have HBIT := Lib.hid (fun i => grp_bit g i (by omega))
          go_wp2_with fail
          clear hgi
          go_loopg [11, 60] ls.length (fun g9 rv tv wz => ∃ (i N : Nat), g9 = ls.length - i ∧ i ≤ ls.length ∧ tv = .int .i64 (i : Int) ∧ rv = .int .u64 (N : Int) ∧ N = slS g (ls.take i) 0 ∧ wz = wr)
          case atStart => exact ⟨0, 0, by omega, by omega, rfl, rfl, rfl, rfl⟩
          case round =>
            obtain ⟨i, N, hg9, hi, rfl, rfl, hN, rfl⟩ := hrel
            have HN := Lib.hid hN
            clear hN
            by_cases hlt3 : i < ls.length
            · obtain ⟨b, o, v, e, hbb, hve, ok, ri, c0, c1, c2⟩ := HLR.out.at_ hlt3
              obtain rfl := e
              have d1 := (HR3.out.cell (p := ⟨b, o + i * 3 + 1, none⟩) hbb).trans c1
              have hst := slS_take (g := g) hve
              have hub := Nat.le_trans (slS_le g (ls.take (i + 1)) 0) (tot_take ls (i + 1))
              rw [hst, ← HN.out, HSTV.out.1] at hub
              have hii : (i : Int) < (ls.length : Int) := by omega
              have hbit := HBIT.out i
              rw [← HN.out] at hst
              have HST := Lib.hid hst
              generalize g.testBit i = bt at *
              generalize v.st = q at *
              clear c0 c1 c2 ok ri hve hst
              cases bt with
              | true =>
                rw [if_pos rfl] at HST hub
                have hw : IntKind.u64.wrap ((N : Int) + (q : Int)) = (N : Int) + (q : Int) := by rw [wrap_u]; omega
                go_wp2
                go_roundg (ls.length - (i + 1))
                case measure => omega
                case rel => exact ⟨i + 1, N + q, rfl, by omega, by go_num, by go_num, by rw [HST.out], rfl⟩
              | false =>
                rw [if_neg (by simp), Nat.add_zero] at HST
                go_wp2
                go_roundg (ls.length - (i + 1))
                case measure => omega
                case rel => exact ⟨i + 1, N, rfl, by omega, by go_num, rfl, by rw [HST.out]; rfl, rfl⟩
            · obtain rfl : i = ls.length := by omega
              rw [List.take_length] at HN
              have x0 := HKG.out.cell 0
              have x1 := HKG.out.cell 1
              simp at x0 x1
              have hNT : N ≤ T := by rw [HN.out, ← HSTV.out.1]; exact slS_le g ls 0
              go_wp2_with fail
              clear x0 x1
              go_loopg [12, 13, 80] m (fun g9 cv mv tv wz => ∃ (j CN MN : Nat), g9 = m - j ∧ j ≤ m ∧ tv = .int .i64 (j : Int) ∧ cv = .int .i64 (CN : Int) ∧ mv = .int .i64 (MN : Int) ∧ CN = ((cs.take j).filter fun c => evB g c ls 0).length ∧ MN = ((cs.take j).filter fun c => smB g c ls 0 && decide (c ∈ ms)).length ∧ Below wr.heap.size wr wz)
              case atStart => exact ⟨0, 0, 0, by omega, by omega, rfl, rfl, rfl, rfl, rfl, Below.refl _ _⟩
              case round =>
                obtain ⟨j, CN, MN, hg9, hj, rfl, rfl, rfl, hC, hMM, hbz⟩ := hrel
                have HCM := Lib.hid (And.intro hC hMM)
                have HBZ := Lib.hid hbz
                have hCN : CN ≤ 32 := by rw [hC]; exact Nat.le_trans (List.length_filter_le _ _) (by rw [List.length_take]; omega)
                have hMN : MN ≤ 32 := by rw [hMM]; exact Nat.le_trans (List.length_filter_le _ _) (by rw [List.length_take]; omega)
                have HR4 := Lib.hid (HR3.out.trans (hbz.mono HR3.out.size))
                have HKZ := Lib.hid (HKB.out.below HR4.out hgl)
                have HWZ := Lib.hid (HBW.out.trans (HR4.out.mono HBW.out.size))
                clear hC hMM hbz HKG
                by_cases hlt4 : j < m
                · obtain ⟨b3, o3, rfl, hb3', hc3⟩ := HC.out.at_ (by omega)
                  have e0 := hc3 j hlt4
                  have hjl : j < cs.length := by rw [HLC.out]; exact hlt4
                  have hF1 := filt_take (p := fun c => evB g c ls 0) hjl
                  have hF2 := filt_take (p := fun c => smB g c ls 0 && decide (c ∈ ms)) hjl
                  have hHm := fun W' (hb' : Below w.heap.size w W') => rhas_any MA mn mc ms (zl cs j) W' (HM.out.below hb' (Nat.le_refl _))
                  generalize zl cs j = x at *
                  have HF12 := Lib.hid (And.intro hF1 hF2)
                  have HHM := Lib.hid hHm
                  have hji : (j : Int) < (m : Int) := by omega
                  have x0 := HKZ.out.cell 0
                  have x1 := HKZ.out.cell 1
                  simp at x0 x1
                  clear hF1 hF2 hHm hc3
                  go_wp2_with fail
                  clear x0 x1
                  go_loopg [16, 17, 85] ls.length (fun g9 ev sv tv wq => ∃ (i : Nat) (eb sb : Bool), g9 = ls.length - i ∧ i ≤ ls.length ∧ tv = .int .i64 (i : Int) ∧ ev = .bool eb ∧ sv = .bool sb ∧ eb = evB g x (ls.take i) 0 ∧ sb = smB g x (ls.take i) 0 ∧ Below wr.heap.size wr wq)
                  case atStart => exact ⟨0, true, false, by omega, by omega, rfl, rfl, rfl, rfl, rfl, Below.refl _ _⟩
                  case round =>
                    obtain ⟨i, eb, sb, hg9, hi, rfl, rfl, rfl, heb, hsb, hbq⟩ := hrel
                    have HEB := Lib.hid (And.intro heb hsb)
                    have HBQ := Lib.hid hbq
                    have HR5 := Lib.hid (HR4.out.trans (hbq.mono HR4.out.size))
                    have HKQ := Lib.hid (HKB.out.below HR5.out hgl)
                    have HWQ := Lib.hid (HBW.out.trans (HR5.out.mono HBW.out.size))
                    have e1 := (HWQ.out.cell (p := ⟨b3, o3 + j, none⟩) hb3').trans e0
                    have x0 := HKQ.out.cell 0
                    have x1 := HKQ.out.cell 1
                    simp at x0 x1
                    clear heb hsb hbq
                    by_cases hlt5 : i < ls.length
                    · obtain ⟨b, o, v, e, hbb, hve, ok, ri, c0, c1, c2⟩ := HLR.out.at_ hlt5
                      obtain rfl := e
                      have d2 := (HR5.out.cell (p := ⟨b, o + i * 3 + 2, none⟩) hbb).trans c2
                      have hev := evB_take (g := g) (c := x) hve
                      have hsv := smB_take (g := g) (c := x) hve
                      have HHD := Lib.hid (rhas_any v.a v.n v.c v.ps x wr.drew (ri.below HR5.out.drew (Nat.le_refl _)))
                      have hii : (i : Int) < (ls.length : Int) := by omega
                      have hbit := HBIT.out i
                      rw [← HEB.out.1] at hev
                      rw [← HEB.out.2] at hsv
                      generalize g.testBit i = bt at *
                      generalize hpk : decide (x ∈ v.ps) = pk at *
                      have HV5 := Lib.hid (And.intro hev hsv)
                      clear c0 c1 c2 ok ri hve hev hsv hpk
                      obtain ⟨vi, vst, va, vn, vc, vp⟩ := v
                      dsimp only at d2 HHD
                      cases bt with
                      | false =>
                        go_wp2
                        go_roundg (ls.length - (i + 1))
                        case measure => omega
                        case rel => exact ⟨i + 1, eb, sb, rfl, by omega, by go_num, rfl, rfl, by rw [HV5.out.1]; simp, by rw [HV5.out.2]; simp, HBQ.out⟩
                      | true =>
                        have K0 := And.intro d2 (And.intro x1 e1)
                        go_upto_region 28 with (fail)
                        go_region_held3 (fun W' => W'.cell? ⟨b, o + i * 3 + 2, none⟩ = some (.slice va vn vc) ∧ W'.cell? ⟨w.heap.size, 1, none⟩ = some (.slice (some ⟨b3, o3, none⟩) m d) ∧ W'.cell? ⟨b3, o3 + j, none⟩ = some (.int .i64 x))
                          (first | exact K0)
                          (first | (go_at_call 27; go_loud (refine (show Calls Tryz.prog 27 #[.slice va vn vc, .int .i64 x] wr.drew (fun e w' => e = .returned (.bool pk) ∧ wr.drew = w') from HHD.out).mono ?_); go_loud (rintro e w5 ⟨rfl, rfl⟩)))
                        all_goals
                          clear K0 d2 e1 x0 x1
                          cases eb <;> cases sb <;> cases pk <;>
                            (go_wp2
                             go_roundg (ls.length - (i + 1))
                             case measure => omega
                             case rel => exact ⟨i + 1, _, _, rfl, by omega, by go_num, rfl, rfl, by rw [HV5.out.1]; rfl, by rw [HV5.out.2]; rfl, HBQ.out.drew⟩)
                    · obtain rfl : i = ls.length := by omega
                      rw [List.take_length] at HEB
                      have hC1 : ((cs.take (j + 1)).filter fun c => evB g c ls 0).length = CN + if eb = true then 1 else 0 := by rw [HF12.out.1, ← HCM.out.1, HEB.out.1]
                      have hC2 : ((cs.take (j + 1)).filter fun c => smB g c ls 0 && decide (c ∈ ms)).length = MN + if (sb && decide (x ∈ ms)) = true then 1 else 0 := by rw [HF12.out.2, ← HCM.out.2, HEB.out.2]
                      have hHw := HHM.out wr HWQ.out
                      generalize hqm : decide (x ∈ ms) = q at *
                      have HC1 := Lib.hid hC1
                      have HC2 := Lib.hid hC2
                      have HBF := Lib.hid (HBZ.out.trans (HBQ.out.mono HBZ.out.size))
                      clear hC1 hC2 hqm
                      cases eb with
                      | true =>
                        rw [if_pos rfl] at HC1
                        cases sb with
                        | true =>
                          go_wp2_with fail
                          refine hHw.mono ?_
                          rintro e w5 ⟨rfl, rfl⟩
                          cases q with
                          | true =>
                            rw [if_pos (show (true && true) = true from rfl)] at HC2
                            go_wp2
                            go_roundg (m - (j + 1))
                            case measure => omega
                            case rel => exact ⟨j + 1, CN + 1, MN + 1, rfl, by omega, by go_num, by go_num, by go_num, HC1.out.symm, HC2.out.symm, HBF.out⟩
                          | false =>
                            rw [if_neg (by simp), Nat.add_zero] at HC2
                            go_wp2
                            go_roundg (m - (j + 1))
                            case measure => omega
                            case rel => exact ⟨j + 1, CN + 1, MN, rfl, by omega, by go_num, by go_num, by go_num, HC1.out.symm, HC2.out.symm, HBF.out⟩
                        | false =>
                          rw [if_neg (by simp), Nat.add_zero] at HC2
                          go_wp2
                          go_roundg (m - (j + 1))
                          case measure => omega
                          case rel => exact ⟨j + 1, CN + 1, MN, rfl, by omega, by go_num, by go_num, by go_num, HC1.out.symm, HC2.out.symm, HBF.out⟩
                      | false =>
                        rw [if_neg (by simp), Nat.add_zero] at HC1
                        cases sb with
                        | true =>
                          go_wp2_with fail
                          refine hHw.mono ?_
                          rintro e w5 ⟨rfl, rfl⟩
                          cases q with
                          | true =>
                            rw [if_pos (show (true && true) = true from rfl)] at HC2
                            go_wp2
                            go_roundg (m - (j + 1))
                            case measure => omega
                            case rel => exact ⟨j + 1, CN, MN + 1, rfl, by omega, by go_num, by go_num, by go_num, HC1.out.symm, HC2.out.symm, HBF.out⟩
                          | false =>
                            rw [if_neg (by simp), Nat.add_zero] at HC2
                            go_wp2
                            go_roundg (m - (j + 1))
                            case measure => omega
                            case rel => exact ⟨j + 1, CN, MN, rfl, by omega, by go_num, by go_num, by go_num, HC1.out.symm, HC2.out.symm, HBF.out⟩
                        | false =>
                          rw [if_neg (by simp), Nat.add_zero] at HC2
                          go_wp2
                          go_roundg (m - (j + 1))
                          case measure => omega
                          case rel => exact ⟨j + 1, CN, MN, rfl, by omega, by go_num, by go_num, by go_num, HC1.out.symm, HC2.out.symm, HBF.out⟩
                · obtain rfl : j = m := by omega
                  have htkc : cs.take j = cs := List.take_of_length_le (by rw [HLC.out]; exact Nat.le_refl _)
                  rw [htkc] at HCM
                  have hmn : min (CN : Int) (most : Int) = ((min CN most : Nat) : Int) := by omega
                  have HFG := Lib.hid (fun r (h1 : MN < r) (h2 : r ≤ min CN most) => HFF.out g r hg0 hglt (by show mbN g cs ls ms < r; unfold mbN; rw [← HCM.out.2]; exact h1) (by show r ≤ cmN g cs ls; unfold cmN; rw [← HCM.out.1]; omega) (by omega))
                  rw [← HN.out] at HFG
                  have hMx : min CN most ≤ 8 := by omega
                  generalize min CN most = Mx at *
                  have HNI := Lib.hid (fun W => rof_any N W (by omega))
                  have HMO := Lib.hid (fun W => rof_any most W (by omega))
                  have hwm : IntKind.u64.wrap (most : Int) = (most : Int) := by rw [wrap_u]; omega
                  go_wp2_with fail
                  go_loopw [20] (fun tv wq => ∃ (r : Nat), tv = .int .i64 (r : Int) ∧ MN < r ∧ r ≤ 33 ∧ Below wr.heap.size wr wq) (fun tv _ => 64 - (intOf tv).toNat)
                  case atStart => exact ⟨MN + 1, by go_num, by omega, by omega, Below.refl _ _⟩
                  case round =>
                    obtain ⟨r, rfl, hr1, hr2, hbq⟩ := hrel
                    have HBQ := Lib.hid hbq
                    clear hbq
                    by_cases hr : r ≤ Mx
                    · have hri : (r : Int) ≤ (Mx : Int) := by omega
                      have hlt7 := HFG.out r hr1 hr
                      have hwr : IntKind.u64.wrap (r : Int) = (r : Int) := by rw [wrap_u]; omega
                      have hTd := HTN.out.1.below (Below.refl _ _)
                      have HTR := Lib.hid (HTN.out.1.below (HBG.out.trans ((HBZ.out.trans (HBQ.out.mono HBZ.out.size)).mono HBG.out.size)))
                      clear hTd
                      go_wp2_with fail
                      refine (HNI.out _).mono ?_
                      rintro e w5 ⟨A5, n5, c5, rfl, h5, hb5⟩
                      go_wp2_with fail
                      refine (HMO.out _).mono ?_
                      rintro e w6 ⟨A6, n6, c6, rfl, h6, hb6⟩
                      have hX1 : N * most < pw 3 := by
                        have h1 : N * most ≤ 18446744073709551615 * 8 := Nat.mul_le_mul (by omega) (by omega)
                        have h2 : pw 3 = 79228162514264337593543950336 := by decide
                        omega
                      have hY1 : T * r < pw 3 := by
                        have h1 : T * r ≤ 18446744073709551615 * 33 := Nat.mul_le_mul (by omega) (by omega)
                        have h2 : pw 3 = 79228162514264337593543950336 := by decide
                        omega
                      have hlN := len64 (p := N) (by omega)
                      have hlM := len64 (p := most) (by omega)
                      have hlT := len64 (p := T) hT
                      have hlR := len64 (p := r) (by omega)
                      have hlX := len_digs_lt hX1
                      have hlY := len_digs_lt hY1
                      have hMul1 := rMul_yes A5 A6 n5 c5 n6 c6 (digs N) (digs most) w6 (h5.1.below hb6) h6.1 (fm_digs (by omega)) (fm_digs (by omega)) (by rw [val_digs, val_digs]; omega)
                      rw [val_digs, val_digs] at hMul1
                      have HB6 := Lib.hid (hb5.trans (hb6.mono hb5.size))
                      clear h5 h6 hb5 hb6
                      go_wp2_with fail
                      refine hMul1.mono ?_
                      rintro e w7 ⟨A7, n7, c7, rfl, h7, hb7⟩
                      have HB7 := Lib.hid (HB6.out.trans (hb7.mono HB6.out.size))
                      clear hMul1 hb7
                      go_wp2_with fail
                      refine (rof_any r _ (by omega)).mono ?_
                      rintro e w8 ⟨A8, n8, c8, rfl, h8, hb8⟩
                      have HB8 := Lib.hid (HB7.out.trans (hb8.mono HB7.out.size))
                      have h78 := h7.1.below hb8
                      have hMul2 := rMul_yes A1 A8 n1 c1 n8 c8 (digs T) (digs r) w8 (HTR.out.below HB8.out) h8.1 (fm_digs (by omega)) (fm_digs (by omega)) (by rw [val_digs, val_digs]; omega)
                      rw [val_digs, val_digs] at hMul2
                      clear h7 h8 hb8
                      go_wp2_with fail
                      refine hMul2.mono ?_
                      rintro e w9 ⟨A9, n9, c9, rfl, h9, hb9⟩
                      have HB9 := Lib.hid (HB8.out.trans (hb9.mono HB8.out.size))
                      have hCmp := rCmp_any A7 A9 n7 c7 n9 c9 (digs (N * most)) (digs (T * r)) w9 (h78.below hb9) h9.1
                      have hcv : cmpR (digs (N * most)) (digs (T * r)) = -1 := by
                        unfold cmpR
                        rw [fm_digs (by omega), fm_digs (by omega), val_digs, val_digs]
                        show cmpN _ _ = -1
                        unfold cmpN
                        rw [if_pos hlt7]
                      rw [hcv] at hCmp
                      clear hMul2 hb9 h9 h78 hcv
                      go_wp2_with fail
                      refine hCmp.mono ?_
                      rintro e w10 ⟨rfl, q, rfl⟩
                      have HB10 := Lib.hid (HBQ.out.trans ((HB9.out.trans ((belN w9 q).mono HB9.out.size)).mono HBQ.out.size))
                      clear hCmp
                      go_wp2
                      go_roundw
                      case rel => exact ⟨r + 1, by go_num, by omega, by omega, HB10.out⟩
                      case measure => simp [intOf]; omega
                    · have hri : ¬ (r : Int) ≤ (Mx : Int) := by omega
                      go_wp2
                      go_roundw
                      case rel => exact ⟨g + 1, by omega, by omega, by go_num, HBG.out.trans ((HBZ.out.trans (HBQ.out.mono HBZ.out.size)).mono HBG.out.size)⟩
                      case measure => simp [intOf]; omega
        · have hgi : ¬ (g : Int) < RowKit.wrap64 ((2 : Int) ^ ls.length) := by rw [HPW.out]; omega
          go_wp2
          go_ret
          exact ⟨rfl, HWG.out⟩
end Go.Proofs.YtehekjlakegkpaaGreat
end
section
namespace Go.Proofs.YtehekjlakegkpaaGreat
open Go.RowKit
set_option linter.unusedVariables false

theorem nodup_sub_len {l k : List Int} (h : l.Nodup) (hs : ∀ x ∈ l, x ∈ k) : l.length ≤ k.length := by
  induction l generalizing k with
  | nil => simp
  | cons x l ih =>
    rw [List.nodup_cons] at h
    have hx := hs x List.mem_cons_self
    have h1 := ih (k := k.erase x) h.2 fun y hy => by
      have hne : y ≠ x := fun e => h.1 (e ▸ hy)
      exact (List.mem_erase_of_ne hne).2 (hs y (List.mem_cons_of_mem _ hy))
    have h2 := List.length_erase_of_mem hx
    have h3 := List.length_pos_of_mem hx
    rw [List.length_cons]
    omega
theorem apv_iff (v : Vr) (c : Int) : apv v c = true ↔ 0 < v.st ∧ c ∈ v.ps := by
  unfold apv; rw [decide_eq_true_iff]
theorem fair_ok {vs : List Vr} {cs : List Int} {most : Nat} {es : List Se} (hfd : Fd vs cs) (hmost : most ≤ 8) (he : es.map Se.out = ((rc0 vs (supR vs cs)).run (min most (supR vs cs).length)).es) (g r : Nat) (h0 : 0 < g) (hg : g < 2 ^ (stV vs).length)
    (h1 : mbN g cs (stV vs) (es.map Se.cd) < r) (h2 : r ≤ cmN g cs (stV vs)) (h3 : r ≤ most) : slS g (stV vs) 0 * most < tot (stk vs) * r := by
  refine Nat.lt_of_not_le fun hdue => ?_
  obtain ⟨⟨D, hok⟩, hlen⟩ := esOk_of (k := min most (supR vs cs).length) hfd (by omega) (Nat.min_le_right _ _)
  rw [← he] at hok
  have hmem : ∀ v ∈ stV vs, v ∈ vs ∧ 0 < v.st := fun v hv => by
    obtain ⟨a, b⟩ := List.mem_filter.1 hv
    exact ⟨a, of_decide_eq_true b⟩
  have hnd : (idl (stV vs)).Nodup := by
    have h := hfd.2.2.2.2.2
    unfold idl at h ⊢
    exact List.Nodup.sublist (List.Sublist.map _ List.filter_sublist) h
  have hG : ∀ i v, (stV vs)[i]? = some v → grp g (stV vs) v = g.testBit (0 + i) := fun i v hv => by rw [Nat.zero_add]; exact grp_at hnd hv
  have hGin : ∀ v ∈ vs, grp g (stV vs) v = true → v ∈ stV vs := fun v hv hb => by
    unfold grp at hb
    rw [List.any_eq_true] at hb
    obtain ⟨i, hi, hb⟩ := hb
    rw [Bool.and_eq_true, decide_eq_true_iff] at hb
    have hil := List.mem_range.1 hi
    rw [List.getElem?_eq_getElem hil] at hb
    have hid : (stV vs)[i].id = v.id := by simpa using hb.2
    have hm := List.getElem_mem hil
    rw [← fd_one hfd (hmem _ hm).1 hv hid]
    exact hm
  obtain ⟨i0, hi0, hb0⟩ := bit_some h0 hg
  have hv0 : (stV vs)[i0]? = some (stV vs)[i0] := List.getElem?_eq_getElem hi0
  have hv0m := List.getElem_mem hi0
  have hG0 : grp g (stV vs) (stV vs)[i0] = true := by rw [hG i0 _ hv0, Nat.zero_add]; exact hb0
  have hsum : slS g (stV vs) 0 = tot (stk (vs.filter (grp g (stV vs)))) := by
    rw [slS_grp (grp g (stV vs)) (stV vs) 0 hG]
    congr 2
    unfold stV
    rw [List.filter_filter]
    refine List.filter_congr fun v hv => ?_
    cases hc : grp g (vs.filter fun v => decide (0 < v.st)) v with
    | false => simp
    | true =>
      have := (hmem v (hGin v hv hc)).2
      simp [this]
  have hev : ∀ c, evB g c (stV vs) 0 = true → ∀ v ∈ vs, grp g (stV vs) v = true → apv v c = true := fun c hc v hv hb => by
    have h5 := (evB_grp (grp g (stV vs)) (stV vs) 0 hG).1 hc v (hGin v hv hb) hb
    exact (apv_iff v c).2 ⟨(hmem v (hGin v hv hb)).2, h5⟩
  have hmsfst : es.map Se.cd = (es.map Se.out).map Prod.fst := by rw [List.map_map]; rfl
  by_cases hall : ∀ c ∈ cs, evB g c (stV vs) 0 = true → c ∈ es.map Se.cd
  · have : cmN g cs (stV vs) ≤ mbN g cs (stV vs) (es.map Se.cd) := by
      unfold cmN mbN
      rw [← List.countP_eq_length_filter, ← List.countP_eq_length_filter]
      refine List.countP_mono_left fun c hc hb => ?_
      rw [Bool.and_eq_true, decide_eq_true_iff]
      refine ⟨(smB_grp (grp g (stV vs)) (stV vs) 0 hG).2 ⟨_, hv0m, hG0, ?_⟩, hall c hc hb⟩
      exact (evB_grp (grp g (stV vs)) (stV vs) 0 hG).1 hb _ hv0m hG0
    omega
  · obtain ⟨c, hc⟩ := Classical.not_forall.1 hall
    obtain ⟨hcc, hc⟩ := Classical.not_imp.1 hc
    obtain ⟨hcev, hcn⟩ := Classical.not_imp.1 hc
    refine fair_main vs (supR vs cs) (supR_nodup hfd) (supR_some hfd) most r h3 (grp g (stV vs)) c ((supR_mem hfd).2 ⟨hcc, _, (hmem _ hv0m).1, hev c hcev _ (hmem _ hv0m).1 hG0⟩) (by rw [← he, ← hmsfst]; exact hcn) (hev c hcev) ⟨_, (hmem _ hv0m).1, hG0⟩ ?_ ?_
    · rw [← he]
      refine Nat.lt_of_le_of_lt ?_ h1
      have e1 : ((es.map Se.out).filter fun e => vs.any fun v => grp g (stV vs) v && apv v e.1).length = (((es.map Se.out).map Prod.fst).filter fun c => vs.any fun v => grp g (stV vs) v && apv v c).length := by
        have h := congrArg List.length (List.filter_map (f := (Prod.fst : Int × Rat → Int)) (p := fun c => vs.any fun v => grp g (stV vs) v && apv v c) (l := es.map Se.out))
        rw [List.length_map] at h
        exact h.symm
      rw [e1]
      unfold mbN
      refine nodup_sub_len (hok.nd.filter _) fun x hx => ?_
      obtain ⟨hx1, hx2⟩ := List.mem_filter.1 hx
      obtain ⟨e, hem, rfl⟩ := List.mem_map.1 hx1
      obtain ⟨v, hv, hb⟩ := List.any_eq_true.1 hx2
      rw [Bool.and_eq_true] at hb
      refine List.mem_filter.2 ⟨((supR_mem hfd).1 (hok.mem e hem)).1, ?_⟩
      rw [Bool.and_eq_true, decide_eq_true_iff]
      exact ⟨(smB_grp (grp g (stV vs)) (stV vs) 0 hG).2 ⟨v, hGin v hv hb.1, hb.1, ((apv_iff v _).1 hb.2).2⟩, by rw [hmsfst]; exact hx1⟩
    · unfold stR
      rw [← tot_sum, ← tot_sum]
      rw [hsum] at hdue
      have h4 : ((tot (stk vs) * r : Nat) : Rat) ≤ ((tot (stk (vs.filter (grp g (stV vs)))) * most : Nat) : Rat) := by exact_mod_cast hdue
      rw [Rat.natCast_mul, Rat.natCast_mul] at h4
      exact h4
end Go.Proofs.YtehekjlakegkpaaGreat
end
section
namespace Go.Proofs.YtehekjlakegkpaaGreat
open Go.RowKit
set_option linter.unusedVariables false

theorem ri_of_own {w : World} {base n c : Nat} {A : Option Addr} {T : TypeId} {zs : List Int} (h : w.ownsRow base T 1 (.slice A n c) n (zs.map (Value.int .i64))) (hl : zs.length = n) (hb : ∀ z ∈ zs, -9223372036854775808 ≤ z ∧ z ≤ 9223372036854775807) : Ri w A n c zs := by
  have hcap := own_caps h
  refine ⟨hl, hcap.1, hcap.2, hb, fun h0 => ?_⟩
  obtain ⟨g, c', e, hbb, hg, hnc, hc, hi⟩ := ownK_at h h0
  injection e with e1 e2 e3
  refine ⟨g, 0, e1, hg, fun j hj => ?_⟩
  obtain ⟨g', c'', e', _, _, _, _, hi'⟩ := ownK_at h hj
  injection e' with e1' _ _
  rw [e1] at e1'
  injection e1' with e1'
  injection e1' with e1' _ _
  subst e1'
  have h1 := hi' 0 (by omega)
  rw [Nat.mul_one, Nat.add_zero] at h1
  rw [Nat.zero_add, h1, List.getElem?_map, List.getElem?_eq_getElem (by omega), zl_get zs j (by omega)]
  rfl
set_option maxRecDepth 100000 in
set_option maxHeartbeats 12800000 in
theorem pfair_walk (s : Sn) (p : Nat) (w : World) (h : s.In w) (hp : p < 256) : Calls Tryz.prog 4 #[s.val, .int .u8 (p : Int)] w (OutF w true) := by
  obtain ⟨A, n, c, B, m, d, vs, cs⟩ := s
  have HIN := Lib.hid h
  have HV := Lib.hid h.1
  have HC := Lib.hid h.2
  have hb1 : Below w.heap.size w (w.alloc (.cells #[.slice A n c, .slice B m d] 25)) := (Below.refl _ _).alloc (Nat.le_refl _) _
  have hk1 := KB.new w 25 #[.slice A n c, .slice B m d]
  have HB1 := Lib.hid hb1
  have HK1 := Lib.hid hk1
  have HSM := Lib.hid (fun W g => small_any ⟨A, n, c, B, m, d, vs, cs⟩ W g)
  have HFM := Lib.hid (fun W g => rsnap_any ⟨A, n, c, B, m, d, vs, cs⟩ W g)
  unfold Sn.val at HSM HFM ⊢
  dsimp only at HV HC HSM HFM ⊢
  have HL := Lib.hid HV.out.len
  have HLC := Lib.hid HC.out.len
  have hcap := HV.out.cap
  have hmax := HV.out.max
  have hcap2 := HC.out.cap
  have hmax2 := HC.out.max
  clear h hb1 hk1
  go_enter Tryz.func4, Tryz.ntmps4
  go_wp2_with fail
  refine (wakeP_any _).mono ?_
  rintro e w2 ⟨rfl, hb2⟩
  have HB2 := Lib.hid (HB1.out.trans (hb2.mono HB1.out.size))
  have HK2 := Lib.hid (HK1.out.below hb2 HK1.out.lt)
  have x0 := HK2.out.cell 0
  have x1 := HK2.out.cell 1
  simp at x0 x1
  clear hb2 HB1 HK1
  go_wp2_with fail
  refine (HSM.out w2 (HIN.out.below HB2.out (Nat.le_refl _))).mono ?_
  rintro e w3 ⟨r, rfl, hb3⟩
  have HB3 := Lib.hid (HB2.out.trans (hb3.mono HB2.out.size))
  have HK3 := Lib.hid (HK2.out.below hb3 HK2.out.lt)
  clear hb3 HB2 HK2 x0 x1 HSM
  cases r with
  | false =>
    go_wp2_with fail
    refine (wakeP_any _).mono ?_
    rintro e w4 ⟨rfl, hb4⟩
    go_wp2
    go_ret
    exact ⟨rfl, HB3.out.trans (hb4.mono HB3.out.size)⟩
  | true =>
  have x0 := HK3.out.cell 0
  have x1 := HK3.out.cell 1
  simp at x0 x1
  have hF := HFM.out w3 (HIN.out.below HB3.out (Nat.le_refl _))
  by_cases hfd : Fd vs cs
  case neg =>
    rw [decide_eq_false hfd] at hF
    go_wp2_with fail
    refine hF.mono ?_
    rintro e w4 ⟨rfl, hb4⟩
    have HB4 := Lib.hid (HB3.out.trans (hb4.mono HB3.out.size))
    go_wp2_with fail
    refine (wakeP_any _).mono ?_
    rintro e w5 ⟨rfl, hb5⟩
    go_wp2
    go_ret
    exact ⟨rfl, HB4.out.trans (hb5.mono HB4.out.size)⟩
  rw [decide_eq_true hfd] at hF
  by_cases h10 : (10 : Int) < (n : Int)
  · go_wp2_with fail
    refine hF.mono ?_
    rintro e w4 ⟨rfl, hb4⟩
    have HB4 := Lib.hid (HB3.out.trans (hb4.mono HB3.out.size))
    have HK4 := Lib.hid (HK3.out.below hb4 HK3.out.lt)
    clear x0 x1
    have x0 := HK4.out.cell 0
    have x1 := HK4.out.cell 1
    simp at x0 x1
    go_wp2_with fail
    refine (wakeP_any _).mono ?_
    rintro e w5 ⟨rfl, hb5⟩
    go_wp2
    go_ret
    exact ⟨rfl, HB4.out.trans (hb5.mono HB4.out.size)⟩
  go_wp2_with fail
  refine hF.mono ?_
  rintro e w4 ⟨rfl, hb4⟩
  have HB4 := Lib.hid (HB3.out.trans (hb4.mono HB3.out.size))
  have HK4 := Lib.hid (HK3.out.below hb4 HK3.out.lt)
  clear hb4 HB3 HK3 x0 x1 HFM hF
  have x0 := HK4.out.cell 0
  have x1 := HK4.out.cell 1
  simp at x0 x1
  have hn10 : n ≤ 10 := by omega
  have hk8 : p % 9 ≤ 8 := by omega
  have hEl := elect_ok ⟨A, n, c, B, m, d, vs, cs⟩ (p % 9) w4 (HIN.out.below HB4.out (Nat.le_refl _)) hfd hk8
  unfold Sn.val at hEl
  dsimp only at hEl
  rw [show ((p % 9 : Nat) : Int) = (p : Int) % 9 by omega] at hEl
  go_wp2_with fail
  refine hEl.mono ?_
  rintro e w5 ⟨EA, ec, es, SB, sd, ss, rfl, hown, hrx, heq, hAl, hSR, hb5⟩
  dsimp only at heq
  obtain ⟨⟨D, hok⟩, hlen⟩ := esOk_of (k := min (p % 9) (supR vs cs).length) hfd (by omega) (Nat.min_le_right _ _)
  rw [← heq] at hok hlen
  rw [List.length_map] at hlen
  have he8 : es.length ≤ 8 := by omega
  have HB5 := Lib.hid (HB4.out.trans (hb5.mono HB4.out.size))
  have HK5 := Lib.hid (HK4.out.below hb5 HK4.out.lt)
  have HES := Lib.hid (seIn_of hown hrx)
  have HFO := Lib.hid (fun g r h0 hg h1 h2 h3 => fair_ok hfd hk8 heq g r h0 hg h1 h2 h3)
  have hcd : ∀ z ∈ es.map Se.cd, -9223372036854775808 ≤ z ∧ z ≤ 9223372036854775807 := fun z hz => by
    obtain ⟨e, he, rfl⟩ := List.mem_map.1 hz
    have hc := ((supR_mem hfd).1 (hok.mem e.out (List.mem_map_of_mem he))).1
    obtain ⟨j, hj, hje⟩ := mem_zl.1 hc
    have h2 := hfd.2.1.ge j hj
    have h3 := hfd.2.1.le j hj
    rw [hje] at h2 h3
    have h4 : e.out.1 = e.cd := rfl
    omega
  have HCD := Lib.hid hcd
  have hec := own_caps hown
  clear hEl hown hrx heq hAl hSR hb5 hok hlen HB4 HK4 x0 x1 hcd
  go_wp2_with fail
  go_loopg [8, 40] es.length (fun g9 rv tv wr => ∃ (k : Nat) (SA : Option Addr) (sc : Nat), g9 = es.length - k ∧ k ≤ es.length ∧ tv = .int .i64 (k : Int) ∧ rv = .slice SA k sc ∧ wr.ownsRow w5.heap.size 3 1 (.slice SA k sc) k (((es.take k).map Se.cd).map (Value.int .i64)) ∧ Below w5.heap.size w5 wr)
  case atStart => exact ⟨0, none, 0, by omega, by omega, rfl, rfl, World.ownsRow_nil _ _ _ _, Below.refl _ _⟩
  case round =>
    obtain ⟨k, SA, sc, hg9, hk, rfl, rfl, hown, hbw⟩ := hrel
    have HO := Lib.hid hown
    have HBW := Lib.hid hbw
    clear hown
    by_cases hlt : k < es.length
    · obtain ⟨⟨ycd, yf, yx⟩, hy⟩ : ∃ y, es[k]? = some y := ⟨_, List.getElem?_eq_getElem hlt⟩
      obtain ⟨bE, rfl, hbE, z0, _, _⟩ := HES.out.at_ k _ hy
      dsimp only at z0
      have d0 := (hbw.cell (p := ⟨bE, k * 3, none⟩) hbE).trans z0
      have HTK := Lib.hid (show ((es.take (k + 1)).map Se.cd).map (Value.int .i64) = ((es.take k).map Se.cd).map (Value.int .i64) ++ [.int .i64 ycd] by rw [List.take_add_one, hy]; simp)
      have hki : (k : Int) < (es.length : Int) := by omega
      have hA5 : Below wr.heap.size wr (wr.alloc (.cells #[.int .i64 ycd] 3)) := (Below.refl _ _).alloc (Nat.le_refl _) _
      have HSR := Lib.hid (Sr.new (sz := 1) wr 3 #[.int .i64 ycd] rfl)
      have HO5 := Lib.hid (own_below HO.out hA5 (fun g e => (HO.out.lt _ e).2))
      have HB6 := Lib.hid (HBW.out.trans (hA5.mono HBW.out.size))
      have hs6 := HB6.out.size
      clear hA5 hbw z0 hy
      go_wp2_with (at_builtin; (refine wpList_appT 1 8 _ 3 rfl (.tmp 43) (.tmp 49) 23 rfl w5.heap.size Tryz.underlying23 infoI1 rfl (by decide) (.slice SA k sc) ⟨wr.heap.size, 0, none⟩ k 1 (((es.take k).map Se.cd).map (Value.int .i64)) [.int .i64 ycd] (by simp [Act.eval]) (by simp [Act.eval]) HO5.out HSR.out (by simp [Value.oneCell']) (by unfold maxLen; omega) (by omega) hs6 ?_); intro A1 c1 w11 o1 t1 h5)
      have HBF := Lib.hid (HB6.out.trans (t1.below HB6.out.size (fun y hy => (HO5.out.lt _ hy).1)))
      have HN := Lib.hid o1
      clear o1 t1 h5 d0
      go_roundg (es.length - (k + 1))
      case measure => omega
      case rel => exact ⟨k + 1, A1, c1, rfl, by omega, by go_num, rfl, by rw [HTK.out]; exact HN.out, HBF.out⟩
    · obtain rfl : k = es.length := by omega
      rw [List.take_length] at HO
      have hri := ri_of_own HO.out (List.length_map _) HCD.out
      have HB7 := Lib.hid (HB5.out.trans (hbw.mono HB5.out.size))
      have hk7 := HK5.out.below hbw HK5.out.lt
      have x0 := hk7.cell 0
      have x1 := hk7.cell 1
      simp at x0 x1
      have hFa := fair14_any ⟨A, n, c, B, m, d, vs, cs⟩ (p % 9) SA es.length sc (es.map Se.cd) wr (HIN.out.below HB7.out (Nat.le_refl _)) hri hfd (by have := HL.out; dsimp only; omega) hk8 HFO.out
      unfold Sn.val at hFa
      dsimp only at hFa
      rw [show ((p % 9 : Nat) : Int) = (p : Int) % 9 by omega] at hFa
      clear hri hk7 hbw
      go_wp2_with fail
      refine hFa.mono ?_
      rintro e w8 ⟨rfl, hb8⟩
      go_wp2
      go_ret
      exact ⟨rfl, HB7.out.trans (hb8.mono HB7.out.size)⟩
end Go.Proofs.YtehekjlakegkpaaGreat
end
section
namespace Go.Proofs.YtehekjlakegkpaaGreat.phragmenFair
open Go.ChangeShapes Go.WideShapes Go.ChangeAt Go.RowKit
open Go.ChangeMaps (open_string shut_string)
set_option linter.unusedVariables false

theorem own : ownKnob Tryz.prog.godebug = none := by kernel_rfl
theorem laidOut : laidOutB Tryz.prog = true := by kernel_rfl

set_option maxRecDepth 100000 in
theorem lifted (os : Os) (started : os.Started) (H : Type) (enc : TypeId × Value → H) :
    ReturnsInHanded {} Tryz.checked os 4 .any (Rows.phragmenFairSpec.pre6 enc Tryz.prog Tryz.f4 Rows.phragmenFairRow.domain false) (Rows.phragmenFairSpec.post enc Tryz.prog Tryz.f4 false true false false) := by
  refine returnsInHanded_of_change (C := Tryz.checked) own started (by kernel_rfl) Tryz.func4
    (ChangeSpec.witness6 (enc := enc) (C := Tryz.checked) false ⟨#[], #[.agg #[.slice none 0 0, .slice none 0 0], .int .u8 0], []⟩ 8 (by kernel_rfl) (by kernel_rfl) (by kernel_rfl) (by kernel_rfl)) ?_
  intro W base args ds gs before hval0 hW hcnd _
  have hval : ∀ (j : Nat) t v, Tryz.f4.params[j]? = some t → args[j]? = some v → Value.okWide Tryz.prog W .any base t v := hval0
  have hW' := hW
  obtain ⟨p, q, hA0, hV, rfl, hfz, hnd⟩ := hW
  have hA : DataW.TrodAll enc Tryz.prog W 0 (fun _ => true) true Tryz.f4.params.toList args.toList ds p := hA0
  rw [Tryz.params4] at hA hval
  obtain ⟨v0, vs0, d0, ds0, p0', q0', hargs, rfl, rfl, h0, r0⟩ := trodAll_cons hA
  obtain ⟨v1, vs1, d1, ds1, p1', q1', rfl, rfl, rfl, h1, r1⟩ := trodAll_cons r0
  obtain ⟨rfl, rfl, rfl⟩ := trodAll_nil r1
  obtain rfl : args = #[v0, v1] := by cases args; simp_all
  obtain ⟨rfl, rfl⟩ := trodVars_none hV
  have k0 := h0
  have lt0 : ∀ x ∈ p0', x.block < W.heap.size := by obtain ⟨m, hm⟩ := k0; exact DataW.trod_lt m _ _ _ hm
  obtain ⟨f0, g0, s0', t0, u0, rfl, _, _, hf0, hg0⟩ := Go.Joins.open_agg2 Tryz.underlying25 (by kernel_rfl) (by kernel_rfl) (hval 0 25 v0 rfl rfl) h0
  obtain ⟨A0, n0, c0, vs0', rfl, hv0⟩ := open_rv hf0
  obtain ⟨B0, m0, e0, cs0, rfl, hc0⟩ := open_ri hg0
  obtain ⟨a1, rfl, rfl, rfl, w1⟩ := open_int Tryz.underlying5 (hval 1 5 v1 rfl rfl) h1
  obtain ⟨N1, rfl⟩ := Int.eq_ofNat_of_zero_le (bounds_u8 w1).1
  clear hA0 hval0
  refine (pfair_walk ⟨A0, n0, c0, B0, m0, e0, vs0', cs0⟩ N1 W ⟨hv0, hc0⟩ (by have := (bounds_u8 w1).2; omega)).mono fun e W' ⟨he, bel⟩ => ?_
  subst he
  exact ⟨_, rfl, _, _, _, [], _, [], hW', trodAll_mk1 (shut_bool Tryz.underlying4 _), (trodAll_cons_mk (Below.trod laidOut (by kernel_rfl) (of_decide_eq_true (by kernel_rfl)) k0 bel lt0) (trodAll_cons_mk (shut_int Tryz.underlying5 w1) trodAll_mk0)), rfl, bel.frame _, fun h => by cases h⟩

theorem over : Rows.phragmenFairRow.holds Tryz.pinned (OpenSpec.ofChange Rows.phragmenFairSpec) :=
  OpenClaim.holds_of_wide 4 Tryz.f4 rfl rfl rfl rfl rfl rfl rfl ⟨rfl, rfl, rfl, rfl, rfl⟩ rfl rfl rfl rfl rfl (by kernel_rfl) Tryz.func4 (by kernel_rfl)
    (of_decide_eq_true (by kernel_rfl)) (by unfold Func.isWrapper; first | (rw [if_pos (by decide +kernel)]; kernel_rfl) | (rw [if_neg (by decide +kernel)]; exact ⟨rfl, rfl⟩))
    (fun os started H enc _ => lifted os started H enc)

theorem proved : Rows.PhragmenFairSaid := over
end Go.Proofs.YtehekjlakegkpaaGreat.phragmenFair
namespace Go.Proofs.YtehekjlakegkpaaGreat
theorem phragmenFair_holds : Rows.PhragmenFairSaid := phragmenFair.proved
#print axioms phragmenFair_holds
end Go.Proofs.YtehekjlakegkpaaGreat
end
