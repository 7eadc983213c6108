/-
  listed of package voters: numbers and stakes, in the order of all, in new memory. The conditions stand in each theorem.
-/
import Derived.Test.YtblclpagfbpamaaVrnd
namespace Go.Proofs.Ytblclpagfbpamaa
open Go.RowKit Go.Shelf
set_option linter.unusedVariables false
attribute [local go_sem] Oper.semAt_some

/-- The cells of numbers and stakes. -/
def lcs (L : List Vt) : List Value := L.flatMap fun x => [.int .i64 x.id, .int .u64 (x.st : Nat)]
theorem lcs_append (L K : List Vt) : lcs (L ++ K) = lcs L ++ lcs K := by simp [lcs]
theorem lcs_one (L : List Vt) : ∀ u ∈ lcs L, u.oneCell' = true := by
  intro u hu
  simp only [lcs, List.mem_flatMap] at hu
  obtain ⟨x, _, hx⟩ := hu
  simp at hx
  rcases hx with rfl | rfl <;> rfl
theorem liInfo : (Try.prog.info? 105).map (fun i => (i.zero, i.size, i.bytes)) = some (some (.agg #[.int .i64 0, .int .u64 0]), 2, 16) := by kernel_rfl

/-- A variable's box holds a row of the call's own, which the caller keeps for itself. -/
def HoldsU (n₀ B : Nat) (t e : TypeId) (sz : Nat) (K : Nat → Prop) (k : Nat) (cs : List Value) (W : World) : Prop :=
  (∃ A c, Boxed W B t (.slice A k c) ∧ W.ownsRow n₀ e sz (.slice A k c) k cs ∧ ∀ g, (Value.slice A k c).ownBlock = some g → ¬ K g) ∧ ¬ K B ∧ ∀ q, K q → q < W.heap.size
theorem HoldsU.turn {n₀ B : Nat} {t e : TypeId} {sz : Nat} {K : Nat → Prop} {k : Nat} {cs : List Value} {W W' : World} {row : Option Nat} (h : HoldsU n₀ B t e sz K k cs W) (hg : W.grownBy W' row) (hr : ∀ r, row = some r → ∃ o : Obj, W.heap[r]? = some o ∧ o.isCells = false) : HoldsU n₀ B t e sz K k cs W' := by
  obtain ⟨⟨A, c, h1, h2, h3⟩, h4, h5⟩ := h
  refine ⟨⟨A, c, h1.kept hg (fun e' => ?_), own_keep h2 (fun g e' => ?_), h3⟩, h4, fun q hq => Nat.lt_of_lt_of_le (h5 q hq) hg.size⟩
  · obtain ⟨o, ho, hc⟩ := hr B e'.symm
    rw [show W.heap[B]? = _ from h1] at ho; cases ho; cases hc
  · refine hg.block g (h2.lt g e').2 (fun e'' => ?_)
    obtain ⟨o, ho, hc⟩ := hr g e''.symm
    obtain ⟨cur, hk⟩ := own_kb h2 e'
    rw [show W.heap[g]? = _ from hk] at ho; cases ho; cases hc
theorem HoldsU.keep {n₀ B : Nat} {t e : TypeId} {sz : Nat} {K : Nat → Prop} {k : Nat} {cs : List Value} {W W' : World} (h : HoldsU n₀ B t e sz K k cs W) (hg : W.grownBy W' none) : HoldsU n₀ B t e sz (fun q => K q ∨ (W.heap.size ≤ q ∧ q < W'.heap.size)) k cs W' := by
  obtain ⟨⟨A, c, h1, h2, h3⟩, h4, h5⟩ := h.turn hg (fun r e => by cases e)
  have hB := h.1
  obtain ⟨A0, c0, g1, g2, _⟩ := hB
  have hBl := g1.lt
  have h5' := h.2.2
  refine ⟨⟨A, c, h1, h2, fun g e' hk => ?_⟩, fun hk => hk.elim h4 (fun hh => by omega), fun q hq => hq.elim (h5 q) (fun hh => hh.2)⟩
  rcases hk with hk | hk
  · exact h3 g e' hk
  · obtain ⟨⟨A1, c1, q1, q2, q3⟩, _, _⟩ := h
    -- the row lay there already
    have e1 : (Value.slice A k c) = .slice A1 k c1 := by
      have := (show W'.heap[B]? = _ from h1).symm.trans ((hg.block B q1.lt (by simp)).trans q1)
      injection this with this
      injection this with this
      simpa using this
    rw [e1] at e'
    have := (q2.lt g e').2
    omega
/-- A longer row in the box: what has turned. -/
theorem HoldsU.app {n₀ B : Nat} {t e : TypeId} {sz : Nat} {K : Nat → Prop} {k : Nat} {cs : List Value} {W W2 w1 : World} {A : Option Addr} {c k' g cap : Nat} {cs' : List Value} (hte : t ≠ e) (hn : n₀ ≤ B) (hnW : n₀ ≤ W.heap.size)
    (q1 : Boxed W B t (.slice A k c)) (q2 : W.ownsRow n₀ e sz (.slice A k c) k cs) (q3 : ∀ g, (Value.slice A k c).ownBlock = some g → ¬ K g) (q4 : ¬ K B) (q5 : ∀ q, K q → q < W.heap.size)
    (b2 : Below W.heap.size W W2) (ho : w1.ownsRow n₀ e sz (.slice (some ⟨g, 0, none⟩) k' cap) k' cs') (hg : W2.grownBy w1 (Value.slice A k c).ownBlock) (hgw : (Value.slice A k c).ownBlock = some g ∨ g = W2.heap.size) :
    w1.cell? ⟨B, 0, none⟩ = some (.slice A k c) ∧ w1.frozen? ⟨B, 0, none⟩ = false ∧ HoldsU n₀ B t e sz K k' cs' (w1.setCell ⟨B, 0, none⟩ (.slice (some ⟨g, 0, none⟩) k' cap)) ∧ KeepsOthers W (w1.setCell ⟨B, 0, none⟩ (.slice (some ⟨g, 0, none⟩) k' cap)) ∧
      Turns (fun q => ¬ K q) W (w1.setCell ⟨B, 0, none⟩ (.slice (some ⟨g, 0, none⟩) k' cap)) ∧ Below n₀ W (w1.setCell ⟨B, 0, none⟩ (.slice (some ⟨g, 0, none⟩) k' cap)) ∧
      ∀ (B' : Nat) (t' : TypeId) (v' : Value), Boxed W B' t' v' → B' ≠ B → t' ≠ e → Boxed (w1.setCell ⟨B, 0, none⟩ (.slice (some ⟨g, 0, none⟩) k' cap)) B' t' v' := by
  -- a block that lay in W and is none of the row's lies as it lay
  have hold : ∀ q, q < W.heap.size → (Value.slice A k c).ownBlock ≠ some q → w1.heap[q]? = W.heap[q]? := fun q hq hne => by
    rw [hg.block q (Nat.lt_of_lt_of_le hq b2.size) (fun e => hne e.symm), b2.block q hq]
  have hrow : ∀ q, (Value.slice A k c).ownBlock = some q → ∃ cur, KB W q e cur := fun q hq => own_kb q2 hq
  have hbx : ∀ {B' t' v'}, Boxed W B' t' v' → t' ≠ e → Boxed w1 B' t' v' := fun {B' t' v'} hb hne => by
    refine (hold B' hb.lt (fun e2 => ?_)).trans hb
    obtain ⟨cur, hk⟩ := hrow _ e2
    exact hne (by have := (show W.heap[B']? = _ from hk).symm.trans hb; injection this with this; injection this with _ h2; exact h2.symm)
  have hB1 := hbx q1 hte
  have hgK : ¬ K g := by
    rcases hgw with h | h
    · exact q3 g h
    · intro hk; have := q5 g hk; have := b2.size; omega
  have hgB : g ≠ B := fun e2 => by
    obtain ⟨cur, hk⟩ := own_kb ho (g := g) rfl
    rw [e2] at hk
    have := (show w1.heap[B]? = _ from hk).symm.trans hB1
    injection this with this
    injection this with _ h2
    exact hte h2.symm
  have hsz : W.heap.size ≤ (w1.setCell ⟨B, 0, none⟩ (.slice (some ⟨g, 0, none⟩) k' cap)).heap.size := Nat.le_trans b2.size (Nat.le_trans hg.size (by simp [World.setCell]))
  have hset : ∀ q, q ≠ B → (w1.setCell ⟨B, 0, none⟩ (.slice (some ⟨g, 0, none⟩) k' cap)).heap[q]? = w1.heap[q]? := fun q hq => Below.heap_setCell _ _ _ q hq
  refine ⟨hB1.cell, hB1.frozen, ⟨⟨_, _, hB1.set _, own_keep ho (fun q hq => hset q (by cases hq; exact hgB)), fun q hq => by cases hq; exact hgK⟩, q4, fun q hq => Nat.lt_of_lt_of_le (q5 q hq) hsz⟩, ⟨hsz, fun q o hq hc => ?_⟩, ?_, ?_, fun B' t' v' hb hne hte' => ?_⟩
  · have hlt := (Array.getElem?_eq_some_iff.1 hq).1
    have hqB : q ≠ B := fun e2 => by subst e2; rw [show W.heap[q]? = _ from q1] at hq; cases hq; cases hc
    rw [hset q hqB, hold q hlt (fun e2 => by
      obtain ⟨cur, hk⟩ := hrow _ e2
      rw [show W.heap[q]? = _ from hk] at hq; cases hq; cases hc)]
    exact hq
  · refine ⟨hg.os.trans b2.os, hg.tape.trans b2.tape, hg.output.trans b2.output, hsz, fun q hq hnk => ?_⟩
    have hk : K q := Classical.not_not.1 hnk
    rw [hset q (fun e2 => q4 (e2 ▸ hk)), hold q hq (fun e2 => q3 q e2 hk)]
  · refine ⟨hg.os.trans b2.os, hg.tape.trans b2.tape, hg.output.trans b2.output, hsz, fun q hq => ?_⟩
    rw [hset q (by omega), hold q (by omega) (fun e2 => by have := (q2.lt q e2).1; omega)]
  · exact (hset B' hne).trans (hbx hb hte')
/-- What listed says between two rounds. -/
def LisI (w : World) (p : Nat) (K : Nat → Prop) (pre : List Vt) (W : World) : Prop :=
  HoldsU w.heap.size (w.heap.size + 1) 102 105 2 K pre.length (lcs pre) W ∧ Boxed W w.heap.size 25 (.pointer (some ⟨p, 0, none⟩)) ∧ Below w.heap.size w W
theorem LisI.abi {w : World} {p B : Nat} (hB : w.heap.size ≤ B) : Abi B (LisI w p) := by
  refine ⟨fun K pre W W' row ⟨h1, h2, h3⟩ hg hr => ⟨h1.turn hg (fun r e => (hr r e).2), h2.kept hg (fun e' => ?_), h3.grown hg h3.size (fun k e => Nat.le_trans hB (hr k e).1)⟩, fun K pre W W' ⟨h1, h2, h3⟩ hg => ⟨h1.keep hg, h2.kept hg (by simp), h3.grown hg h3.size (fun k e => by cases e)⟩⟩
  obtain ⟨o, ho, hc⟩ := (hr _ e'.symm).2
  rw [show W.heap[w.heap.size]? = _ from h2] at ho; cases ho; cases hc

set_option maxRecDepth 100000 in
set_option maxHeartbeats 4000000 in
theorem listed_any {base : Nat} {w : World} {p : Nat} {T : List Nat} {L : List Vt} {G : Nat} (h : VA base w p T L G) (hl : L.length ≤ 1000000) (hG : G < 4611686018427387904) :
    Calls Try.prog 55 #[.pointer (some ⟨p, 0, none⟩)] w fun e w' => (∃ A c, e = .returned (.slice A L.length c) ∧ w'.ownsRow w.heap.size 105 2 (.slice A L.length c) L.length (lcs L)) ∧ Below w.heap.size w w' := by
  obtain ⟨s, hd, rfl, hs⟩ := h
  obtain ⟨W0, hW0⟩ : ∃ W0, W0 = (w.alloc (.cells #[.pointer (some ⟨s.p, 0, none⟩)] 25)).alloc (.cells #[.slice none 0 0] 102) := ⟨_, rfl⟩
  obtain ⟨W1, hW1⟩ : ∃ W1, W1 = W0.alloc (.cells #[.pointer (some ⟨s.p, 0, none⟩)] 25) := ⟨_, rfl⟩
  have b0 : Below w.heap.size w W0 := by rw [hW0]; exact ((Below.refl _ w).alloc (Nat.le_refl _) _).alloc (by simp) _
  have z0 : W0.heap.size = w.heap.size + 2 := by rw [hW0]; simp
  have b1 : Below w.heap.size w W1 := by rw [hW1]; exact b0.alloc b0.size _
  have z1 : W1.heap.size = w.heap.size + 3 := by rw [hW1, World.size_alloc, z0]
  have bxV : Boxed W1 w.heap.size 25 (.pointer (some ⟨s.p, 0, none⟩)) := by rw [hW1, hW0]; exact ((Boxed.new w _ _).alloc _).alloc _
  have bxL : Boxed W1 (w.heap.size + 1) 102 (.slice none 0 0) := by
    rw [hW1, hW0]
    have := Boxed.new (w.alloc (.cells #[.pointer (some ⟨s.p, 0, none⟩)] 25)) 102 (.slice none 0 0)
    rw [World.size_alloc] at this
    exact this.alloc _
  have bxI : W1.cell? ⟨w.heap.size + 2, 0, none⟩ = some (.pointer (some ⟨s.p, 0, none⟩)) := by
    rw [hW1, ← z0]; exact (Boxed.new W0 25 _).cell
  have hs1 : Vg base W1 s hd T L G := ⟨hs.lay.below b1, hs.ful, hs.ok, hs.gs⟩
  have hfl : ∀ k, s.foot k → k < w.heap.size := fun k hk => (hs.lay.reads_lt (.inl hk)).2
  have hseq := ino_U (w.heap.size + 2) w.heap.size (fun k => k ≠ w.heap.size + 1 ∧ k < W1.heap.size) hs1 (by omega) bxI hfl (by omega) (fun k hk => ⟨by omega, by omega⟩) ⟨by omega, by omega⟩ (fun k hk => hk.2) hG
  have h0 : LisI w s.p (fun k => k ≠ w.heap.size + 1 ∧ k < W1.heap.size) [] W1 := ⟨⟨⟨none, 0, bxL, ⟨rfl, .inl ⟨rfl, rfl⟩⟩, fun g e => by cases e⟩, fun hh => hh.1 rfl, fun q hq => hq.2⟩, bxV, b1⟩
  have hIn := callsIn_wide (n := 8) |>.2 (inO_any (some ⟨s.p, 0, none⟩) W0)
  rw [← hW1] at hIn
  rw [hW0] at hIn
  have HS := Lib.hid hs
  have HZ := Lib.hid (And.intro z0 z1)
  clear hs hs1 hW0 hW1 z0 z1 b0 bxV bxL bxI
  refine (callsIn_wide (n := 9)).1 ?_
  refine callsIn_of_wp_marks Try.func55 rfl trivial ?_ rfl
  simp only [Try.ntmps55, List.size_toArray, List.length_cons, List.length_nil, Nat.reduceAdd, Nat.reduceSub, Array.replicate_succ, Array.replicate_zero, List.push_toArray, List.append_toArray, List.nil_append, List.cons_append]
  gi_wp2_with fail
  refine ⟨trivial, ?_⟩
  refine hIn.mono ?_
  rintro e w3 ⟨rfl, hw3⟩
  rw [hw3]
  clear hIn hw3
  gi_wp2_with fail
  refine range_U (α := Vt) (gf := 51) (lb := #[.pointer (some ⟨w.heap.size + 2, 0, none⟩)]) rfl (enters_of Try.func51 (by kernel_rfl) rfl) hseq (fun k hk => hk.2) (fun _ => rfl) (LisI w s.p) (fun _ _ _ => False) (LisI.abi (by have := HZ.out.2; omega)) (fun _ _ _ _ _ hh _ _ => hh) h0
    (fun x => { tmps := #[.pointer (some ⟨s.p, 0, none⟩), .pointer (some ⟨w.heap.size, 0, none⟩), .slice none 0 0, .pointer (some ⟨w.heap.size + 1, 0, none⟩), undef, .int .i64 x.id, .pointer (some ⟨s.p, 0, none⟩), .func (.func 51) #[] #[.pointer (some ⟨w.heap.size + 2, 0, none⟩)], .int .i64 (x.bag : Nat), .int .i64 x.id, undef, undef, undef, undef, undef, undef, undef, undef, undef, undef, undef, undef, undef], defers := [] }) ?assign (fun pre x W l o o' h _ _ => h) ?body ?done (fun xs W l o h => .inl h) (fun D c pre W _ _ h _ => h.elim)
  case assign =>
    intro l x W C hC
    gi_wp2
    exact hC
  case body =>
    rintro l K pre x W ⟨hx, hlen⟩ ⟨h1, h2, h3⟩
    obtain ⟨⟨A, c, q1, q2, q3⟩, q4, q5⟩ := h1
    have cL := q1.cell
    have fL := q1.frozen
    have cV := h2.cell
    have hvW := HS.out.lay.below h3
    have c2 := hvW.blk.cell 2
    simp at c2
    have hlk := (hvW.mp.keep (w' := W.drew) (fun _ _ => rfl)).look (t := 61) Try.underlying3 Try.underlying61 (vzero W.drew) (HS.out.ok.wf x hx)
    rw [f3_some (fnd_eq HS.out.ok.nd hx)] at hlk
    replace hlk : (Instr.lookup 61 (.map s.m) (.int .i64 x.id) false).run Try.prog W.drew = .ok (.agg #[.int .u64 (x.st : Nat), .int .i64 (x.bag : Nat), .int .i64 (hd x.id)]) W.drew := hlk
    generalize hd x.id = hx0 at hlk
    have hfld : ∀ V : World, (Instr.field 65 (.agg #[.int .u64 (x.st : Nat), .int .i64 (x.bag : Nat), .int .i64 hx0]) 0).run Try.prog V = .ok (.int .u64 (x.st : Nat)) V := fun V => by kernel_rfl
    clear hvW
    have b2 : Below W.heap.size W ((W.drew).alloc (.cells #[.int .i64 x.id, .int .u64 (x.st : Nat)] 105)) := ((Below.refl _ W).drew).alloc (Nat.le_refl _) _
    have ho : ((W.drew).alloc (.cells #[.int .i64 x.id, .int .u64 (x.st : Nat)] 105)).ownsRow w.heap.size 105 2 (.slice A pre.length c) pre.length (lcs pre) := own_below q2 b2 (fun g e => (q2.lt g e).2)
    have hsr : Sr 2 ((W.drew).alloc (.cells #[.int .i64 x.id, .int .u64 (x.st : Nat)] 105)) (some ⟨W.heap.size, 0, none⟩) 1 1 (lcs [x]) := by
      have := Sr.new (sz := 2) W.drew 105 #[.int .i64 x.id, .int .u64 (x.st : Nat)] rfl
      simpa [lcs] using this
    have cL2 : (W.alloc (.cells #[.int .i64 x.id, .int .u64 (x.st : Nat)] 105)).cell? ⟨w.heap.size + 1, 0, none⟩ = some (.slice A pre.length c) := (World.cell?_alloc_lt W _ ⟨w.heap.size + 1, 0, none⟩ q1.lt).trans cL
    have hbs : w.heap.size ≤ ((W.drew).alloc (.cells #[.int .i64 x.id, .int .u64 (x.st : Nat)] 105)).heap.size := Nat.le_trans h3.size b2.size
    have fin : ∀ g c' w1, w1.ownsRow w.heap.size 105 2 (.slice (some ⟨g, 0, none⟩) (pre.length + 1) c') (pre.length + 1) (lcs pre ++ lcs [x]) → ((W.drew).alloc (.cells #[.int .i64 x.id, .int .u64 (x.st : Nat)] 105)).grownBy w1 (Value.slice A pre.length c).ownBlock → ((Value.slice A pre.length c).ownBlock = some g ∨ g = ((W.drew).alloc (.cells #[.int .i64 x.id, .int .u64 (x.st : Nat)] 105)).heap.size) →
        w1.cell? ⟨w.heap.size + 1, 0, none⟩ = some (.slice A pre.length c) ∧ w1.frozen? ⟨w.heap.size + 1, 0, none⟩ = false ∧ KeepsFrom W1.heap.size W (w1.setCell ⟨w.heap.size + 1, 0, none⟩ (.slice (some ⟨g, 0, none⟩) (pre.length + 1) c')) ∧ Turns (fun k => ¬ K k) W (w1.setCell ⟨w.heap.size + 1, 0, none⟩ (.slice (some ⟨g, 0, none⟩) (pre.length + 1) c')) ∧ LisI w s.p K (pre ++ [x]) (w1.setCell ⟨w.heap.size + 1, 0, none⟩ (.slice (some ⟨g, 0, none⟩) (pre.length + 1) c')) := fun g c' w1 o1 g1 hw1 => by
      obtain ⟨r1, r2, r3, r4, r5, r6, r7⟩ := HoldsU.app (by decide) (by omega) h3.size q1 q2 q3 q4 q5 b2 o1 g1 hw1
      refine ⟨r1, r2, r4.from _, r5, ?_, r7 _ _ _ h2 (by omega) (by decide), h3.trans r6⟩
      rw [List.length_append, lcs_append]
      exact r3
    have FN := Lib.hid fin
    have HO := Lib.hid ho
    have HSR := Lib.hid hsr
    clear fin ho hsr b2 q1 q2 q3 q4 q5 h2 h3
    gi_wp2_with fail
    refine region_inRound (by kernel_rfl) ?_
    refine wpAnyIn_take (i := 1) (v := .int .i64 x.id) rfl rfl (by kernel_rfl) (by kernel_rfl) (by kernel_rfl) (fun _ _ _ h => h) ⟨Or.inl ⟨by rfl, (by intro w; go_simp)⟩, fun _ => rfl⟩ ?_
    refine wpAnyIn_take (i := 6) (v := .int .i64 x.id) rfl rfl (by kernel_rfl) (by kernel_rfl) (by kernel_rfl) (fun _ _ _ h => h) ⟨Or.inl ⟨by rfl, (by intro w; go_simp)⟩, fun _ => rfl⟩ ?_
    refine wpAnyIn_ready (rs := [0, 2]) (by kernel_rfl) (by simp) ?_
    refine AllReadyIn.cons rfl (fun K' hK => ?_) (AllReadyIn.cons rfl (fun K' hK => ?_) AllReadyIn.nil)
    · go_simp
      refine hK _ _ ?_
      clear hK K'
      refine wpAnyIn_ready (rs := [2]) (by kernel_rfl) (by simp) ?_
      refine AllReadyIn.cons rfl (fun K' hK => ?_) AllReadyIn.nil
      go_simp
      refine hK _ _ ?_
      clear hK K'
      refine wpAnyIn_take (i := 3) (v := .pointer (some ⟨s.p, 0, none⟩)) rfl rfl (by kernel_rfl) (by kernel_rfl) (by kernel_rfl) (fun _ _ _ h => h) ⟨Or.inl ⟨by rfl, (by intro w; go_simp)⟩, fun _ => rfl⟩ ?_
      refine wpAnyIn_take (i := 4) (v := .pointer (some ⟨s.p, 2, none⟩)) rfl rfl (by kernel_rfl) (by kernel_rfl) (by kernel_rfl) (fun _ _ _ h => h) ⟨Or.inl ⟨by rfl, (by intro w; go_simp)⟩, fun _ => rfl⟩ ?_
      refine wpAnyIn_ready (rs := [5]) (by kernel_rfl) (by simp) ?_
      refine AllReadyIn.cons rfl (fun K' hK => ?_) AllReadyIn.nil
      go_simp
      refine hK _ _ ?_
      clear hK K'
      refine wpAnyIn_ready (rs := [7]) (by kernel_rfl) (by simp) ?_
      refine AllReadyIn.cons rfl (fun K' hK => ?_) AllReadyIn.nil
      go_simp
      refine hK _ _ ?_
      clear hK K'
      refine wpAnyIn_take (i := 8) (v := .int .u64 (x.st : Nat)) rfl rfl (by kernel_rfl) (by kernel_rfl) (by kernel_rfl) (fun _ _ _ h => h) ⟨Or.inl ⟨by rfl, (by intro w; go_simp)⟩, fun _ => rfl⟩ ?_
      refine wpAnyIn_take (i := 9) (v := .agg #[.int .i64 x.id, .int .u64 (x.st : Nat)]) rfl rfl (by kernel_rfl) (by kernel_rfl) (by kernel_rfl) (fun _ _ _ h => h) ⟨Or.inl ⟨by rfl, (by intro w; go_simp)⟩, fun _ => rfl⟩ ?_
      refine wpAnyIn_ready (rs := [10]) (by kernel_rfl) (by simp) ?_
      refine AllReadyIn.cons rfl (fun K' hK => ?_) AllReadyIn.nil
      go_simp
      refine hK _ _ ?_
      clear hK K'
      refine wpAnyIn_ready (rs := [11]) (by kernel_rfl) (by simp) ?_
      refine AllReadyIn.cons rfl (fun K' hK => ?_) AllReadyIn.nil
      (refine stepIn_appL _ 2 16 _ 105 rfl (.tmp 10) (.tmp 20) 102 rfl w.heap.size Try.underlying102 liInfo rfl (by decide) A ⟨W.heap.size, 0, none⟩ pre.length c 1 1 (lcs pre) (lcs [x]) (by simp [Act.eval]) (by simp [Act.eval]) (by omega) HO.out HSR.out (lcs_one _) (by unfold maxLen; omega) (by omega) hbs ?_; intro g c' w1 o1 g1 hw1; obtain ⟨z0, zf, z4⟩ := FN.out g c' w1 o1 g1 hw1; have Z4 := Lib.hid z4; clear o1 g1 hw1 z4; try go_simp)
      refine hK _ _ ?_
      clear hK K'
      refine wpAnyIn_ready (rs := [12]) (by kernel_rfl) (by simp) ?_
      refine AllReadyIn.cons rfl (fun K' hK => ?_) AllReadyIn.nil
      go_simp
      refine hK _ _ ?_
      clear hK K'
      refine wpAnyIn_done (by kernel_rfl) ?_ _
      exact Z4.out
    · go_simp
      refine hK _ _ ?_
      clear hK K'
      refine wpAnyIn_take (i := 3) (v := .pointer (some ⟨s.p, 0, none⟩)) rfl rfl (by kernel_rfl) (by kernel_rfl) (by kernel_rfl) (fun _ _ _ h => h) ⟨Or.inl ⟨by rfl, (by intro w; go_simp)⟩, fun _ => rfl⟩ ?_
      refine wpAnyIn_take (i := 4) (v := .pointer (some ⟨s.p, 2, none⟩)) rfl rfl (by kernel_rfl) (by kernel_rfl) (by kernel_rfl) (fun _ _ _ h => h) ⟨Or.inl ⟨by rfl, (by intro w; go_simp)⟩, fun _ => rfl⟩ ?_
      refine wpAnyIn_ready (rs := [0, 5]) (by kernel_rfl) (by simp) ?_
      refine AllReadyIn.cons rfl (fun K' hK => ?_) (AllReadyIn.cons rfl (fun K' hK => ?_) AllReadyIn.nil)
      · go_simp
        refine hK _ _ ?_
        clear hK K'
        refine wpAnyIn_ready (rs := [5]) (by kernel_rfl) (by simp) ?_
        refine AllReadyIn.cons rfl (fun K' hK => ?_) AllReadyIn.nil
        go_simp
        refine hK _ _ ?_
        clear hK K'
        refine wpAnyIn_ready (rs := [7]) (by kernel_rfl) (by simp) ?_
        refine AllReadyIn.cons rfl (fun K' hK => ?_) AllReadyIn.nil
        go_simp
        refine hK _ _ ?_
        clear hK K'
        refine wpAnyIn_take (i := 8) (v := .int .u64 (x.st : Nat)) rfl rfl (by kernel_rfl) (by kernel_rfl) (by kernel_rfl) (fun _ _ _ h => h) ⟨Or.inl ⟨by rfl, (by intro w; go_simp)⟩, fun _ => rfl⟩ ?_
        refine wpAnyIn_take (i := 9) (v := .agg #[.int .i64 x.id, .int .u64 (x.st : Nat)]) rfl rfl (by kernel_rfl) (by kernel_rfl) (by kernel_rfl) (fun _ _ _ h => h) ⟨Or.inl ⟨by rfl, (by intro w; go_simp)⟩, fun _ => rfl⟩ ?_
        refine wpAnyIn_ready (rs := [10]) (by kernel_rfl) (by simp) ?_
        refine AllReadyIn.cons rfl (fun K' hK => ?_) AllReadyIn.nil
        go_simp
        refine hK _ _ ?_
        clear hK K'
        refine wpAnyIn_ready (rs := [11]) (by kernel_rfl) (by simp) ?_
        refine AllReadyIn.cons rfl (fun K' hK => ?_) AllReadyIn.nil
        (refine stepIn_appL _ 2 16 _ 105 rfl (.tmp 10) (.tmp 20) 102 rfl w.heap.size Try.underlying102 liInfo rfl (by decide) A ⟨W.heap.size, 0, none⟩ pre.length c 1 1 (lcs pre) (lcs [x]) (by simp [Act.eval]) (by simp [Act.eval]) (by omega) HO.out HSR.out (lcs_one _) (by unfold maxLen; omega) (by omega) hbs ?_; intro g c' w1 o1 g1 hw1; obtain ⟨z0, zf, z4⟩ := FN.out g c' w1 o1 g1 hw1; have Z4 := Lib.hid z4; clear o1 g1 hw1 z4; try go_simp)
        refine hK _ _ ?_
        clear hK K'
        refine wpAnyIn_ready (rs := [12]) (by kernel_rfl) (by simp) ?_
        refine AllReadyIn.cons rfl (fun K' hK => ?_) AllReadyIn.nil
        go_simp
        refine hK _ _ ?_
        clear hK K'
        refine wpAnyIn_done (by kernel_rfl) ?_ _
        exact Z4.out
      · go_simp
        refine hK _ _ ?_
        clear hK K'
        refine wpAnyIn_ready (rs := [0, 7]) (by kernel_rfl) (by simp) ?_
        refine AllReadyIn.cons rfl (fun K' hK => ?_) (AllReadyIn.cons rfl (fun K' hK => ?_) AllReadyIn.nil)
        · go_simp
          refine hK _ _ ?_
          clear hK K'
          refine wpAnyIn_ready (rs := [7]) (by kernel_rfl) (by simp) ?_
          refine AllReadyIn.cons rfl (fun K' hK => ?_) AllReadyIn.nil
          go_simp
          refine hK _ _ ?_
          clear hK K'
          refine wpAnyIn_take (i := 8) (v := .int .u64 (x.st : Nat)) rfl rfl (by kernel_rfl) (by kernel_rfl) (by kernel_rfl) (fun _ _ _ h => h) ⟨Or.inl ⟨by rfl, (by intro w; go_simp)⟩, fun _ => rfl⟩ ?_
          refine wpAnyIn_take (i := 9) (v := .agg #[.int .i64 x.id, .int .u64 (x.st : Nat)]) rfl rfl (by kernel_rfl) (by kernel_rfl) (by kernel_rfl) (fun _ _ _ h => h) ⟨Or.inl ⟨by rfl, (by intro w; go_simp)⟩, fun _ => rfl⟩ ?_
          refine wpAnyIn_ready (rs := [10]) (by kernel_rfl) (by simp) ?_
          refine AllReadyIn.cons rfl (fun K' hK => ?_) AllReadyIn.nil
          go_simp
          refine hK _ _ ?_
          clear hK K'
          refine wpAnyIn_ready (rs := [11]) (by kernel_rfl) (by simp) ?_
          refine AllReadyIn.cons rfl (fun K' hK => ?_) AllReadyIn.nil
          (refine stepIn_appL _ 2 16 _ 105 rfl (.tmp 10) (.tmp 20) 102 rfl w.heap.size Try.underlying102 liInfo rfl (by decide) A ⟨W.heap.size, 0, none⟩ pre.length c 1 1 (lcs pre) (lcs [x]) (by simp [Act.eval]) (by simp [Act.eval]) (by omega) HO.out HSR.out (lcs_one _) (by unfold maxLen; omega) (by omega) hbs ?_; intro g c' w1 o1 g1 hw1; obtain ⟨z0, zf, z4⟩ := FN.out g c' w1 o1 g1 hw1; have Z4 := Lib.hid z4; clear o1 g1 hw1 z4; try go_simp)
          refine hK _ _ ?_
          clear hK K'
          refine wpAnyIn_ready (rs := [12]) (by kernel_rfl) (by simp) ?_
          refine AllReadyIn.cons rfl (fun K' hK => ?_) AllReadyIn.nil
          go_simp
          refine hK _ _ ?_
          clear hK K'
          refine wpAnyIn_done (by kernel_rfl) ?_ _
          exact Z4.out
        · go_simp
          refine hK _ _ ?_
          clear hK K'
          refine wpAnyIn_take (i := 8) (v := .int .u64 (x.st : Nat)) rfl rfl (by kernel_rfl) (by kernel_rfl) (by kernel_rfl) (fun _ _ _ h => h) ⟨Or.inl ⟨by rfl, (by intro w; go_simp)⟩, fun _ => rfl⟩ ?_
          refine wpAnyIn_take (i := 9) (v := .agg #[.int .i64 x.id, .int .u64 (x.st : Nat)]) rfl rfl (by kernel_rfl) (by kernel_rfl) (by kernel_rfl) (fun _ _ _ h => h) ⟨Or.inl ⟨by rfl, (by intro w; go_simp)⟩, fun _ => rfl⟩ ?_
          refine wpAnyIn_ready (rs := [0, 10]) (by kernel_rfl) (by simp) ?_
          refine AllReadyIn.cons rfl (fun K' hK => ?_) (AllReadyIn.cons rfl (fun K' hK => ?_) AllReadyIn.nil)
          · go_simp
            refine hK _ _ ?_
            clear hK K'
            refine wpAnyIn_ready (rs := [10]) (by kernel_rfl) (by simp) ?_
            refine AllReadyIn.cons rfl (fun K' hK => ?_) AllReadyIn.nil
            go_simp
            refine hK _ _ ?_
            clear hK K'
            refine wpAnyIn_ready (rs := [11]) (by kernel_rfl) (by simp) ?_
            refine AllReadyIn.cons rfl (fun K' hK => ?_) AllReadyIn.nil
            (refine stepIn_appL _ 2 16 _ 105 rfl (.tmp 10) (.tmp 20) 102 rfl w.heap.size Try.underlying102 liInfo rfl (by decide) A ⟨W.heap.size, 0, none⟩ pre.length c 1 1 (lcs pre) (lcs [x]) (by simp [Act.eval]) (by simp [Act.eval]) (by omega) HO.out HSR.out (lcs_one _) (by unfold maxLen; omega) (by omega) hbs ?_; intro g c' w1 o1 g1 hw1; obtain ⟨z0, zf, z4⟩ := FN.out g c' w1 o1 g1 hw1; have Z4 := Lib.hid z4; clear o1 g1 hw1 z4; try go_simp)
            refine hK _ _ ?_
            clear hK K'
            refine wpAnyIn_ready (rs := [12]) (by kernel_rfl) (by simp) ?_
            refine AllReadyIn.cons rfl (fun K' hK => ?_) AllReadyIn.nil
            go_simp
            refine hK _ _ ?_
            clear hK K'
            refine wpAnyIn_done (by kernel_rfl) ?_ _
            exact Z4.out
          · go_simp
            refine hK _ _ ?_
            clear hK K'
            refine wpAnyIn_ready (rs := [0]) (by kernel_rfl) (by simp) ?_
            refine AllReadyIn.cons rfl (fun K' hK => ?_) AllReadyIn.nil
            go_simp
            refine hK _ _ ?_
            clear hK K'
            refine wpAnyIn_ready (rs := [11]) (by kernel_rfl) (by simp) ?_
            refine AllReadyIn.cons rfl (fun K' hK => ?_) AllReadyIn.nil
            (refine stepIn_appL _ 2 16 _ 105 rfl (.tmp 10) (.tmp 20) 102 rfl w.heap.size Try.underlying102 liInfo rfl (by decide) A ⟨W.heap.size, 0, none⟩ pre.length c 1 1 (lcs pre) (lcs [x]) (by simp [Act.eval]) (by simp [Act.eval]) (by omega) HO.out HSR.out (lcs_one _) (by unfold maxLen; omega) (by omega) hbs ?_; intro g c' w1 o1 g1 hw1; obtain ⟨z0, zf, z4⟩ := FN.out g c' w1 o1 g1 hw1; have Z4 := Lib.hid z4; clear o1 g1 hw1 z4; try go_simp)
            refine hK _ _ ?_
            clear hK K'
            refine wpAnyIn_ready (rs := [12]) (by kernel_rfl) (by simp) ?_
            refine AllReadyIn.cons rfl (fun K' hK => ?_) AllReadyIn.nil
            go_simp
            refine hK _ _ ?_
            clear hK K'
            refine wpAnyIn_done (by kernel_rfl) ?_ _
            exact Z4.out
  case done =>
    rintro D K xs W hD rfl ⟨⟨⟨A, c, q1, q2, _⟩, _, _⟩, _, h3⟩ hK
    have cL := q1.cell
    have hzz := HZ.out.2
    have hfin : (W.putObj D (.deferred none)).ownsRow w.heap.size 105 2 (.slice A xs.length c) xs.length (lcs xs) ∧ Below w.heap.size w (W.putObj D (.deferred none)) :=
      ⟨ownsRow_putObj q2 _ hK rfl, h3.trans (belowK_b (w := w) (Nat.le_refl _) W D _ _ (by omega) hK rfl rfl)⟩
    have HFIN := Lib.hid hfin
    clear q1 q2 h3 hfin hzz
    gi_wp2
    exact ⟨by simp, .inl ⟨_, _, rfl, run_takeDeferred hK, _, results_tmp rfl _ _ _, ⟨A, c, rfl, HFIN.out.1⟩, HFIN.out.2⟩⟩
end Go.Proofs.Ytblclpagfbpamaa
