/-
  inOrder of package voters, as a range function: each voter's bag and number, in the order of all. The conditions stand in each theorem.
-/
import Derived.Test.YtblclpagfbpamaaVback
import Derived.Test.YtblclpagfbpamaaVnew
import Derived.RangeFuncNested
import Derived.RangeFuncBox
namespace Go.Proofs.Ytblclpagfbpamaa
open Go.RowKit Go.Shelf
set_option linter.unusedVariables false
attribute [local go_sem] Oper.semAt_some

/-- The k greatest bags' rows. -/
def topV (nb : Nat) : Nat → List Vt → List Vt
  | 0, _ => []
  | k + 1, L => topV nb k L ++ rowV (nb - 1 - k) L
theorem topV_flat {nb : Nat} (L : List Vt) : ∀ (k : Nat), k ≤ nb → topV nb k L ++ flatV (nb - k) L = flatV nb L
  | 0, _ => rfl
  | k + 1, h => by
    have ih := topV_flat (nb := nb) L k (by omega)
    have e1 : nb - k = (nb - (k + 1)) + 1 := by omega
    have e2 : nb - 1 - k = nb - (k + 1) := by omega
    rw [e1, flatV] at ih
    rw [topV, List.append_assoc, e2]
    exact ih
/-- The voter that such a pair of handle and number stands for. -/
def vOf (L : List Vt) (x : Int × Int) : Vt := (fnd L x.2).getD ⟨x.2, 0, 0⟩
theorem vOf_mem {hd : Int → Int} {L : List Vt} (hn : (L.map Vt.id).Nodup) {b : Nat} {x : Int × Int} (h : x ∈ rowsOf hd L b) : vOf L x ∈ L ∧ (vOf L x).bag = b ∧ (vOf L x).id = x.2 := by
  obtain ⟨v, hv, rfl⟩ := List.mem_map.1 h
  obtain ⟨h1, h2⟩ := List.mem_filter.1 hv
  have : vOf L (hd v.id, v.id) = v := by unfold vOf; rw [fnd_eq hn h1]; rfl
  rw [this]
  exact ⟨h1, by simpa using h2, rfl⟩
theorem vOf_rows {hd : Int → Int} {L : List Vt} (hn : (L.map Vt.id).Nodup) (b : Nat) : (rowsOf hd L b).map (vOf L) = rowV b L := by
  unfold rowsOf
  rw [List.map_map]
  refine (List.map_congr_left fun v hv => ?_).trans (List.map_id _)
  have h1 := (List.mem_filter.1 hv).1
  show vOf L (hd v.id, v.id) = v
  unfold vOf; rw [fnd_eq hn h1]; rfl

set_option maxHeartbeats 400000 in
theorem inO_any (p : Option Addr) (w : World) :
    Calls Try.prog 41 #[.pointer p] w fun e w' => e = .returned (.func (.func 51) #[] #[.pointer (some ⟨w.heap.size, 0, none⟩)]) ∧ w' = w.alloc (.cells #[.pointer p] 25) := by
  go_enter Try.func41, Try.ntmps41
  go_wp2
  go_ret
  exact ⟨rfl, rfl⟩

set_option maxRecDepth 100000 in
set_option maxHeartbeats 1000000 in
/-- Of nil voters nothing comes. -/
theorem ino_nil (Bv : Nat) (K0 : Nat → Prop) (w : World) (hBv : Bv < w.heap.size) (hB : w.cell? ⟨Bv, 0, none⟩ = some (.pointer none)) :
    SeqU 51 #[.pointer (some ⟨Bv, 0, none⟩)] (fun x : Vt => #[Value.int .i64 (x.bag : Nat), .int .i64 x.id]) K0 (fun pre x _ => False) (fun ys _ => ys = []) (fun _ => True) w := by
  intro l J Jx W hW hJ hJx hY h0
  have hB1 : W.cell? ⟨Bv, 0, none⟩ = some (.pointer none) := (hW.cell (p := ⟨Bv, 0, none⟩) hBv).trans hB
  have hBl : Bv < W.heap.size := Nat.lt_of_lt_of_le hBv hW.size
  have hJ1 := hJ.turn _ _ _ (W.alloc (.cells #[.func (.yield l) #[] #[]] 97)) none h0 (World.grownBy_alloc W _ none) (fun r e => by cases e)
  have hB2 : (W.alloc (.cells #[.func (.yield l) #[] #[]] 97)).cell? ⟨Bv, 0, none⟩ = some (.pointer none) := (World.cell?_alloc_lt W _ ⟨Bv, 0, none⟩ hBl).trans hB1
  clear hB hBv hW hY h0 hB1
  refine callsIn_of_wp_marks Try.func51 rfl trivial ?_ rfl
  simp only [Try.ntmps51, List.size_toArray, List.length_cons, List.length_nil, Nat.reduceAdd, Nat.reduceSub, Array.replicate_succ, Array.replicate_zero, List.push_toArray, List.append_toArray, List.nil_append, List.cons_append]
  gi_wp2
  exact ⟨_, results_none rfl _ _ _, ⟨_, rfl⟩, .inl ⟨_, _, rfl, hJ1⟩⟩

/-- Between two rounds of the outer loop: so many bags' rows have come. -/
def InoI (J : (Nat → Prop) → List Vt → World → Prop) (L : List Vt) (nb : Nat) (K2 : Nat → Prop) (W2 : World) (Ko : Nat → Prop) (pre : List { j : Nat // j < nb }) (W : World) : Prop :=
  ∃ K : Nat → Prop, J K (topV nb pre.length L) W ∧ (∀ k, K2 k → K k) ∧ (∀ k, Ko k → K k) ∧ (∀ k, K k → k < W.heap.size) ∧ (∀ k, K2 k → W.heap[k]? = W2.heap[k]?) ∧ W2.heap.size ≤ W.heap.size
theorem InoI.abi {J : (Nat → Prop) → List Vt → World → Prop} {L : List Vt} {nb : Nat} {K2 : Nat → Prop} {W2 : World} {B : Nat} (hJ : Abi B J) (hB : B ≤ W2.heap.size) (hK : ∀ k, K2 k → k < W2.heap.size) : Abi W2.heap.size (InoI J L nb K2 W2) := by
  refine ⟨?_, ?_⟩
  · rintro Ko pre W W' row ⟨K, h1, h2, h3, h4, h5, h6⟩ hg hr
    refine ⟨K, hJ.turn _ _ _ _ _ h1 hg (fun r e => ⟨Nat.le_trans hB (hr r e).1, (hr r e).2⟩), h2, h3, fun k hk => Nat.lt_of_lt_of_le (h4 k hk) hg.size, fun k hk => ?_, Nat.le_trans h6 hg.size⟩
    rw [hg.block k (Nat.lt_of_lt_of_le (hK k hk) h6) (fun e => by have := (hr k e.symm).1; have := hK k hk; omega)]
    exact h5 k hk
  · rintro Ko pre W W' ⟨K, h1, h2, h3, h4, h5, h6⟩ hg
    refine ⟨_, hJ.keep _ _ _ _ h1 hg, fun k hk => .inl (h2 k hk), fun k hk => hk.imp (h3 k) id, fun k hk => ?_, fun k hk => ?_, Nat.le_trans h6 hg.size⟩
    · rcases hk with h | h
      · exact Nat.lt_of_lt_of_le (h4 k h) hg.size
      · exact h.2
    · rw [hg.block k (Nat.lt_of_lt_of_le (hK k hk) h6) (by simp)]
      exact h5 k hk
/-- .. and within a round, the bag's box having been laid. -/
def InoM (J : (Nat → Prop) → List Vt → World → Prop) (L : List Vt) (nb : Nat) (K2 : Nat → Prop) (W2 : World) (act : Nat → { j : Nat // j < nb } → Act) (Ko : Nat → Prop) (pre : List { j : Nat // j < nb }) (x : { j : Nat // j < nb }) (a' : Act) (W : World) : Prop :=
  ∃ (K : Nat → Prop) (Bx : Nat), J K (topV nb pre.length L) W ∧ (∀ k, K2 k → K k) ∧ (∀ k, Ko k → K k) ∧ (∀ k, K k → k < W.heap.size) ∧ (∀ k, K2 k → W.heap[k]? = W2.heap[k]?) ∧ W2.heap.size ≤ W.heap.size ∧
    K Bx ∧ W2.heap.size ≤ Bx ∧ Boxed W Bx 3 (.int .i64 (x.1 : Nat)) ∧ x.1 + pre.length + 1 = nb ∧ a' = act Bx x

set_option maxRecDepth 100000 in
set_option maxHeartbeats 4000000 in
theorem ino_U {base : Nat} {w : World} {s : VS} {hd : Int → Int} {T : List Nat} {L : List Vt} {G : Nat} (Bv n₀ : Nat) (K0 : Nat → Prop) (hs : Vg base w s hd T L G) (hBv : Bv < w.heap.size) (hB : w.cell? ⟨Bv, 0, none⟩ = some (.pointer (some ⟨s.p, 0, none⟩)))
    (hn₀ : ∀ k, s.foot k → k < n₀) (hn : n₀ ≤ w.heap.size) (hK1 : ∀ k, k < n₀ → K0 k) (hK2 : K0 Bv) (hK3 : ∀ k, K0 k → k < w.heap.size) (hG : G < 4611686018427387904) :
    SeqU 51 #[.pointer (some ⟨Bv, 0, none⟩)] (fun x : Vt => #[Value.int .i64 (x.bag : Nat), .int .i64 x.id]) K0 (fun pre x _ => x ∈ L ∧ pre.length < L.length) (fun ys _ => ys = L) (fun pre => pre <+: L) w := by
  intro l J Jx W hW hJ hJx hY h0
  -- the two blocks that are laid ahead of the loop
  obtain ⟨W1, hW1⟩ : ∃ W1, W1 = W.alloc (.cells #[.func (.yield l) #[] #[]] 97) := ⟨_, rfl⟩
  obtain ⟨W2, hW2⟩ : ∃ W2, W2 = W1.alloc (.cells #[s.rv] 60) := ⟨_, rfl⟩
  have b1 : Below W.heap.size W W1 := by rw [hW1]; exact (Below.refl _ W).alloc (Nat.le_refl _) _
  have b2 : Below W.heap.size W W2 := by rw [hW2]; exact b1.alloc b1.size _
  have z1 : W1.heap.size = W.heap.size + 1 := by rw [hW1]; simp
  have z2 : W2.heap.size = W.heap.size + 2 := by rw [hW2, World.size_alloc, z1]
  have bw2 : Below w.heap.size w W2 := hW.trans (b2.mono hW.size)
  have v2 := hs.lay.below bw2
  have v1 := hs.lay.below (hW.trans (b1.mono hW.size))
  have hBW1 : W1.cell? ⟨Bv, 0, none⟩ = some (.pointer (some ⟨s.p, 0, none⟩)) := ((hW.trans (b1.mono hW.size)).cell (p := ⟨Bv, 0, none⟩) hBv).trans hB
  have bxY : Boxed W2 W.heap.size 97 (.func (.yield l) #[] #[]) := by rw [hW2, hW1]; exact (Boxed.new W _ _).alloc _
  have bxS : Boxed W2 (W.heap.size + 1) 60 s.rv := by rw [hW2, ← z1]; exact Boxed.new W1 _ _
  obtain ⟨K2, hK2d⟩ : ∃ K2 : Nat → Prop, K2 = fun k => K0 k ∨ (W.heap.size ≤ k ∧ k < W2.heap.size) := ⟨_, rfl⟩
  have hJ2 : J K2 [] W2 := by rw [hK2d]; exact hJ.keep _ _ _ _ h0 ⟨b2.os, b2.tape, b2.output, b2.size, fun k hk _ => b2.block k hk⟩
  have hKlt : ∀ k, K2 k → k < W2.heap.size := fun k hk => by
    rw [hK2d] at hk
    rcases hk with h | h
    · have := hK3 k h; have := hW.size; omega
    · exact h.2
  have hKY : K2 W.heap.size := by rw [hK2d]; exact .inr ⟨Nat.le_refl _, by omega⟩
  have hKS : K2 (W.heap.size + 1) := by rw [hK2d]; exact .inr ⟨by omega, by omega⟩
  have hKn : ∀ k, k < n₀ → K2 k := fun k hk => by rw [hK2d]; exact .inl (hK1 k hk)
  have c1 := v1.blk.cell 1
  simp at c1
  -- the rows' slice
  obtain ⟨A, c, hrv⟩ : ∃ A c, s.rv = .slice A s.nb c := by
    rcases own_forms v2.rows with ⟨e1, e2, _⟩ | ⟨g, cap, e1, _⟩
    · exact ⟨none, 0, by rw [e1, e2]⟩
    · exact ⟨_, _, e1⟩
  have hnb : s.nb ≤ 101 := by
    have h100 := v2.ris.1
    rcases hs.ful with ⟨h, _⟩ | ⟨h, _⟩ <;> omega
  obtain ⟨g, hR⟩ : ∃ g, RowsAt W2 A s.nb g (fun b => (s.ch b).C) ∧ (0 < s.nb → K2 g) := by
    by_cases h0 : 0 < s.nb
    · obtain ⟨g, cap, e1, _, _, _⟩ := v2.rowAt h0
      rw [hrv] at e1
      injection e1 with q1 q2 q3
      subst q1
      refine ⟨g, fun _ => ⟨rfl, (v2.rows.lt g (by rw [hrv]; rfl)).2, fun j hj => ?_⟩, fun _ => hKn g (hn₀ g (.inr (.inl (by rw [hrv]; rfl))))⟩
      obtain ⟨g', cap', e2, _, _, e3⟩ := v2.rowAt hj
      rw [hrv] at e2
      injection e2 with q4
      injection q4 with q4
      injection q4 with q4
      subst q4
      exact e3
    · exact ⟨0, fun h => absurd h h0, fun h => absurd h h0⟩
  have hbk := back_U (W.heap.size + 1) A s.nb c g (fun b => (s.ch b).C) W2 (by omega) (by have := bxS.cell; rwa [hrv] at this) (by omega) hR.1
  rw [hrv] at c1
  have hBk := callsIn_wide (n := 8) |>.2 (bw_any A s.nb c W1)
  rw [show W1.alloc (.cells #[.slice A s.nb c] 60) = W2 by rw [hW2, hrv]] at hBk
  have hflat : flatV s.nb L = L := by
    rcases hs.ful with ⟨h, _, h2⟩ | ⟨h, _⟩
    · rw [h2]
      have : ∀ n, flatV n ([] : List Vt) = [] := fun n => by induction n with | zero => rfl | succ n ih => rw [flatV, ih]; rfl
      exact this _
    · rw [h]; exact flatV_all hs.ok
  refine callsIn_of_wp_marks Try.func51 rfl trivial ?_ rfl
  simp only [Try.ntmps51, List.size_toArray, List.length_cons, List.length_nil, Nat.reduceAdd, Nat.reduceSub, Array.replicate_succ, Array.replicate_zero, List.push_toArray, List.append_toArray, List.nil_append, List.cons_append]
  rw [hW1] at hBW1 c1 hBk
  have HV2 := Lib.hid v2
  have HS := Lib.hid hs
  clear v1 v2 hs h0 hrv hW1 hW2
  gi_wp2_with fail
  refine ⟨trivial, ?_⟩
  refine hBk.mono ?_
  rintro e w3 ⟨rfl, hw3⟩
  rw [hw3]
  clear hBk c1 hBW1 hw3
  gi_wp2_with fail
  obtain ⟨act, hact⟩ : ∃ act : Nat → { j : Nat // j < s.nb } → Act, act = fun Bx x => { tmps := #[.func (.yield l) #[] #[], .pointer (some ⟨Bv, 0, none⟩), .pointer (some ⟨W.heap.size, 0, none⟩), .pointer (some ⟨Bx, 0, none⟩), .pointer (some ⟨(s.ch x.1).C, 0, none⟩), undef, undef, .pointer (some ⟨s.p, 0, none⟩), .bool false, .pointer (some ⟨s.p, 0, none⟩), .pointer (some ⟨s.p, 0, none⟩), .pointer (some ⟨s.p, 1, none⟩), .slice A s.nb c, .func (.func 61) #[] #[.pointer (some ⟨W.heap.size + 1, 0, none⟩)], .int .i64 (x.1 : Nat), .pointer (some ⟨(s.ch x.1).C, 0, none⟩), undef, undef, undef, undef, undef, undef, undef, undef, undef], defers := [] } := ⟨_, rfl⟩
  refine range_M (α := { j : Nat // j < s.nb }) (gf := 61) (lb := #[.pointer (some ⟨W.heap.size + 1, 0, none⟩)]) rfl (enters_of Try.func61 (by kernel_rfl) rfl)
    hbk (fun k hk => hKlt k (hk.elim (fun e => e ▸ hKS) (fun e => e.2 ▸ hR.2 e.1))) (fun _ => rfl) (InoI J L s.nb K2 W2) (fun c _ W => c = .ret ∧ ∃ pre, pre <+: L ∧ Jx pre W) (InoI.abi hJ (by omega) hKlt)
    (fun c s A B row hs hg hr => ⟨hs.1, by obtain ⟨_, pre, h1, h2⟩ := hs; exact ⟨pre, h1, hJx _ _ _ _ h2 hg (fun r e => ⟨by have := (hr r e).1; omega, (hr r e).2⟩)⟩⟩)
    ⟨K2, hJ2, fun _ h => h, fun k hk => hk.elim (fun e => e ▸ hKS) (fun e => e.2 ▸ hR.2 e.1), hKlt, fun _ _ => rfl, Nat.le_refl _⟩ (InoM J L s.nb K2 W2 act) ?hM ?assign ?body ?done (fun xs W l o h => .inl h) ?stop
  case hM =>
    rintro K pre x a' W' l' o o' ⟨K', Bx, h1, h2, h3, h4, h5, h6, h7, h8, h9, h10, h11⟩ hl ho hc hKl
    have hgr := grownBy_putObj' W' l' o'
    have hne : ∀ {k t v}, Boxed W' k t v → k ≠ l' := fun {k t v} hb e => by
      subst e
      rw [show W'.heap[k]? = _ from hb] at ho
      cases ho; cases hc
    refine ⟨K', Bx, hJ.turn _ _ _ _ _ h1 hgr (fun r e => by cases e; exact ⟨by omega, o, ho, hc⟩), h2, h3, fun k hk => Nat.lt_of_lt_of_le (h4 k hk) hgr.size, fun k hk => ?_, Nat.le_trans h6 hgr.size, h7, h8, h9.kept hgr (fun e => hne h9 (by cases e; rfl)), h10, h11⟩
    rw [hgr.block k (Nat.lt_of_lt_of_le (hKlt k hk) h6) (fun e => by cases e; have := hKlt _ hk; omega)]
    exact h5 k hk
  case assign =>
    rintro l' Ko pre x W' C hphi ⟨K, h1, h2, h3, h4, h5, h6⟩ hC
    have hfin : InoM J L s.nb K2 W2 act Ko pre x (act W'.heap.size x) (W'.alloc (.cells #[.int .i64 (x.1 : Nat)] 3)) := by
      have hg : W'.grownBy (W'.alloc (.cells #[.int .i64 (x.1 : Nat)] 3)) none := World.grownBy_alloc W' _ none
      refine ⟨_, W'.heap.size, hJ.keep _ _ _ _ h1 hg, fun k hk => .inl (h2 k hk), fun k hk => .inl (h3 k hk), fun k hk => ?_, fun k hk => ?_, Nat.le_trans h6 hg.size, .inr ⟨Nat.le_refl _, by simp⟩, h6, Boxed.new W' _ _, hphi, rfl⟩
      · rcases hk with h | h
        · exact Nat.lt_of_lt_of_le (h4 k h) hg.size
        · exact h.2
      · rw [hg.block k (Nat.lt_of_lt_of_le (hKlt k hk) h6) (by simp)]
        exact h5 k hk
    have hfin2 := hC _ _ (KeepsOthers.alloc W' _ |>.from _) (Turns.alloc _ W' _) hfin
    rw [hact] at hfin2
    clear hfin h1 hC
    gi_wp2
    exact hfin2
  case body =>
    rintro l' Ko pre x a' W' hl' ⟨r, hr⟩ hKl ⟨K, Bx, h1, h2, h3, h4, h5, h6, h7, h8, h9, h10, rfl⟩
    rw [hact]
    have hxb : x.1 < s.nb := x.2
    -- the world in which the inner loop begins
    obtain ⟨W3, hW3⟩ : ∃ W3, W3 = W'.alloc (.cells #[.pointer (some ⟨(s.ch x.1).C, 0, none⟩)] 71) := ⟨_, rfl⟩
    have hg3 : W'.grownBy W3 none := by rw [hW3]; exact World.grownBy_alloc W' _ none
    have z3 : W3.heap.size = W'.heap.size + 1 := by rw [hW3]; simp
    have hJ3 := hJ.turn _ _ _ W3 none h1 hg3 (fun r e => by cases e)
    have hold : ∀ k, k < W'.heap.size → W3.heap[k]? = W'.heap[k]? := fun k hk => hg3.block k hk (by simp)
    have hch3 : Gdi W3 (s.ch x.1) := by
      have hc := HV2.out.chn x.1 hxb
      refine ⟨hc.ch.keep (fun k hk => ?_), hc.ring⟩
      have hk2 : K2 k := hKn k (hn₀ k (.inr (.inr (.inr ⟨x.1, hxb, hk⟩))))
      rw [hold k (h4 k (h2 k hk2)), h5 k hk2]
    have hfl : ∀ k, (s.ch x.1).foot k → k < n₀ := fun k hk => hn₀ k (.inr (.inr (.inr ⟨x.1, hxb, hk⟩)))
    have hrow : (s.ch x.1).row = rowsOf hd L x.1 := HV2.out.row x.1 hxb
    have hlenr : (rowV x.1 L).length = (s.ch x.1).hs.length := by rw [← row_len, hrow, rowsOf_len]
    have hgl := HV2.out.chn x.1 hxb |>.len_le
    have hgs := HS.out.gs x.1 hxb
    have hl3 : W3.heap[l']? = some (.loop r) := by
      rw [hold l' (Array.getElem?_eq_some_iff.1 hr).1]; exact hr
    have bxC : Boxed W3 W'.heap.size 71 (.pointer (some ⟨(s.ch x.1).C, 0, none⟩)) := by rw [hW3]; exact Boxed.new W' _ _
    have bx3 : Boxed W3 Bx 3 (.int .i64 (x.1 : Nat)) := (hold Bx (h4 _ h7)).trans h9
    have by3 : Boxed W3 W.heap.size 97 (.func (.yield l) #[] #[]) := (hold _ (h4 _ (h2 _ hKY))).trans ((h5 _ hKY).trans bxY)
    have hKlt3 : ∀ k, K k → k < W3.heap.size := fun k hk => by have := h4 k hk; omega
    have hn3 : n₀ ≤ W3.heap.size := by have := hW.size; omega
    have hlenL : (topV s.nb pre.length L).length + (rowV x.1 L).length ≤ L.length := by
      have e := congrArg List.length (topV_flat (nb := s.nb) L (pre.length + 1) (by omega))
      rw [hflat] at e
      have e1 : s.nb - 1 - pre.length = x.1 := by omega
      simp only [topV, e1, List.length_append] at e
      omega
    have hpre : ∀ q, q <+: rowV x.1 L → topV s.nb pre.length L ++ q <+: L := fun q hq => by
      have e := topV_flat (nb := s.nb) L (pre.length + 1) (by omega)
      rw [hflat] at e
      have e1 : s.nb - 1 - pre.length = x.1 := by omega
      obtain ⟨q2, rfl'⟩ := hq
      refine ⟨q2 ++ flatV (s.nb - (pre.length + 1)) L, ?_⟩
      rw [← List.append_assoc, List.append_assoc (topV s.nb pre.length L), rfl', ← e1]
      exact e
    have hnext : topV s.nb (pre ++ [x]).length L = topV s.nb pre.length L ++ rowV x.1 L := by
      have e1 : s.nb - 1 - pre.length = x.1 := by omega
      rw [List.length_append]
      show topV s.nb (pre.length + 1) L = _
      rw [topV, e1]
    have hAll := callsIn_wide (n := 8) |>.2 (All_anyi (some ⟨(s.ch x.1).C, 0, none⟩) W')
    rw [← hW3] at hAll
    have HJ3 := Lib.hid hJ3
    have HP := Lib.hid (And.intro hlenL (And.intro hpre hnext))
    have HF := Lib.hid (And.intro h2 (And.intro h3 (And.intro h5 h6)))
    have HO := Lib.hid hold
    clear hW3 hJ3 hlenL hpre hnext h1 h9 h10 hold h2 h3 h5 h6
    gi_wp2_with fail
    refine ⟨trivial, ?_⟩
    refine (CallsIn.inRound l' hAll).mono ?_
    rintro e w4 ⟨rfl, hw4⟩
    rw [hw4]
    clear hAll hw4
    gi_wp2_with fail
    have hTurn : OwnFrom W3.heap.size (fun (_ : List { y : Int × Int // y ∈ (s.ch x.1).row }) V => Turns (fun k => ¬ K k) W3 V) := fun _ A B row hs hg hr =>
      hs.trans (Turns.grown (F := fun k => ¬ K k) hg (fun r e hk => by have := hKlt3 r hk; have := (hr r e).1; omega)) (fun _ => .inl)
    refine wpIn_rangeFunc_ownN (F := Fence.wide.inRound l') (n := 9) (α := { y : Int × Int // y ∈ (s.ch x.1).row }) (l₀ := l') (r₀ := r) rfl hl3 (by omega) (gf := 62) (lb := #[.pointer (some ⟨W'.heap.size, 0, none⟩)]) rfl trivial (enters_of Try.func62 (by kernel_rfl) rfl)
      ((All_stopsmi 8 W'.heap.size n₀ (s.ch x.1) W3 (by omega) hn3 bxC.cell hch3 hfl (by omega)).inRound l') belowK_t (belowK_b hn3) (Below.refl _ _) (fun _ => rfl)
      (fun pre' V => J K (topV s.nb pre.length L ++ pre'.map (fun y => vOf L y.1)) V ∧ (Turns (fun k => ¬ K k) W3 V ∧ KeepsFrom W2.heap.size W3 V))
      (fun c pre' V => (c = .ret ∧ Jx (topV s.nb pre.length L ++ pre'.map (fun y => vOf L y.1)) V) ∧ KeepsFrom W2.heap.size W3 V)
      (OwnFrom.and (fun _ A B row hs hg hr => hJ.turn _ _ _ _ _ hs hg (fun r e => ⟨by have := (hr r e).1; have := HF.out.2.2.2; omega, (hr r e).2⟩)) (OwnFrom.and hTurn (ownFrom_keepsFrom (Nat.le_refl _))))
      (fun c => OwnFrom.and (fun _ A B row hs hg hr => ⟨hs.1, hJx _ _ _ _ hs.2 hg (fun r e => ⟨by have := (hr r e).1; have := HF.out.2.2.2; omega, (hr r e).2⟩)⟩) (ownFrom_keepsFrom (Nat.le_refl _)))
      ⟨by simpa using HJ3.out, Turns.refl _ _, KeepsFrom.refl _ _⟩
      (fun y a'' _ => a'' = { tmps := #[.func (.yield l) #[] #[], .pointer (some ⟨Bv, 0, none⟩), .pointer (some ⟨W.heap.size, 0, none⟩), .pointer (some ⟨Bx, 0, none⟩), .pointer (some ⟨(s.ch x.1).C, 0, none⟩), undef, .int .i64 y.1.2, .pointer (some ⟨s.p, 0, none⟩), .bool false, .pointer (some ⟨s.p, 0, none⟩), .pointer (some ⟨s.p, 0, none⟩), .pointer (some ⟨s.p, 1, none⟩), .slice A s.nb c, .func (.func 61) #[] #[.pointer (some ⟨W.heap.size + 1, 0, none⟩)], .int .i64 (x.1 : Nat), .pointer (some ⟨(s.ch x.1).C, 0, none⟩), .pointer (some ⟨(s.ch x.1).C, 0, none⟩), .func (.func 62) #[] #[.pointer (some ⟨W'.heap.size, 0, none⟩)], .int .i64 y.1.1, .int .i64 y.1.2, undef, undef, undef, undef, undef], defers := [] })
      (fun _ _ => ownFrom_pure _ _) ?assign2 ?body2 ?done2 ?stop2
    case assign2 =>
      rintro l2 pre' y V C hi hC
      have hfin := hC _ V (KeepsFrom.refl _ _) (Below.refl _ _) hi rfl
      clear hC hi
      gi_wp2
      exact hfin
    case body2 =>
      rintro l2 pre' ⟨yv, hym⟩ a'' V hl2 ⟨r2, hr2⟩ ⟨hJ', ht', hk'⟩ rfl hlt'
      have hyr := hym
      rw [hrow] at hyr
      obtain ⟨hv1, hv2, hv3⟩ := vOf_mem HS.out.ok.nd hyr
      have hcY : V.cell? ⟨W.heap.size, 0, none⟩ = some (.func (.yield l) #[] #[]) := (World.cell?_of_block (ht'.block W.heap.size (by have := HF.out.2.2.2; omega) (by simpa using HF.out.1 _ hKY))).trans by3.cell
      have hcX : V.cell? ⟨Bx, 0, none⟩ = some (.int .i64 (x.1 : Nat)) := (World.cell?_of_block (ht'.block Bx (hKlt3 _ h7) (by simpa using h7))).trans bx3.cell
      have hy0 := hY K (topV s.nb pre.length L ++ pre'.map (fun y => vOf L y.1)) (vOf L yv) V ⟨hv1, by simp only [List.length_append, List.length_map]; have := HP.out.1; omega⟩ hJ'
      rw [hv2, hv3] at hy0
      obtain ⟨fn, tmps, assign, body, hy, hRr⟩ := yield_depthi 6 hy0
      clear hy0 hyr hv1 hv2 hv3
      have hn3V : n₀ ≤ V.heap.size := Nat.le_trans hn3 ht'.size
      have hKn' : ∀ k, k < n₀ → K k := fun k hk => HF.out.1 k (hKn k hk)
      have hcast : pre'.map (fun y => vOf L y.1) ++ [vOf L yv] = List.map (fun y : { y : Int × Int // y ∈ (s.ch x.1).row } => vOf L y.1) (pre' ++ [Subtype.mk yv hym]) := by simp
      have HCAST := Lib.hid hcast
      clear hcast
      dsimp only
      gi_wp2
      refine hRr.mono ?_
      rintro e V2 ⟨⟨rfl, hJ4, ht4⟩ | ⟨rfl, hx4⟩, hk4⟩
      · have hfin : KeepsFrom W3.heap.size V V2 ∧ Below n₀ V V2 ∧ J K (topV s.nb pre.length L ++ List.map (fun y : { y : Int × Int // y ∈ (s.ch x.1).row } => vOf L y.1) (pre' ++ [Subtype.mk yv hym])) V2 ∧ Turns (fun k => ¬ K k) W3 V2 ∧ KeepsFrom W2.heap.size W3 V2 := by
          refine ⟨keepsFrom_up hk4 (by have := HF.out.2.2.2; omega), ht4.below hn3V (fun b hb => ?_), ?_, ht'.trans ht4 (fun _ => .inl), hk'.trans (keepsFrom_up hk4 (by omega))⟩
          · rcases Nat.lt_or_ge b n₀ with h | h
            · exact absurd (hKn' b h) hb
            · exact h
          · rw [← HCAST.out, ← List.append_assoc]; exact hJ4
        have HFIN := Lib.hid hfin
        clear hy hRr hJ4 ht4 hk4 hfin
        gi_wp2
        exact HFIN.out
      · have hfin : KeepsFrom W3.heap.size V V2 ∧ (True ∧ Jx (topV s.nb pre.length L ++ List.map (fun y : { y : Int × Int // y ∈ (s.ch x.1).row } => vOf L y.1) (pre' ++ [Subtype.mk yv hym])) V2) ∧ KeepsFrom W2.heap.size W3 V2 := by
          refine ⟨keepsFrom_up hk4 (by have := HF.out.2.2.2; omega), ⟨trivial, ?_⟩, hk'.trans (keepsFrom_up hk4 (by omega))⟩
          rw [← HCAST.out, ← List.append_assoc]; exact hx4
        have HFIN := Lib.hid hfin
        clear hy hRr hx4 hk4 hfin
        gi_wp2
        exact ⟨HFIN.out.1, ⟨rfl, HFIN.out.2.1.2⟩, HFIN.out.2.2⟩
    case done2 =>
      rintro ys V hys ⟨hJ', ht', hk'⟩
      have hmap : ys.map (fun y => vOf L y.1) = rowV x.1 L := by
        have : ys.map (fun y => vOf L y.1) = (ys.map (·.1)).map (vOf L) := by rw [List.map_map]; rfl
        rw [this, hys, hrow]
        exact vOf_rows HS.out.ok.nd x.1
      rw [hmap, ← HP.out.2.2] at hJ'
      have hk0 : KeepsFrom W2.heap.size W' W3 := ⟨by omega, fun k o _ hk _ => by rw [HO.out k (Array.getElem?_eq_some_iff.1 hk).1]; exact hk⟩
      have ht0 : Turns (fun k => ¬ K k) W' W3 := Turns.grown hg3 (fun r e => by cases e)
      have hfin : KeepsFrom W2.heap.size W' V ∧ Turns (fun k => ¬ Ko k) W' V ∧ InoI J L s.nb K2 W2 Ko (pre ++ [x]) V := by
        refine ⟨hk0.trans hk', ?_, K, hJ', HF.out.1, HF.out.2.1, fun k hk => Nat.lt_of_lt_of_le (hKlt3 k hk) ht'.size, fun k hk => ?_, ?_⟩
        · exact (ht0.trans ht' (fun _ => .inl)).mono (fun k hk => .inl (fun h => hk (HF.out.2.1 k h)))
        · have hk3 := HF.out.1 k hk
          rw [ht'.block k (hKlt3 k hk3) (by simpa using hk3), HO.out k (h4 k hk3)]
          exact HF.out.2.2.1 k hk
        · have := ht'.size; have := HF.out.2.2.2; omega
      clear hJ' ht' hk' hk0 ht0 hmap
      (try simp only [Exit.inBlock])
      exact hfin
    case stop2 =>
      rintro c' pre' V hp ⟨⟨rfl, hx'⟩, hk'⟩
      have hk0 : KeepsFrom W2.heap.size W' W3 := ⟨by omega, fun k o _ hk _ => by rw [HO.out k (Array.getElem?_eq_some_iff.1 hk).1]; exact hk⟩
      have hpp : topV s.nb pre.length L ++ pre'.map (fun y => vOf L y.1) <+: L := by
        refine HP.out.2.1 _ ?_
        have : pre'.map (fun y => vOf L y.1) = (pre'.map (·.1)).map (vOf L) := by rw [List.map_map]; rfl
        rw [this, ← vOf_rows HS.out.ok.nd x.1, ← hrow]
        exact hp.map _
      have hfin : KeepsFrom W2.heap.size W' V ∧ ∃ pre, pre <+: L ∧ Jx pre V := ⟨hk0.trans hk', _, hpp, hx'⟩
      have HFIN := Lib.hid hfin
      clear hx' hk' hk0 hpp hfin hK2d z1 z2 z3
      gi_wp2
      exact ⟨HFIN.out.1, rfl, HFIN.out.2⟩
  case done =>
    rintro D Ko xs W' hD hxs ⟨K, h1, _⟩ hK
    have htop : topV s.nb xs.length L = L := by
      have := topV_flat (nb := s.nb) L s.nb (Nat.le_refl _)
      rw [Nat.sub_self, hflat] at this
      rw [hxs]
      simpa [flatV] using this
    rw [htop] at h1
    have hfin := hJ.turn _ _ _ _ (some D) h1 (grownBy_putObj' W' D (.deferred none)) (fun r e => by cases e; exact ⟨by omega, _, hK, rfl⟩)
    clear h1 htop
    (try simp only [Exit.inBlock])
    exact ⟨by simp, .inl ⟨_, _, rfl, run_takeDeferred hK, _, results_none rfl _ _ _, ⟨_, rfl⟩, .inl ⟨K, _, rfl, hfin⟩⟩⟩
  case stop =>
    rintro D c' pre W' hD _ ⟨rfl, pre0, hp0, hx0⟩ hK
    have hfin := hJx _ _ _ _ hx0 (grownBy_putObj' W' D (.deferred none)) (fun r e => by cases e; exact ⟨by omega, _, hK, rfl⟩)
    clear hx0
    gi_wp2
    exact ⟨by simp, .inl ⟨_, _, rfl, run_takeDeferred hK, _, results_none rfl _ _ _, ⟨_, rfl⟩, .inr ⟨pre0, hp0, hfin⟩⟩⟩
end Go.Proofs.Ytblclpagfbpamaa
