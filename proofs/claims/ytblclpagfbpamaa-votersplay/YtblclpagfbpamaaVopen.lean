/-
  open of package voters: the rows are made. The conditions stand in each theorem.
-/
import Derived.Test.YtblclpagfbpamaaVput
import Derived.Deep.LoopGhost
namespace Go.Proofs.Ytblclpagfbpamaa
open Go.RowKit
set_option linter.unusedVariables false

theorem ptrInfo : (Try.prog.info? 71).map (fun i => (i.zero, i.size, i.bytes)) = some (some (.pointer none), 1, 8) := by kernel_rfl
abbrev chNew : Obj := .cells #[.map none, .int .i64 0, .int .i64 0, .int .i64 0] 93
abbrev chPt (C : Nat) : Obj := .cells #[.pointer (some ⟨C, 0, none⟩)] 71
/-- One row more. -/
def VS.more (s : VS) (C : Nat) (v : Value) : VS := { s with rv := v, nb := s.nb + 1, ch := fun k => if k = s.nb then newi C else s.ch k }
theorem more_new {s : VS} {C : Nat} {v : Value} : (s.more C v).ch s.nb = newi C := by simp [VS.more]
theorem more_old {s : VS} {C k : Nat} {v : Value} (h : k < s.nb) : (s.more C v).ch k = s.ch k := by
  have : k ≠ s.nb := by omega
  simp [VS.more, this]
theorem more_ptrs {s : VS} {C : Nat} {v : Value} : (s.more C v).ptrs = s.ptrs ++ [.pointer (some ⟨C, 0, none⟩)] := by
  unfold VS.ptrs
  show (List.range (s.nb + 1)).map _ = _
  rw [List.range_succ, List.map_append, List.map_cons, List.map_nil, more_new]
  congr 1
  exact List.map_congr_left fun k hk => by rw [more_old (List.mem_range.1 hk)]
theorem newi_foot {C k : Nat} : (newi C).foot k ↔ k = C := by
  constructor
  · rintro (h | h | ⟨x, hx, _⟩)
    · exact h
    · cases h
    · cases hx
  · exact fun h => .inl h
section
variable {base : Nat} {w w1 : World} {s : VS} {T : List Nat} {f : Int → Option V3} {n : Nat}
theorem Vl.more (h : Vl base w s T (fun _ => []) f n) {A : Option Addr} {c k : Nat} {A' : Option Addr} {c' : Nat} (hrv : s.rv = .slice A k c) (ho : w1.ownsRow base 71 1 (.slice A' (k + 1) c') (s.nb + 1) (s.ptrs ++ [.pointer (some ⟨w.heap.size, 0, none⟩)]))
    (ht : Turns (fun b => (Value.slice A k c).ownBlock = some b) ((w.alloc chNew).alloc (chPt w.heap.size)) w1) :
    Vl base (w1.setCell ⟨s.p, 1, none⟩ (.slice A' (k + 1) c')) (s.more w.heap.size (.slice A' (k + 1) c')) T (fun _ => []) f n ∧ Tw isV w (w1.setCell ⟨s.p, 1, none⟩ (.slice A' (k + 1) c')) ∧ Below base w (w1.setCell ⟨s.p, 1, none⟩ (.slice A' (k + 1) c')) := by
  have hb2 : Below w.heap.size w ((w.alloc chNew).alloc (chPt w.heap.size)) := ((Below.refl _ w).alloc (Nat.le_refl _) _).alloc (by simp) _
  have hB := h.below hb2
  have hF : ∀ k', (Value.slice A k c).ownBlock = some k' → ∃ cur, KB w k' 71 cur := fun k' e => own_kb h.rows (by rw [hrv]; exact e)
  -- a block of another type, or none of this row's
  have hk1 : ∀ {b t cs}, KB w b t cs → t ≠ 71 → w1.heap[b]? = w.heap[b]? := fun {b t cs} hk hne => by
    have e1 := hb2.block b hk.lt
    have := ht.block b (by have := hk.lt; have := hb2.size; omega) (fun e => by
      obtain ⟨cur, e2⟩ := hF b e
      exact hk.ne e2 hne rfl)
    rw [this, e1]
  have hmap : ∀ {b}, (∃ es q, w.heap[b]? = some (Obj.map es q)) → w1.heap[b]? = w.heap[b]? := fun {b} hh => by
    obtain ⟨es, q, hi⟩ := hh
    have hlt : b < w.heap.size := (Array.getElem?_eq_some_iff.1 hi).1
    have e1 := hb2.block b hlt
    have := ht.block b (by have := hb2.size; omega) (fun e => by
      obtain ⟨cur, e2⟩ := hF b e
      unfold KB at e2
      rw [hi] at e2; cases e2)
    rw [this, e1]
  have hset : ∀ {b}, b ≠ s.p → (w1.setCell ⟨s.p, 1, none⟩ (.slice A' (k + 1) c')).heap[b]? = w1.heap[b]? := fun {b} hne => Below.heap_setCell w1 _ _ b hne
  have hblk1 : KB w1 s.p 63 #[.slice s.tA s.tn s.tc, s.rv, .map s.m] := h.blk.keep (hk1 h.blk (by decide))
  have hp : ∀ {b t cs}, KB w b t cs → t ≠ 63 → b ≠ s.p := fun hk hne => hk.ne h.blk hne
  have hmp : ∀ {b}, (∃ es q, w.heap[b]? = some (Obj.map es q)) → b ≠ s.p := fun {b} hh e => by
    obtain ⟨es, q, hi⟩ := hh
    subst e
    have := h.blk
    unfold KB at this
    rw [hi] at this; cases this
  have hfoot : ∀ b, b < s.nb → ∀ q, (s.ch b).foot q → (w1.setCell ⟨s.p, 1, none⟩ (.slice A' (k + 1) c')).heap[q]? = w.heap[q]? := fun b hb q hq => by
    have hc := (h.chn b hb).ch
    rcases hq with rfl | hq | ⟨x, hx, rfl⟩
    · rw [hset (hp hc.blk (by decide)), hk1 hc.blk (by decide)]
    · have := hc.mp
      rw [hq] at this
      rw [hset (hmp this.isMap), hmap this.isMap]
    · rw [hset (hp (hc.mem x hx) (by decide)), hk1 (hc.mem x hx) (by decide)]
  have hsz : w.heap.size + 2 ≤ w1.heap.size := by have := ht.size; simpa using this
  have hC1 : KB w1 w.heap.size 93 #[.map none, .int .i64 0, .int .i64 0, .int .i64 0] := by
    have e0 : KB ((w.alloc chNew).alloc (chPt w.heap.size)) w.heap.size 93 #[.map none, .int .i64 0, .int .i64 0, .int .i64 0] := (KB.new w _ _).alloc _
    refine e0.turns ht (fun e => ?_)
    obtain ⟨cur, e2⟩ := hF _ e
    have := e2.lt; omega
  have hps : s.p < w.heap.size := h.blk.lt
  refine ⟨⟨?_, ?_, ?_, h.mp.keep (fun q e => ?_), fun b hb => ?_, fun b hb => ?_, fun b j hb hj q hq1 hq2 => ?_, fun b hb q hq e => ?_, h.bp, h.bm, fun b hb q hq => ?_, h.thB, h.ris⟩, ?_, ?_⟩
  · exact hblk1.set 1 (.slice A' (k + 1) c')
  · refine own_keep h.th (fun q e => ?_)
    obtain ⟨cur, e2⟩ := own_kb h.th e
    rw [hset (hp e2 (by decide)), hk1 e2 (by decide)]
  · rw [more_ptrs]
    refine own_keep ho (fun q e => hset ?_)
    obtain ⟨cur, e2⟩ := own_kb ho e
    exact e2.ne hblk1 (by decide)
  · have := h.mp
    rw [e] at this
    rw [hset (hmp this.isMap), hmap this.isMap]
  · rcases Nat.lt_or_ge b s.nb with hb' | hb'
    · rw [more_old hb']
      exact ⟨(h.chn b hb').ch.keep (hfoot b hb'), (h.chn b hb').ring⟩
    · obtain rfl : b = s.nb := by have : b < s.nb + 1 := hb; omega
      rw [more_new]
      have := new_gdi w
      refine ⟨this.ch.keep (fun q hq => ?_), this.ring⟩
      rw [newi_foot] at hq
      subst hq
      have e1 := KB.new w 93 #[.map none, .int .i64 0, .int .i64 0, .int .i64 0]
      rw [hset (by omega), show w1.heap[w.heap.size]? = _ from hC1]
      exact e1.symm
  · rcases Nat.lt_or_ge b s.nb with hb' | hb'
    · rw [more_old hb']; exact h.row b hb'
    · obtain rfl : b = s.nb := by have : b < s.nb + 1 := hb; omega
      rw [more_new]; rfl
  · have hb1 : b < s.nb + 1 := hb
    have hj1 : j < s.nb + 1 := hj
    rcases Nat.lt_or_ge b s.nb with hb' | hb' <;> rcases Nat.lt_or_ge j s.nb with hj' | hj'
    · rw [more_old hb'] at hq1
      rw [more_old hj'] at hq2
      exact h.dis b j hb' hj' q hq1 hq2
    · obtain rfl : j = s.nb := by omega
      rw [more_old hb'] at hq1
      rw [more_new, newi_foot] at hq2
      have := (h.chn b hb').ch.lt hq1
      omega
    · obtain rfl : b = s.nb := by omega
      rw [more_old hj'] at hq2
      rw [more_new, newi_foot] at hq1
      have := (h.chn j hj').ch.lt hq2
      omega
    · omega
  · have hb1 : b < s.nb + 1 := hb
    have e' : s.m = some q := e
    rcases Nat.lt_or_ge b s.nb with hb' | hb'
    · rw [more_old hb'] at hq
      exact h.mdis b hb' q hq e'
    · obtain rfl : b = s.nb := by omega
      rw [more_new, newi_foot] at hq
      have h7 := h.mp
      rw [e'] at h7
      have := h7.lt
      omega
  · have hb1 : b < s.nb + 1 := hb
    rcases Nat.lt_or_ge b s.nb with hb' | hb'
    · rw [more_old hb'] at hq
      exact h.bc b hb' q hq
    · obtain rfl : b = s.nb := by omega
      rw [more_new, newi_foot] at hq
      have := h.base_le
      omega
  · have t1 : Tw isV ((w.alloc chNew).alloc (chPt w.heap.size)) w1 := ht.mono fun b e => .inl (by
      obtain ⟨cur, e2⟩ := hF b e
      show isV ((w.alloc chNew).alloc (chPt w.heap.size)).heap[b]?
      rw [hb2.block b e2.lt]
      exact e2.isV_iff.2 (.inr (.inl rfl)))
    have t2 : Tw isV w1 (w1.setCell ⟨s.p, 1, none⟩ (.slice A' (k + 1) c')) := Turns.setCell w1 ⟨s.p, 1, none⟩ _ (hblk1.isV_iff.2 (.inl rfl))
    exact ((Tw.of_below hb2).trans t1).trans t2
  · refine ((hb2.mono h.base_le).trans (ht.below (by have := h.base_le; simp; omega) (fun b e => ?_))).setCell (p := ⟨s.p, 1, none⟩) h.bp _
    exact (h.rows.lt b (by rw [hrv]; exact e)).1
/-- The map is made. -/
theorem Vl.made (h : Vl base w s T (fun _ => []) (fun _ => none) 0) (h0 : s.nb = 0) : Vl base ((w.alloc (.map #[] 0)).setCell ⟨s.p, 2, none⟩ (.map (some w.heap.size))) { s with m := some w.heap.size } T (fun _ => []) (fun _ => none) 0 ∧
    Below base w ((w.alloc (.map #[] 0)).setCell ⟨s.p, 2, none⟩ (.map (some w.heap.size))) ∧ Tw isV w ((w.alloc (.map #[] 0)).setCell ⟨s.p, 2, none⟩ (.map (some w.heap.size))) := by
  have hb2 : Below w.heap.size w (w.alloc (.map #[] 0)) := (Below.refl _ w).alloc (Nat.le_refl _) _
  have hps : s.p < w.heap.size := h.blk.lt
  have hB := h.below hb2
  have hset : ∀ {b}, b ≠ s.p → ((w.alloc (.map #[] 0)).setCell ⟨s.p, 2, none⟩ (.map (some w.heap.size))).heap[b]? = (w.alloc (.map #[] 0)).heap[b]? := fun {b} hne => Below.heap_setCell _ _ _ b hne
  refine ⟨⟨?_, own_keep hB.th (fun q e => hset ?_), own_keep hB.rows (fun q e => hset ?_), ?_, fun b hb => by (have : b < s.nb := hb); omega, fun b hb => by (have : b < s.nb := hb); omega, fun b j hb => by (have : b < s.nb := hb); omega, fun b hb => by (have : b < s.nb := hb); omega, h.bp, fun q e => ?_, fun b hb => by (have : b < s.nb := hb); omega, h.thB, h.ris⟩, ?_, ?_⟩
  · exact hB.blk.set 2 (.map (some w.heap.size))
  · obtain ⟨cur, e2⟩ := own_kb hB.th e
    exact e2.ne hB.blk (by decide)
  · obtain ⟨cur, e2⟩ := own_kb hB.rows e
    exact e2.ne hB.blk (by decide)
  · exact (Mv.made Try.prog 3 w).keep fun q e => by cases e; exact hset (by omega)
  · cases e; exact h.base_le
  · exact (hb2.mono h.base_le).setCell (p := ⟨s.p, 2, none⟩) h.bp _
  · exact (Tw.of_below hb2).trans (Turns.setCell _ ⟨s.p, 2, none⟩ _ (hB.blk.isV_iff.2 (.inl rfl)))

set_option maxRecDepth 100000 in
set_option maxHeartbeats 3200000 in
theorem vopen_any {hd : Int → Int} {L : List Vt} {G : Nat} (hs : Vg base w s hd T L G) :
    Calls Try.prog 32 #[.pointer (some ⟨s.p, 0, none⟩)] w fun e w' => e = .returned (.tuple #[]) ∧ ∃ s', s'.p = s.p ∧ s'.nb = T.length + 1 ∧ Vg base w' s' hd T L G ∧ Tw isV w w' ∧ Below base w w' := by
  have c2 := hs.lay.blk.cell 2
  rcases hs.ful with ⟨h0, hm, hL⟩ | ⟨h1, m, hm⟩
  · subst hL
    rw [hm] at c2
    have f2 := hs.lay.blk.frozen 2
    have hq := run_neq_map_nil (P := Try.prog) w 61 3 65 none Try.underlying61
    simp at c2 hq
    have hmm := @run_makeMap Try.prog
    have hlay : Vl base w s T (fun _ => []) (fun _ => none) 0 := hs.lay
    obtain ⟨v1, b1, t1⟩ := hlay.made h0
    have hlen := hlay.th.len
    have hl100 := hlay.ris.1
    have hlt := hlay.blk.lt
    have HS := Lib.hid hs
    have HM := Lib.hid (And.intro h0 hm)
    clear hs h0 hm hlay
    have hW : ((w.alloc (.map #[] 0)).setCell ⟨s.p, 2, none⟩ (.map (some w.heap.size))) = ((w.setCell ⟨s.p, 2, none⟩ (.map (some w.heap.size))).alloc (.map #[] 0)) := by rw [World.setCell_alloc_past _ _ _ _ hlt]
    go_enter Try.func32, Try.ntmps32
    go_upto_region 2 with (fail)
    rw [← hW]
    generalize ((w.alloc (.map #[] 0)).setCell ⟨s.p, 2, none⟩ (.map (some w.heap.size))) = W1 at v1 b1 t1 ⊢
    have c0 := v1.blk.cell 0
    simp at c0
    generalize w.heap.size = mb at v1 ⊢
    have HV := Lib.hid (And.intro v1 (And.intro b1 t1))
    have hwr : IntKind.i64.wrap ((s.tn : Int) + 1) = (s.tn : Int) + 1 := IntWalk.i64_in _ (by omega)
    have hsm := HM.out.1
    have HL := Lib.hid hlen
    have hlb : s.tn ≤ 100 := by omega
    clear c2 f2 hq hmm v1 b1 t1 hW hlt hlen
    go_wp2_with fail
    go_loopg [17] (s.tn + 1) (fun gk tv wr => ∃ s' : VS, s'.nb + gk = s.tn + 1 ∧ tv = .int .i64 (s'.nb : Int) ∧ s'.p = s.p ∧ s'.m = some mb ∧ Vl base wr s' T (fun _ => []) (fun _ => none) 0 ∧ (∀ b, b < s'.nb → (s'.ch b).g = 0) ∧ Tw isV w wr ∧ Below base w wr)
    case atStart => exact ⟨{ s with m := some mb }, by show s.nb + _ = _; rw [hsm]; omega, by show _ = Value.int .i64 (s.nb : Int); rw [hsm]; rfl, rfl, rfl, HV.out.1, fun b hb => by (have : b < s.nb := hb); omega, HV.out.2.2, HV.out.2.1⟩
    case round =>
      obtain ⟨s', hk, rfl, hp, hm', hv, hg, htw, hbw⟩ := hrel
      by_cases hlt : s'.nb < s.tn + 1
      · have hlt' : (s'.nb : Int) < (s.tn : Int) + 1 := by omega
        obtain ⟨A, c, hrv⟩ : ∃ A c, s'.rv = .slice A s'.nb c := by
          rcases own_forms hv.rows with ⟨e1, e2, _⟩ | ⟨g, cap, e1, _⟩
          · exact ⟨none, 0, by rw [e1, e2]⟩
          · exact ⟨_, _, e1⟩
        have k1 := hv.blk.cell 1
        have kf := hv.blk.frozen 1
        rw [hp, hrv] at k1
        rw [hp] at kf
        simp at k1
        have hb2 : Below wr.heap.size wr ((wr.drew.alloc chNew).alloc (chPt wr.heap.size)) := ((Below.refl _ wr).drew.alloc (Nat.le_refl _) _).alloc (by simp) _
        have ho := own_below hv.rows hb2 (fun g' e => (hv.rows.lt g' e).2)
        rw [hrv] at ho
        have hsr : Sr 1 ((wr.drew.alloc chNew).alloc (chPt wr.heap.size)) (some ⟨wr.heap.size + 1, 0, none⟩) 1 1 [.pointer (some ⟨wr.heap.size, 0, none⟩)] := by
          have := Sr.new (sz := 1) (wr.drew.alloc chNew) 71 #[.pointer (some ⟨wr.heap.size, 0, none⟩)] rfl
          simpa using this
        have hbs : base ≤ ((wr.drew.alloc chNew).alloc (chPt wr.heap.size)).heap.size := by have := hv.base_le; simp; omega
        have HO := Lib.hid ho
        have HSR := Lib.hid hsr
        have K1 : (wr.alloc (.cells #[.map none, .int .i64 0, .int .i64 0, .int .i64 0] 93)).cell? ⟨s.p, 1, none⟩ = some (.slice A s'.nb c) := by
          have := (hv.blk.below ((Below.refl _ wr).alloc (Nat.le_refl _) chNew) hv.blk.lt).cell 1
          rw [hp, hrv] at this
          simpa using this
        have K2 : ((wr.alloc (.cells #[.map none, .int .i64 0, .int .i64 0, .int .i64 0] 93)).alloc (.cells #[.pointer (some ⟨wr.heap.size, 0, none⟩)] 71)).cell? ⟨s.p, 1, none⟩ = some (.slice A s'.nb c) := by
          have := (hv.blk.below (((Below.refl _ wr).alloc (Nat.le_refl _) chNew).alloc (by simp) (chPt wr.heap.size)) hv.blk.lt).cell 1
          rw [hp, hrv] at this
          simpa using this
        have hnf : ∀ g', (Value.slice A s'.nb c).ownBlock = some g' → ∃ cur, KB wr g' 71 cur := fun g' e => own_kb hv.rows (by rw [hrv]; exact e)
        have fin : ∀ A1 d1 w1, w1.ownsRow base 71 1 (.slice A1 (s'.nb + 1) d1) (s'.nb + 1) (s'.ptrs ++ [.pointer (some ⟨wr.heap.size, 0, none⟩)]) → Turns (fun b => (Value.slice A s'.nb c).ownBlock = some b) ((wr.drew.alloc chNew).alloc (chPt wr.heap.size)) w1 →
            w1.cell? ⟨s.p, 1, none⟩ = some (.slice A s'.nb c) ∧ w1.frozen? ⟨s.p, 1, none⟩ = false ∧ ∃ s2 : VS, s2.nb = s'.nb + 1 ∧ s2.p = s.p ∧ s2.m = some mb ∧ Vl base (w1.setCell ⟨s.p, 1, none⟩ (.slice A1 (s'.nb + 1) d1)) s2 T (fun _ => []) (fun _ => none) 0 ∧ (∀ b, b < s2.nb → (s2.ch b).g = 0) ∧ Tw isV w (w1.setCell ⟨s.p, 1, none⟩ (.slice A1 (s'.nb + 1) d1)) ∧ Below base w (w1.setCell ⟨s.p, 1, none⟩ (.slice A1 (s'.nb + 1) d1)) := fun A1 d1 w1 o1 t1 => by
          have hvd : Vl base wr.drew s' T (fun _ => []) (fun _ => none) 0 := hv.keep (fun _ _ => rfl)
          obtain ⟨q1, q2, q3⟩ := hvd.more hrv o1 t1
          have e1 := (hv.blk.below hb2 hv.blk.lt).turns t1 (fun e => by
            obtain ⟨cur, e2⟩ := hnf _ e
            exact e2.ne hv.blk (by decide) rfl)
          have d0 := e1.cell 1
          have df := e1.frozen 1
          rw [hp, hrv] at d0
          rw [hp] at df q2 q3
          simp at d0
          refine ⟨d0, df, s'.more wr.heap.size (.slice A1 (s'.nb + 1) d1), rfl, hp, hm', by rw [← hp]; exact q1, fun b hb => ?_, htw.trans (tw_undrew q2), hbw.trans (below_undrew q3)⟩
          have hb1 : b < s'.nb + 1 := hb
          rcases Nat.lt_or_ge b s'.nb with hb' | hb'
          · rw [more_old hb']; exact hg b hb'
          · obtain rfl : b = s'.nb := by omega
            rw [more_new]; rfl
        have FIN := Lib.hid fin
        have HK := Lib.hid hk
        clear ho hsr hnf fin hv hrv hb2 hk hbw htw hg hm' hp HV HS HM
        go_upto_region 4 with (fail)
        go_region_law (first
          | (refine step_appS _ 1 8 _ 71 rfl (.tmp 23) (.tmp 25) 60 rfl base Try.underlying60 ptrInfo rfl (by decide) A (some ⟨wr.heap.size + 1, 0, none⟩) s'.nb c 1 1 s'.ptrs [.pointer (some ⟨wr.heap.size, 0, none⟩)] (by simp [Act.eval]) (by simp [Act.eval]) HO.out HSR.out (by simp [Value.oneCell']) (by unfold maxLen; omega) (by omega) hbs ?_; intro A1 d1 w1 o1 t1 b1'; obtain ⟨z0, zf, s2, z1, z2, z3, z4⟩ := FIN.out A1 d1 w1 o1 t1; have Z4 := Lib.hid z4; clear o1 b1' t1 z4)
          | (go_simp; go_at_call 45; refine (new_anyi _).mono ?_; rintro e w6 ⟨rfl, rfl⟩))
        all_goals
          have hwn : IntKind.i64.wrap ((s'.nb : Int) + 1) = (s'.nb : Int) + 1 := IntWalk.i64_in _ (by omega)
          go_wp2
          go_roundg (gk - 1)
          case measure => have := HK.out; omega
          case rel => exact ⟨s2, by rw [z1]; have := HK.out; omega, by rw [z1]; go_num, z2, z3, Z4.out⟩
      · have hlt' : ¬ (s'.nb : Int) < (s.tn : Int) + 1 := by omega
        have hfin : s'.nb = T.length + 1 := by rw [HL.out]; omega
        have HF := Lib.hid hfin
        have hVG : Vg base wr s' hd T [] G := ⟨hv, .inr ⟨hfin, mb, hm'⟩, VOk.nil _, fun b hb => by rw [hg b hb]; omega⟩
        have HVG := Lib.hid hVG
        clear hVG hfin hv
        go_wp2
        (try simp only [Exit.inBlock, Exit.then])
        go_end0
        exact ⟨rfl, s', hp, HF.out, HVG.out, htw, hbw⟩
  · rw [hm] at c2
    have hq := run_neq_map_nil (P := Try.prog) w 61 3 65 (some m) Try.underlying61
    simp at c2 hq
    have HS := Lib.hid hs
    clear hs hm
    go_enter Try.func32, Try.ntmps32
    go_wp2
    (try simp only [Exit.inBlock, Exit.then])
    refine bodyPost_ret (results_none rfl _ _ _) rfl ?_
    exact ⟨rfl, s, rfl, h1, HS.out, Tw.refl _ _, Below.refl _ _⟩
end
end Go.Proofs.Ytblclpagfbpamaa
