/-
  Voters in memory: their block, the thresholds, the row of chains, the map. What stays when other blocks turn; what a call on one of the chains, and a store into the map, make of it. The conditions stand in each theorem.
-/
import Derived.Test.YtblclpagfbpamaaVab
import Derived.Test.YtblclpagfbpamaaVmap
import Derived.Test.YtblclpagfbpamaaSrow
import Derived.Test.YtblclpagfbpamaaLmem
import Derived.Test.YtblclpagfbpamaaKcalls2i
namespace Go.Proofs.Ytblclpagfbpamaa
open Go.RowKit
set_option linter.unusedVariables false

/-! Blocks by their types. -/
/-- A block that voters may be made of. -/
def isV : Option Obj → Prop
  | some (.map _ _) => True
  | some (.cells _ t _) => t = 63 ∨ t = 71 ∨ t = 93 ∨ t = 95
  | _ => False
/-- A block that the reference's voters are made of. -/
def isR : Option Obj → Prop
  | some (.cells _ t _) => t = 33 ∨ t = 47
  | _ => False
/-- Only blocks of that kind, and new ones, have turned. -/
abbrev Tw (Φ : Option Obj → Prop) (w w' : World) : Prop := Turns (fun k => Φ w.heap[k]?) w w'
theorem Tw.refl (Φ : Option Obj → Prop) (w : World) : Tw Φ w w := Turns.refl _ _
theorem Tw.trans {Φ : Option Obj → Prop} {w w1 w2 : World} (h : Tw Φ w w1) (k : Tw Φ w1 w2) : Tw Φ w w2 := by
  refine Turns.trans h k fun b hb => ?_
  rcases Nat.lt_or_ge b w.heap.size with hl | hl
  · by_cases hp : Φ w.heap[b]?
    · exact .inl hp
    · rw [h.block b hl hp] at hb
      exact .inl hb
  · exact .inr hl
theorem Tw.of_below {Φ : Option Obj → Prop} {w w' : World} (h : Below w.heap.size w w') : Tw Φ w w' := Turns.of_below h
theorem KB.isV_iff {w : World} {b : Nat} {t : TypeId} {cs : Array Value} (h : KB w b t cs) : isV w.heap[b]? ↔ t = 63 ∨ t = 71 ∨ t = 93 ∨ t = 95 := by
  rw [show w.heap[b]? = _ from h]; exact Iff.rfl
theorem KB.isR_iff {w : World} {b : Nat} {t : TypeId} {cs : Array Value} (h : KB w b t cs) : isR w.heap[b]? ↔ t = 33 ∨ t = 47 := by
  rw [show w.heap[b]? = _ from h]; exact Iff.rfl
theorem KB.tw {Φ : Option Obj → Prop} {w w' : World} {b : Nat} {t : TypeId} {cs : Array Value} (h : KB w b t cs) (ht : Tw Φ w w') (hn : ¬ Φ w.heap[b]?) : KB w' b t cs := (ht.block b h.lt hn).trans h

/-- Voters as they lie in memory: their block, the thresholds' slice, the rows' slice, the map's block, how many rows there are, each row's chain, each voter's handle. -/
structure VS where
  p : Nat
  tA : Option Addr
  tn : Nat
  tc : Nat
  rv : Value
  m : Option Nat
  nb : Nat
  ch : Nat → ChS Int
def VS.ptrs (s : VS) : List Value := (List.range s.nb).map fun b => .pointer (some ⟨(s.ch b).C, 0, none⟩)
def VS.foot (s : VS) (k : Nat) : Prop := k = s.p ∨ s.rv.ownBlock = some k ∨ s.m = some k ∨ ∃ b, b < s.nb ∧ (s.ch b).foot k
def VS.reads (s : VS) (k : Nat) : Prop := s.foot k ∨ (Value.slice s.tA s.tn s.tc).ownBlock = some k

/-- They lie so in memory: the rows are R, the map is f. -/
structure Vl (base : Nat) (w : World) (s : VS) (T : List Nat) (R : Nat → List (Int × Int)) (f : Int → Option V3) (n : Nat) : Prop where
  blk : KB w s.p 63 #[.slice s.tA s.tn s.tc, s.rv, .map s.m]
  th : Owk .u64 34 w base s.tA s.tn s.tc T
  rows : w.ownsRow base 71 1 s.rv s.nb s.ptrs
  mp : Mv Try.prog 3 w s.m f n
  chn : ∀ b, b < s.nb → Gdi w (s.ch b)
  row : ∀ b, b < s.nb → (s.ch b).row = R b
  dis : ∀ b c, b < s.nb → c < s.nb → ∀ k, (s.ch b).foot k → (s.ch c).foot k → b = c
  mdis : ∀ b, b < s.nb → ∀ k, (s.ch b).foot k → s.m ≠ some k
  bp : base ≤ s.p
  bm : ∀ k, s.m = some k → base ≤ k
  bc : ∀ b, b < s.nb → ∀ k, (s.ch b).foot k → base ≤ k
  thB : Bl 18446744073709551616 T
  ris : Ris T

theorem Ch.footV {w : World} {s : ChS Int} (h : Chi w s) {k : Nat} (hk : s.foot k) : isV w.heap[k]? := by
  rcases hk with rfl | hk | ⟨x, hx, rfl⟩
  · exact h.blk.isV_iff.2 (.inr (.inr (.inl rfl)))
  · have := h.mp
    rw [hk] at this
    obtain ⟨es, c, e⟩ := this.isMap
    rw [e]; trivial
  · exact (h.mem x hx).isV_iff.2 (.inr (.inr (.inr rfl)))

section
variable {base : Nat} {w w' : World} {s : VS} {T : List Nat} {R : Nat → List (Int × Int)} {f : Int → Option V3} {n : Nat}
theorem Vl.footV (h : Vl base w s T R f n) {k : Nat} (hk : s.foot k) : isV w.heap[k]? := by
  rcases hk with rfl | hk | hk | ⟨b, hb, hk⟩
  · exact h.blk.isV_iff.2 (.inl rfl)
  · obtain ⟨cur, e⟩ := own_kb h.rows hk
    exact e.isV_iff.2 (.inr (.inl rfl))
  · have := h.mp
    rw [hk] at this
    obtain ⟨es, c, e⟩ := this.isMap
    rw [e]; trivial
  · exact (h.chn b hb).ch.footV hk
theorem Vl.foot_base (h : Vl base w s T R f n) {k : Nat} (hk : s.foot k) : base ≤ k := by
  rcases hk with rfl | hk | hk | ⟨b, hb, hk⟩
  · exact h.bp
  · exact (h.rows.lt k hk).1
  · exact h.bm k hk
  · exact h.bc b hb k hk
theorem Vl.thN (h : Vl base w s T R f n) {k : Nat} (hk : (Value.slice s.tA s.tn s.tc).ownBlock = some k) : ¬ isV w.heap[k]? := by
  obtain ⟨cur, e⟩ := own_kb h.th hk
  rw [e.isV_iff]
  decide
theorem Vl.reads_lt (h : Vl base w s T R f n) {k : Nat} (hk : s.reads k) : base ≤ k ∧ k < w.heap.size := by
  rcases hk with hk | hk
  · refine ⟨h.foot_base hk, ?_⟩
    have := h.footV hk
    rcases Nat.lt_or_ge k w.heap.size with hl | hl
    · exact hl
    · rw [Array.getElem?_eq_none hl] at this; exact this.elim
  · exact h.th.lt k hk
theorem Vl.readsNR (h : Vl base w s T R f n) {k : Nat} (hk : s.reads k) : ¬ isR w.heap[k]? := by
  rcases hk with hk | hk
  · have := h.footV hk
    generalize w.heap[k]? = o at this
    intro h2
    cases o with
    | none => exact h2.elim
    | some o =>
      cases o with
      | cells c t z =>
        change t = _ ∨ t = _ ∨ t = _ ∨ t = _ at this
        change t = _ ∨ t = _ at h2
        rcases this with rfl | rfl | rfl | rfl <;> revert h2 <;> decide
      | _ => exact h2.elim
  · obtain ⟨cur, e⟩ := own_kb h.th hk
    rw [e.isR_iff]
    decide
theorem Vl.keep (h : Vl base w s T R f n) (hk : ∀ k, s.reads k → w'.heap[k]? = w.heap[k]?) : Vl base w' s T R f n :=
  ⟨h.blk.keep (hk _ (.inl (.inl rfl))), own_keep h.th (fun g hg => hk g (.inr hg)), own_keep h.rows (fun g hg => hk g (.inl (.inr (.inl hg)))), h.mp.keep (fun m e => hk m (.inl (.inr (.inr (.inl e))))),
   fun b hb => ⟨(h.chn b hb).ch.keep (fun k hf => hk k (.inl (.inr (.inr (.inr ⟨b, hb, hf⟩))))), (h.chn b hb).ring⟩, h.row, h.dis, h.mdis, h.bp, h.bm, h.bc, h.thB, h.ris⟩
theorem Vl.below (h : Vl base w s T R f n) (hb : Below w.heap.size w w') : Vl base w' s T R f n := h.keep fun k hk => hb.block k (h.reads_lt hk).2
theorem Vl.turns {F : Nat → Prop} (h : Vl base w s T R f n) (ht : Turns F w w') (hF : ∀ k, s.reads k → ¬ F k) : Vl base w' s T R f n := h.keep fun k hk => ht.block k (h.reads_lt hk).2 (hF k hk)
theorem Vl.tw {Φ : Option Obj → Prop} (h : Vl base w s T R f n) (ht : Tw Φ w w') (hF : ∀ k, s.reads k → ¬ Φ w.heap[k]?) : Vl base w' s T R f n := h.turns ht hF
theorem Vl.base_le (h : Vl base w s T R f n) : base ≤ w.heap.size := by have := h.reads_lt (.inl (.inl rfl)); omega

/-- One bag's chain is another. -/
def VS.setCh (s : VS) (b : Nat) (c : ChS Int) : VS := { s with ch := fun k => if k = b then c else s.ch k }
def updR (R : Nat → List (Int × Int)) (b : Nat) (r : List (Int × Int)) : Nat → List (Int × Int) := fun k => if k = b then r else R k
theorem setCh_same {s : VS} {b : Nat} {c : ChS Int} : (s.setCh b c).ch b = c := by simp [VS.setCh]
theorem setCh_other {s : VS} {b k : Nat} {c : ChS Int} (h : k ≠ b) : (s.setCh b c).ch k = s.ch k := by simp [VS.setCh, h]
theorem setCh_ptrs {s : VS} {b : Nat} {c : ChS Int} (h : c.C = (s.ch b).C) : (s.setCh b c).ptrs = s.ptrs := by
  unfold VS.ptrs
  refine List.map_congr_left fun k _ => ?_
  by_cases e : k = b
  · subst e; rw [setCh_same, h]
  · rw [setCh_other e]
/-- A call on one of the chains: nothing else has turned. -/
theorem Vl.chain (h : Vl base w s T R f n) {b : Nat} (hb : b < s.nb) {g : Int} {r : List (Int × Int)} (hc : ChToi w w' (s.ch b) g r) :
    ∃ c, c.C = (s.ch b).C ∧ c.g = g ∧ Vl base w' (s.setCh b c) T (updR R b r) f n ∧ Tw isV w w' ∧ Below base w w' := by
  obtain ⟨c, h1, h2, h3, h4, h5, h6⟩ := hc
  have hcb := (h.chn b hb).ch
  have hsz := h5.size
  have hTw : Tw isV w w' := h5.mono fun k hk => .inl (hcb.footV hk)
  refine ⟨c, h2, h3, ?_, hTw, h5.below h.base_le (fun k hk => h.bc b hb k hk)⟩
  have hfC : ∀ {k cs}, KB w k 63 cs → ¬ (s.ch b).foot k := by
    rintro k cs hk (e | e | ⟨x, hx, e⟩)
    · exact hk.ne hcb.blk (by decide) e
    · have := hcb.mp
      rw [e] at this
      obtain ⟨es, q, e2⟩ := this.isMap
      unfold KB at hk
      rw [hk] at e2; cases e2
    · exact hk.ne (hcb.mem x hx) (by decide) e.symm
  have hfP : ∀ {k cs}, KB w k 71 cs → ¬ (s.ch b).foot k := by
    rintro k cs hk (e | e | ⟨x, hx, e⟩)
    · exact hk.ne hcb.blk (by decide) e
    · have := hcb.mp
      rw [e] at this
      obtain ⟨es, q, e2⟩ := this.isMap
      unfold KB at hk
      rw [hk] at e2; cases e2
    · exact hk.ne (hcb.mem x hx) (by decide) e.symm
  have hft : ∀ {j k}, j < s.nb → (s.ch j).foot k → k < w.heap.size := fun hj hk => (h.chn _ hj).ch.lt hk
  refine ⟨h.blk.turns h5 (hfC h.blk), own_keep h.th (fun k hk => h5.block k (h.th.lt k hk).2 (fun hf => h.thN hk (hcb.footV hf))), ?_, h.mp.keep (fun k e => h5.block k (by
      have := h.mp
      rw [e] at this
      exact this.lt) (fun hf => h.mdis b hb k hf e)), fun k hk => ?_, fun k hk => ?_, fun k j hk hj q hq1 hq2 => ?_, fun k hk q hq e => ?_, h.bp, h.bm, fun k hk q hq => ?_, h.thB, h.ris⟩
  · rw [setCh_ptrs h2]
    exact own_keep h.rows (fun k hk => h5.block k (h.rows.lt k hk).2 (fun hf => by
      obtain ⟨cur, e⟩ := own_kb h.rows hk
      exact hfP e hf))
  · by_cases e : k = b
    · subst e; rw [setCh_same]; exact h1
    · rw [setCh_other e]
      have hk' : k < s.nb := hk
      exact (h.chn k hk').turns h5 (fun q hq hf => e (h.dis k b hk' hb q hq hf))
  · by_cases e : k = b
    · subst e; rw [setCh_same]; simp [updR, h4]
    · rw [setCh_other e]; simp only [updR, if_neg e]; exact h.row k hk
  · have hk' : k < s.nb := hk
    have hj' : j < s.nb := hj
    by_cases e1 : k = b <;> by_cases e2 : j = b
    · rw [e1, e2]
    · subst e1
      rw [setCh_same] at hq1
      rw [setCh_other e2] at hq2
      rcases h6 q hq1 with hf | hf
      · exact h.dis k j hk' hj' q hf hq2
      · have := hft hj' hq2; omega
    · subst e2
      rw [setCh_same] at hq2
      rw [setCh_other e1] at hq1
      rcases h6 q hq2 with hf | hf
      · exact h.dis k j hk' hj' q hq1 hf
      · have := hft hk' hq1; omega
    · rw [setCh_other e1] at hq1
      rw [setCh_other e2] at hq2
      exact h.dis k j hk' hj' q hq1 hq2
  · have hk' : k < s.nb := hk
    have e' : s.m = some q := e
    by_cases e1 : k = b
    · subst e1
      rw [setCh_same] at hq
      rcases h6 q hq with hf | hf
      · exact h.mdis k hk' q hf e'
      · have h7 := h.mp
        rw [e'] at h7
        have := h7.lt; omega
    · rw [setCh_other e1] at hq
      exact h.mdis k hk' q hq e'
  · have hk' : k < s.nb := hk
    by_cases e1 : k = b
    · subst e1
      rw [setCh_same] at hq
      rcases h6 q hq with hf | hf
      · exact h.bc k hk' q hf
      · have := h.base_le; omega
    · rw [setCh_other e1] at hq
      exact h.bc k hk' q hq
/-- A store into the map. -/
theorem Vl.mapped (h : Vl base w s T R f n) {m : Nat} (hm : s.m = some m) {f' : Int → Option V3} {n' : Nat} (hmp : Mv Try.prog 3 w' (some m) f' n') (hg : w.grownBy w' (some m)) :
    Vl base w' s T R f' n' ∧ Tw isV w w' ∧ Below base w w' := by
  have hmp0 := h.mp
  rw [hm] at hmp0
  obtain ⟨es, q, hi⟩ := hmp0.isMap
  have hTw : Tw isV w w' := Turns.grown hg (F := fun k => isV w.heap[k]?) (fun r e => by cases e; show isV w.heap[m]?; rw [hi]; trivial)
  have hblk : ∀ k, k < w.heap.size → k ≠ m → w'.heap[k]? = w.heap[k]? := fun k hk hne => hg.block k hk (fun e => hne (by cases e; rfl))
  have hKB : ∀ {k t cs}, KB w k t cs → KB w' k t cs := fun {k t cs} hk => hk.keep (hblk k hk.lt (fun e => by
    subst e
    unfold KB at hk
    rw [hk] at hi; cases hi))
  have hbm := h.bm m hm
  refine ⟨⟨hKB h.blk, own_keep h.th (fun k hk => ?_), own_keep h.rows (fun k hk => ?_), by rw [hm]; exact hmp, fun b hb => ⟨(h.chn b hb).ch.keep (fun k hk => hblk k ((h.chn b hb).ch.lt hk) (fun e => h.mdis b hb k hk (by rw [hm, e]))), (h.chn b hb).ring⟩, h.row, h.dis, h.mdis, h.bp, h.bm, h.bc, h.thB, h.ris⟩, hTw, (Turns.grown hg (F := fun k => k = m) (fun r e => by cases e; rfl)).below h.base_le (fun k e => by rw [e]; exact hbm)⟩
  · obtain ⟨cur, e⟩ := own_kb h.th hk
    rw [show w.heap[k]? = _ from e]; exact hKB e
  · obtain ⟨cur, e⟩ := own_kb h.rows hk
    rw [show w.heap[k]? = _ from e]; exact hKB e
end

/-! By what voters say. -/
def f3 (hd : Int → Int) (L : List Vt) (i : Int) : Option V3 := (fnd L i).map fun x => (x.st, x.bag, hd i)
def rowsOf (hd : Int → Int) (L : List Vt) (b : Nat) : List (Int × Int) := (rowV b L).map fun x => (hd x.id, x.id)
/-- At block p lie voters with thresholds T, in the order L; no chain has given more handles than G. -/
structure Vg (base : Nat) (w : World) (s : VS) (hd : Int → Int) (T : List Nat) (L : List Vt) (G : Nat) : Prop where
  lay : Vl base w s T (rowsOf hd L) (f3 hd L) L.length
  ful : (s.nb = 0 ∧ s.m = none ∧ L = []) ∨ (s.nb = T.length + 1 ∧ ∃ m, s.m = some m)
  ok : VOk T.length L
  gs : ∀ b, b < s.nb → (s.ch b).g ≤ G
def VA (base : Nat) (w : World) (p : Nat) (T : List Nat) (L : List Vt) (G : Nat) : Prop := ∃ s hd, s.p = p ∧ Vg base w s hd T L G
/-- What a call made of the voters at p. -/
structure VTo (base : Nat) (w w' : World) (p : Nat) (T : List Nat) (L : List Vt) (G : Nat) : Prop where
  va : VA base w' p T L G
  bel : Below base w w'
  tw : Tw isV w w'
theorem VA.below {base : Nat} {w w' : World} {p : Nat} {T : List Nat} {L : List Vt} {G : Nat} (h : VA base w p T L G) (hb : Below w.heap.size w w') : VA base w' p T L G := by
  obtain ⟨s, hd, h1, h2⟩ := h
  exact ⟨s, hd, h1, ⟨h2.lay.below hb, h2.ful, h2.ok, h2.gs⟩⟩
theorem VA.twR {base : Nat} {w w' : World} {p : Nat} {T : List Nat} {L : List Vt} {G : Nat} (h : VA base w p T L G) (ht : Tw isR w w') : VA base w' p T L G := by
  obtain ⟨s, hd, h1, h2⟩ := h
  exact ⟨s, hd, h1, ⟨h2.lay.tw ht (fun k hk => h2.lay.readsNR hk), h2.ful, h2.ok, h2.gs⟩⟩
theorem VA.mono {base : Nat} {w : World} {p : Nat} {T : List Nat} {L : List Vt} {G G' : Nat} (h : VA base w p T L G) (hG : G ≤ G') : VA base w p T L G' := by
  obtain ⟨s, hd, h1, h2⟩ := h
  exact ⟨s, hd, h1, ⟨h2.lay, h2.ful, h2.ok, fun b hb => by have := h2.gs b hb; omega⟩⟩
theorem VA.ok {base : Nat} {w : World} {p : Nat} {T : List Nat} {L : List Vt} {G : Nat} (h : VA base w p T L G) : VOk T.length L := by obtain ⟨s, hd, h1, h2⟩ := h; exact h2.ok
theorem VA.lt {base : Nat} {w : World} {p : Nat} {T : List Nat} {L : List Vt} {G : Nat} (h : VA base w p T L G) : base ≤ p ∧ p < w.heap.size := by obtain ⟨s, hd, rfl, h2⟩ := h; exact h2.lay.reads_lt (.inl (.inl rfl))
theorem VTo.of_below {base : Nat} {w w' : World} {p : Nat} {T : List Nat} {L : List Vt} {G : Nat} (h : VA base w p T L G) (hb : Below w.heap.size w w') : VTo base w w' p T L G :=
  ⟨h.below hb, hb.mono (by have := h.lt; omega), Tw.of_below hb⟩
theorem VTo.trans {base : Nat} {w w1 w2 : World} {p : Nat} {T : List Nat} {L K : List Vt} {G G' : Nat} (h : VTo base w w1 p T L G) (k : VTo base w1 w2 p T K G') : VTo base w w2 p T K G' :=
  ⟨k.va, h.bel.trans k.bel, h.tw.trans k.tw⟩
end Go.Proofs.Ytblclpagfbpamaa
