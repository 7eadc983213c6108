/-
  A chain in memory: its block, its map, a block for each member. What stays when other blocks turn; what each store makes of it. For whatever kind of member (one cell); the conditions stand in each theorem.
-/
import Derived.Test.YtckeghmhkghelaaKmap
import Derived.Test.YtckeghmhkghelaaChecked
import Derived.WalkKit
import Derived.Below
import Derived.Laws.World
namespace Go.Proofs.Ytckeghmhkghelaa
open Go.RowKit
set_option linter.unusedVariables false

/-! Worlds that are alike but for some blocks. -/
structure Turns (F : Nat → Prop) (w w' : World) : Prop where
  os : w'.os = w.os
  tape : w'.tape = w.tape
  output : w'.output = w.output
  size : w.heap.size ≤ w'.heap.size
  block : ∀ k, k < w.heap.size → ¬ F k → w'.heap[k]? = w.heap[k]?
theorem Turns.refl (F : Nat → Prop) (w : World) : Turns F w w := ⟨rfl, rfl, rfl, Nat.le_refl _, fun _ _ _ => rfl⟩
theorem Turns.trans {F G : Nat → Prop} {w w1 w2 : World} (h : Turns F w w1) (k : Turns G w1 w2) (hG : ∀ b, G b → F b ∨ w.heap.size ≤ b) : Turns F w w2 :=
  ⟨k.os.trans h.os, k.tape.trans h.tape, k.output.trans h.output, Nat.le_trans h.size k.size, fun b hb hF =>
    (k.block b (Nat.lt_of_lt_of_le hb h.size) (fun hg => by rcases hG b hg with h | h; exact hF h; omega)).trans (h.block b hb hF)⟩
theorem Turns.mono {F G : Nat → Prop} {w w' : World} (h : Turns F w w') (hF : ∀ b, F b → G b ∨ w.heap.size ≤ b) : Turns G w w' :=
  ⟨h.os, h.tape, h.output, h.size, fun b hb hG => h.block b hb (fun hf => by rcases hF b hf with h | h; exact hG h; omega)⟩
theorem Turns.below {F : Nat → Prop} {w w' : World} (h : Turns F w w') {B : Nat} (hB : B ≤ w.heap.size) (hF : ∀ b, F b → B ≤ b) : Below B w w' :=
  ⟨h.os, h.tape, h.output, h.size, fun b hb => h.block b (by omega) (fun hf => by have := hF b hf; omega)⟩
theorem Turns.of_below {F : Nat → Prop} {w w' : World} (h : Below w.heap.size w w') : Turns F w w' := ⟨h.os, h.tape, h.output, h.size, fun b hb _ => h.block b hb⟩
theorem Turns.setCell {F : Nat → Prop} (w : World) (p : Addr) (u : Value) (hp : F p.block) : Turns F w (w.setCell p u) :=
  ⟨rfl, rfl, rfl, by simp [World.setCell], fun b _ hb => Below.heap_setCell w p u b (fun e => hb (e ▸ hp))⟩
theorem Turns.alloc (F : Nat → Prop) (w : World) (o : Obj) : Turns F w (w.alloc o) := ⟨rfl, rfl, rfl, by simp, fun b hb _ => Below.heap_alloc w o b hb⟩
theorem Turns.drew {F : Nat → Prop} {w w' : World} (h : Turns F w w') : Turns F w w'.drew := ⟨h.os, h.tape, h.output, h.size, h.block⟩
theorem Turns.grown {F : Nat → Prop} {w w' : World} {row : Option Nat} (h : w.grownBy w' row) (hr : ∀ r, row = some r → F r) : Turns F w w' :=
  ⟨h.os, h.tape, h.output, h.size, fun b hb hF => h.block b hb (fun e => hF (hr b e.symm))⟩

/-! A block that is known whole. -/
def KB (w : World) (b : Nat) (t : TypeId) (cs : Array Value) : Prop := w.heap[b]? = some (.cells cs t (0, 0))
theorem KB.lt {w : World} {b : Nat} {t : TypeId} {cs : Array Value} (h : KB w b t cs) : b < w.heap.size := (Array.getElem?_eq_some_iff.1 h).1
theorem KB.cell {w : World} {b : Nat} {t : TypeId} {cs : Array Value} (h : KB w b t cs) (i : Nat) : w.cell? ⟨b, i, none⟩ = cs[i]? := by
  simp [World.cell?, show w.heap[b]? = _ from h]
theorem KB.frozen {w : World} {b : Nat} {t : TypeId} {cs : Array Value} (h : KB w b t cs) (i : Nat) : w.frozen? ⟨b, i, none⟩ = false := by
  simp [World.frozen?, show w.heap[b]? = _ from h]
theorem KB.set {w : World} {b : Nat} {t : TypeId} {cs : Array Value} (h : KB w b t cs) (i : Nat) (u : Value) : KB (w.setCell ⟨b, i, none⟩ u) b t (cs.setIfInBounds i u) := by
  unfold KB at h ⊢
  simp [World.setCell, Array.getElem?_modify, h]
theorem KB.far {w : World} {b : Nat} {t : TypeId} {cs : Array Value} (h : KB w b t cs) {p : Addr} (hp : b ≠ p.block) (u : Value) : KB (w.setCell p u) b t cs := (Below.heap_setCell w p u b hp).trans h
theorem KB.new (w : World) (t : TypeId) (cs : Array Value) : KB (w.alloc (.cells cs t)) w.heap.size t cs := (Go.MapKept.heap_alloc w _).1
theorem KB.keep {w w' : World} {b : Nat} {t : TypeId} {cs : Array Value} (h : KB w b t cs) (hk : w'.heap[b]? = w.heap[b]?) : KB w' b t cs := hk.trans h
theorem KB.alloc {w : World} {b : Nat} {t : TypeId} {cs : Array Value} (h : KB w b t cs) (o : Obj) : KB (w.alloc o) b t cs := (Below.heap_alloc w o b h.lt).trans h
theorem KB.ne {w : World} {b b' : Nat} {t t' : TypeId} {cs cs' : Array Value} (h : KB w b t cs) (h' : KB w b' t' cs') (hne : t ≠ t') : b ≠ b' := by
  rintro rfl
  unfold KB at h h'
  rw [h] at h'
  injection h' with h'
  injection h' with _ ht
  exact hne ht
theorem KB.turns {F : Nat → Prop} {w w' : World} {b : Nat} {t : TypeId} {cs : Array Value} (h : KB w b t cs) (ht : Turns F w w') (hF : ¬ F b) : KB w' b t cs := (ht.block b h.lt hF).trans h
theorem KB.below {B : Nat} {w w' : World} {b : Nat} {t : TypeId} {cs : Array Value} (h : KB w b t cs) (hb : Below B w w') (hB : b < B) : KB w' b t cs := (hb.block b hB).trans h

/-- What a chain is: its block, its map's block, the greatest handle, the handles, each one's block, neighbours and value. -/
structure ChS (β : Type) where
  C : Nat
  m : Option Nat
  g : Int
  hs : List Int
  bl : Int → Nat
  bf : Int → Int
  af : Int → Int
  vl : Int → β

/-- Each handle's block. -/
def fH (hs : List Int) (bl : Int → Nat) (h : Int) : Option Nat := if h ∈ hs then some (bl h) else none
theorem fH_mem {hs : List Int} {bl : Int → Nat} {h : Int} (hm : h ∈ hs) : fH hs bl h = some (bl h) := if_pos hm
theorem fH_not {hs : List Int} {bl : Int → Nat} {h : Int} (hm : h ∉ hs) : fH hs bl h = none := if_neg hm

section
variable {β : Type} {ev : β → Value} {TC TM : TypeId} {w w' : World} {s : ChS β}

structure Ch (ev : β → Value) (TC TM : TypeId) (w : World) (s : ChS β) : Prop where
  blk : KB w s.C TC #[.map s.m, .int .i64 (s.bf 0), .int .i64 (s.af 0), .int .i64 s.g]
  mp : Mp Try.prog 3 w s.m (fH s.hs s.bl) s.hs.length
  mem : ∀ h ∈ s.hs, KB w (s.bl h) TM #[.int .i64 (s.bf h), .int .i64 (s.af h), ev (s.vl h)]
  inj : ∀ h ∈ s.hs, ∀ h' ∈ s.hs, s.bl h = s.bl h' → h = h'
  pos : ∀ h ∈ s.hs, 0 < h ∧ h ≤ s.g
  nd : s.hs.Nodup
  g0 : 0 ≤ s.g
  gw : (Lit.int .i64 s.g).wf = true

theorem wf_mid {h g : Int} (h0 : 0 ≤ h) (hg : h ≤ g) (hw : (Lit.int .i64 g).wf = true) : (Lit.int .i64 h).wf = true := by
  simp only [Lit.wf, decide_eq_true_eq, Bool.and_eq_true] at hw ⊢
  have h1 : IntKind.i64.min ≤ 0 := by decide
  omega
theorem Ch.wf (hc : Ch ev TC TM w s) {h : Int} (hh : h = 0 ∨ h ∈ s.hs) : (Lit.int .i64 h).wf = true := by
  rcases hh with rfl | hh
  · decide
  · have := hc.pos h hh
    exact wf_mid (by omega) this.2 hc.gw
/-- The blocks that a chain is made of. -/
def ChS.foot (s : ChS β) (b : Nat) : Prop := b = s.C ∨ s.m = some b ∨ ∃ h ∈ s.hs, s.bl h = b

theorem Ch.lt (h : Ch ev TC TM w s) {b : Nat} (hb : s.foot b) : b < w.heap.size := by
  rcases hb with rfl | hb | ⟨x, hx, rfl⟩
  · exact h.blk.lt
  · have := h.mp
    rw [hb] at this
    exact this.lt
  · exact (h.mem x hx).lt
theorem Ch.keep (h : Ch ev TC TM w s) (hk : ∀ b, s.foot b → w'.heap[b]? = w.heap[b]?) : Ch ev TC TM w' s :=
  ⟨h.blk.keep (hk _ (.inl rfl)), h.mp.keep (fun m e => hk m (.inr (.inl e))), fun x hx => (h.mem x hx).keep (hk _ (.inr (.inr ⟨x, hx, rfl⟩))), h.inj, h.pos, h.nd, h.g0, h.gw⟩
theorem Ch.turns {F : Nat → Prop} (h : Ch ev TC TM w s) (ht : Turns F w w') (hF : ∀ b, s.foot b → ¬ F b) : Ch ev TC TM w' s := h.keep fun b hb => ht.block b (h.lt hb) (hF b hb)
theorem Ch.alloc (h : Ch ev TC TM w s) (o : Obj) : Ch ev TC TM (w.alloc o) s := h.keep fun b hb => Below.heap_alloc w o b (h.lt hb)
theorem Ch.drew (h : Ch ev TC TM w s) : Ch ev TC TM w.drew s := h.keep fun _ _ => rfl
theorem Ch.far (h : Ch ev TC TM w s) {p : Addr} (hp : ¬ s.foot p.block) (u : Value) : Ch ev TC TM (w.setCell p u) s := h.keep fun b hb => Below.heap_setCell w p u b (fun e => hp (e ▸ hb))
theorem Ch.below (h : Ch ev TC TM w s) {B : Nat} (hb : Below B w w') (hF : ∀ b, s.foot b → b < B) : Ch ev TC TM w' s := h.keep fun b hf => hb.block b (hF b hf)

/-- Where the neighbours of a member, or of the ends, lie. -/
def nB (C : Nat) (bl : Int → Nat) (h : Int) : Nat := if h = 0 then C else bl h
def nO (h : Int) : Nat := if h = 0 then 1 else 0
theorem foot_nB {h : Int} (hh : h = 0 ∨ h ∈ s.hs) : s.foot (nB s.C s.bl h) := by
  unfold nB
  split
  · exact .inl rfl
  · exact .inr (.inr ⟨h, hh.resolve_left ‹_›, rfl⟩)

theorem Ch.cB (hc : Ch ev TC TM w s) {h : Int} (hh : h = 0 ∨ h ∈ s.hs) : w.cell? ⟨nB s.C s.bl h, nO h, none⟩ = some (.int .i64 (s.bf h)) := by
  unfold nB nO
  split
  · subst h; exact hc.blk.cell 1
  · exact (hc.mem h (hh.resolve_left ‹_›)).cell 0
theorem Ch.cA (hc : Ch ev TC TM w s) {h : Int} (hh : h = 0 ∨ h ∈ s.hs) : w.cell? ⟨nB s.C s.bl h, nO h + 1, none⟩ = some (.int .i64 (s.af h)) := by
  unfold nB nO
  split
  · subst h; exact hc.blk.cell 2
  · exact (hc.mem h (hh.resolve_left ‹_›)).cell 1
theorem Ch.fz (hc : Ch ev TC TM w s) {h : Int} (hh : h = 0 ∨ h ∈ s.hs) (i : Nat) : w.frozen? ⟨nB s.C s.bl h, i, none⟩ = false := by
  unfold nB
  split
  · exact hc.blk.frozen i
  · exact (hc.mem h (hh.resolve_left ‹_›)).frozen i

/-- A store into one of the three numbers, or into a member. -/
theorem Ch.turnC (hc : Ch ev TC TM w s) (hT : TC ≠ TM) (i : Nat) (u : Value) (s' : ChS β) (hC : s'.C = s.C) (hm : s'.m = s.m) (hhs : s'.hs = s.hs) (hbl : s'.bl = s.bl)
    (hcs : #[Value.map s.m, .int .i64 (s.bf 0), .int .i64 (s.af 0), .int .i64 s.g].setIfInBounds i u = #[.map s.m, .int .i64 (s'.bf 0), .int .i64 (s'.af 0), .int .i64 s'.g])
    (hmem : ∀ h ∈ s.hs, s'.bf h = s.bf h ∧ s'.af h = s.af h ∧ s'.vl h = s.vl h) (hg : s.g ≤ s'.g) (hgw : (Lit.int .i64 s'.g).wf = true) : Ch ev TC TM (w.setCell ⟨s.C, i, none⟩ u) s' := by
  refine ⟨?_, ?_, fun h hh => ?_, ?_, fun h hh => ?_, hhs ▸ hc.nd, by have := hc.g0; omega, hgw⟩
  · rw [hC, hm, ← hcs]; exact hc.blk.set i u
  · rw [hm, hhs, hbl]
    refine hc.mp.keep fun m e => Below.heap_setCell w _ u m fun e' => ?_
    have h1 := hc.mp
    rw [e] at h1
    obtain ⟨es, c, h1⟩ := h1.isMap
    have h2 := hc.blk
    unfold KB at h2
    rw [show s.C = m from e'.symm, h1] at h2
    cases h2
  · rw [hhs] at hh
    obtain ⟨e1, e2, e3⟩ := hmem h hh
    rw [hbl, e1, e2, e3]
    exact (hc.mem h hh).far (fun e => hc.blk.ne (hc.mem h hh) hT e.symm) u
  · rw [hhs, hbl]; exact hc.inj
  · rw [hhs] at hh
    have := hc.pos h hh
    exact ⟨this.1, by omega⟩
theorem Ch.turnM (hc : Ch ev TC TM w s) (hT : TC ≠ TM) {h : Int} (hh : h ∈ s.hs) (i : Nat) (u : Value) (s' : ChS β) (hC : s'.C = s.C) (hm : s'.m = s.m) (hhs : s'.hs = s.hs) (hbl : s'.bl = s.bl) (hg : s'.g = s.g)
    (hcs : #[Value.int .i64 (s.bf h), .int .i64 (s.af h), ev (s.vl h)].setIfInBounds i u = #[.int .i64 (s'.bf h), .int .i64 (s'.af h), ev (s'.vl h)])
    (hmem : ∀ x, x ≠ h → s'.bf x = s.bf x ∧ s'.af x = s.af x ∧ s'.vl x = s.vl x) : Ch ev TC TM (w.setCell ⟨s.bl h, i, none⟩ u) s' := by
  have h0 : (0 : Int) ≠ h := by have := hc.pos h hh; omega
  refine ⟨?_, ?_, fun x hx => ?_, ?_, fun x hx => ?_, hhs ▸ hc.nd, by rw [hg]; exact hc.g0, by rw [hg]; exact hc.gw⟩
  · obtain ⟨e1, e2, _⟩ := hmem 0 h0
    rw [hC, hm, e1, e2, hg]
    exact hc.blk.far (hc.blk.ne (hc.mem h hh) hT) u
  · rw [hm, hhs, hbl]
    refine hc.mp.keep fun m e => Below.heap_setCell w _ u m fun e' => ?_
    have h1 := hc.mp
    rw [e] at h1
    obtain ⟨es, c, h1⟩ := h1.isMap
    have h2 := hc.mem h hh
    unfold KB at h2
    rw [show s.bl h = m from e'.symm, h1] at h2
    cases h2
  · rw [hhs] at hx
    rw [hbl]
    by_cases e : x = h
    · subst e
      rw [← hcs]; exact (hc.mem x hx).set i u
    · obtain ⟨e1, e2, e3⟩ := hmem x e
      rw [e1, e2, e3]
      exact (hc.mem x hx).far (fun e' => e (hc.inj x hx h hh e')) u
  · rw [hhs, hbl]; exact hc.inj
  · rw [hhs] at hx
    rw [hg]; exact hc.pos x hx

theorem Ch.setB (hc : Ch ev TC TM w s) (hT : TC ≠ TM) {h : Int} (hh : h = 0 ∨ h ∈ s.hs) (x : Int) : Ch ev TC TM (w.setCell ⟨nB s.C s.bl h, nO h, none⟩ (.int .i64 x)) { s with bf := upd s.bf h x } := by
  unfold nB nO
  split
  · subst h
    refine hc.turnC hT 1 _ _ rfl rfl rfl rfl (by simp [upd]) (fun y hy => ⟨upd_other _ _ ?_, rfl, rfl⟩) (Int.le_refl _) hc.gw
    have := hc.pos y hy; omega
  · exact hc.turnM hT (hh.resolve_left ‹_›) 0 _ _ rfl rfl rfl rfl rfl (by simp [upd]) (fun y hy => ⟨upd_other _ _ hy, rfl, rfl⟩)
theorem Ch.setA (hc : Ch ev TC TM w s) (hT : TC ≠ TM) {h : Int} (hh : h = 0 ∨ h ∈ s.hs) (x : Int) : Ch ev TC TM (w.setCell ⟨nB s.C s.bl h, nO h + 1, none⟩ (.int .i64 x)) { s with af := upd s.af h x } := by
  unfold nB nO
  split
  · subst h
    refine hc.turnC hT 2 _ _ rfl rfl rfl rfl (by simp [upd]) (fun y hy => ⟨rfl, upd_other _ _ ?_, rfl⟩) (Int.le_refl _) hc.gw
    have := hc.pos y hy; omega
  · exact hc.turnM hT (hh.resolve_left ‹_›) 1 _ _ rfl rfl rfl rfl rfl (by simp [upd]) (fun y hy => ⟨rfl, upd_other _ _ hy, rfl⟩)
theorem Ch.setV (hc : Ch ev TC TM w s) (hT : TC ≠ TM) {h : Int} (hh : h ∈ s.hs) (x : β) : Ch ev TC TM (w.setCell ⟨s.bl h, 2, none⟩ (ev x)) { s with vl := upd s.vl h x } :=
  hc.turnM hT hh 2 _ _ rfl rfl rfl rfl rfl (by simp [upd]) (fun y hy => ⟨rfl, rfl, upd_other _ _ hy⟩)
theorem Ch.setG (hc : Ch ev TC TM w s) (hT : TC ≠ TM) {x : Int} (hx : s.g ≤ x) (hxw : (Lit.int .i64 x).wf = true) : Ch ev TC TM (w.setCell ⟨s.C, 3, none⟩ (.int .i64 x)) { s with g := x } :=
  hc.turnC hT 3 _ _ rfl rfl rfl rfl (by simp) (fun y hy => ⟨rfl, rfl, rfl⟩) hx hxw
theorem Ch.perm (hc : Ch ev TC TM w s) {hs : List Int} (hp : hs.Perm s.hs) : Ch ev TC TM w { s with hs := hs } := by
  refine ⟨hc.blk, ?_, fun h hh => hc.mem h (hp.mem_iff.1 hh), fun h hh h' hh' => hc.inj h (hp.mem_iff.1 hh) h' (hp.mem_iff.1 hh'), fun h hh => hc.pos h (hp.mem_iff.1 hh), hp.nodup_iff.2 hc.nd, hc.g0, hc.gw⟩
  show Mp Try.prog 3 w s.m (fH hs s.bl) hs.length
  rw [hp.length_eq]
  exact hc.mp.congr fun x => by unfold fH; simp [hp.mem_iff]
/-- The first map is made. -/
theorem Ch.make (hc : Ch ev TC TM w s) (hT : TC ≠ TM) (hm : s.m = none) : Ch ev TC TM ((w.alloc (.map #[] 0)).setCell ⟨s.C, 0, none⟩ (.map (some w.heap.size))) { s with m := some w.heap.size } := by
  have h0 : s.hs = [] := by
    have := hc.mp
    rw [hm] at this
    exact List.eq_nil_of_length_eq_zero this.1
  have hne : w.heap.size ≠ s.C := by have := hc.blk.lt; omega
  refine ⟨?_, ?_, ?_, ?_, ?_, hc.nd, hc.g0, hc.gw⟩
  · have := ((hc.blk.alloc (.map #[] 0)).set 0 (.map (some w.heap.size)))
    simpa using this
  · show Mp _ _ _ (some w.heap.size) (fH s.hs s.bl) s.hs.length
    rw [h0]
    refine Mp.congr (f := fun _ => none) ?_ (fun x => fH_not (by simp))
    exact (Mp.made Try.prog 3 w).keep fun m e => by cases e; exact Below.heap_setCell _ _ _ _ hne
  all_goals (simp [h0])
/-- A member is laid and entered: nobody's neighbour yet. -/
theorem Ch.enter (hc : Ch ev TC TM w s) {m h : Int} {b : Nat} {mb : Nat} {x : β} {w2 : World} (hm : s.m = some mb) (hh : h ∉ s.hs) (hpos : 0 < h) (hg : h ≤ s.g)
    (hmp : Mp Try.prog 3 w2 (some mb) (upd (fH s.hs s.bl) h (some b)) (s.hs.length + 1)) (hblk : KB w2 b TM #[.int .i64 0, .int .i64 0, ev x]) (hb : ¬ s.foot b) (hk : ∀ c, s.foot c → s.m ≠ some c → w2.heap[c]? = w.heap[c]?) :
    Ch ev TC TM w2 { s with hs := s.hs ++ [h], bl := upd s.bl h b, bf := upd s.bf h 0, af := upd s.af h 0, vl := upd s.vl h x } := by
  have h0 : (0 : Int) ≠ h := by omega
  have old : ∀ y ∈ s.hs, y ≠ h := fun y hy e => hh (e ▸ hy)
  have hnm : ∀ {c : Nat} {t : TypeId} {cs : Array Value}, KB w c t cs → s.m ≠ some c := fun {c t cs} hc' e => by
    have h1 := hc.mp
    rw [e] at h1
    obtain ⟨es, q, h1⟩ := h1.isMap
    unfold KB at hc'
    rw [h1] at hc'
    cases hc'
  refine ⟨?_, ?_, fun y hy => ?_, fun y hy z hz e => ?_, fun y hy => ?_, ?_, hc.g0, hc.gw⟩
  · show KB w2 s.C TC #[.map s.m, .int .i64 (upd s.bf h 0 0), .int .i64 (upd s.af h 0 0), .int .i64 s.g]
    rw [upd_other _ _ h0, upd_other _ _ h0]
    exact hc.blk.keep (hk _ (.inl rfl) (hnm hc.blk))
  · show Mp _ _ _ s.m (fH (s.hs ++ [h]) (upd s.bl h b)) (s.hs ++ [h]).length
    rw [hm, List.length_append]
    refine hmp.congr fun y => ?_
    unfold fH upd
    by_cases e : y = h
    · simp [e]
    · simp [e]
  · simp only [List.mem_append, List.mem_singleton] at hy
    show KB w2 (upd s.bl h b y) TM #[.int .i64 (upd s.bf h 0 y), .int .i64 (upd s.af h 0 y), ev (upd s.vl h x y)]
    rcases hy with hy | rfl
    · rw [upd_other _ _ (old y hy), upd_other _ _ (old y hy), upd_other _ _ (old y hy), upd_other _ _ (old y hy)]
      exact (hc.mem y hy).keep (hk _ (.inr (.inr ⟨y, hy, rfl⟩)) (hnm (hc.mem y hy)))
    · rw [upd_same, upd_same, upd_same, upd_same]; exact hblk
  · simp only [List.mem_append, List.mem_singleton] at hy hz
    change upd s.bl h b y = upd s.bl h b z at e
    rcases hy with hy | rfl <;> rcases hz with hz | rfl
    · rw [upd_other _ _ (old y hy), upd_other _ _ (old z hz)] at e
      exact hc.inj y hy z hz e
    · rw [upd_other _ _ (old y hy), upd_same] at e
      exact absurd (.inr (.inr ⟨y, hy, e⟩)) hb
    · rw [upd_other _ _ (old z hz), upd_same] at e
      exact absurd (.inr (.inr ⟨z, hz, e.symm⟩)) hb
    · rfl
  · simp only [List.mem_append, List.mem_singleton] at hy
    rcases hy with hy | rfl
    · exact hc.pos y hy
    · exact ⟨hpos, hg⟩
  · show (s.hs ++ [h]).Nodup
    rw [List.nodup_append]
    exact ⟨hc.nd, by simp, fun y hy z hz e => by simp at hz; subst hz; exact hh (e ▸ hy)⟩
/-- A member is struck out of the map. -/
theorem Ch.strike (hc : Ch ev TC TM w s) {h : Int} {mb : Nat} {w2 : World} {hs : List Int} (hm : s.m = some mb) (hp : s.hs.Perm (h :: hs))
    (hmp : Mp Try.prog 3 w2 (some mb) (upd (fH s.hs s.bl) h none) (s.hs.length - 1)) (hk : ∀ c, s.foot c → s.m ≠ some c → w2.heap[c]? = w.heap[c]?) :
    Ch ev TC TM w2 { s with hs := hs } := by
  have hnm : ∀ {c : Nat} {t : TypeId} {cs : Array Value}, KB w c t cs → s.m ≠ some c := fun {c t cs} hc' e => by
    have h1 := hc.mp
    rw [e] at h1
    obtain ⟨es, q, h1⟩ := h1.isMap
    unfold KB at hc'
    rw [h1] at hc'
    cases hc'
  have hin : ∀ y, y ∈ s.hs ↔ y = h ∨ y ∈ hs := fun y => by rw [hp.mem_iff]; simp
  have hnd := hp.nodup_iff.1 hc.nd
  have hnh : h ∉ hs := (List.nodup_cons.1 hnd).1
  refine ⟨hc.blk.keep (hk _ (.inl rfl) (hnm hc.blk)), ?_, fun y hy => ?_, fun y hy z hz e => hc.inj y ((hin y).2 (.inr hy)) z ((hin z).2 (.inr hz)) e, fun y hy => hc.pos y ((hin y).2 (.inr hy)), (List.nodup_cons.1 hnd).2, hc.g0, hc.gw⟩
  · show Mp _ _ _ s.m (fH hs s.bl) hs.length
    have hl : s.hs.length - 1 = hs.length := by rw [hp.length_eq]; simp
    rw [hm, ← hl]
    refine hmp.congr fun y => ?_
    by_cases e : y = h
    · subst e; rw [upd_same, fH_not hnh]
    · rw [upd_other _ _ e]
      unfold fH
      simp [hin y, e]
  · have hy' := (hin y).2 (.inr hy)
    exact (hc.mem y hy').keep (hk _ (.inr (.inr ⟨y, hy', rfl⟩)) (hnm (hc.mem y hy')))
end
end Go.Proofs.Ytckeghmhkghelaa
