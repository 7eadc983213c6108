/-
  A ledger in memory: its block, the row of its accounts, a row of chunks for each account. The program's and the reference's lie alike, but for their types. What stays when other blocks turn; what each store makes of it. The conditions stand in each theorem.
-/
import Derived.Test.YtblclpagfbpamaaLab
import Derived.Test.YtblclpagfbpamaaSrow
import Derived.Laws.OwnMore
import Derived.Deep.Onto
namespace Go.Proofs.Ytblclpagfbpamaa
open Go.RowKit
set_option linter.unusedVariables false

/-- The cells of chunks. -/
def ccs (R : List Ck) : List Value := R.flatMap fun x => [.int .u64 (x.1 : Nat), .int .i64 x.2]
theorem ccs_len (R : List Ck) : (ccs R).length = R.length * 2 := by
  induction R with
  | nil => rfl
  | cons x xs ih => simp [ccs] at ih ⊢; omega
theorem ccs_append (R Q : List Ck) : ccs (R ++ Q) = ccs R ++ ccs Q := by simp [ccs]
theorem ccs_take : ∀ (R : List Ck) (k : Nat), (ccs R).take (k * 2) = ccs (R.take k)
  | R, 0 => by simp [ccs]
  | [], k + 1 => by simp [ccs]
  | x :: xs, k + 1 => by
    have := ccs_take xs k
    rw [show (k + 1) * 2 = k * 2 + 1 + 1 by omega]
    simp only [ccs, List.flatMap_cons, List.cons_append, List.nil_append, List.take_succ_cons] at this ⊢
    rw [this]
theorem ccs_drop : ∀ (R : List Ck) (k : Nat), (ccs R).drop (k * 2) = ccs (R.drop k)
  | R, 0 => by simp
  | [], k + 1 => by simp [ccs]
  | x :: xs, k + 1 => by
    have := ccs_drop xs k
    rw [show (k + 1) * 2 = k * 2 + 1 + 1 by omega]
    simp only [ccs, List.flatMap_cons, List.cons_append, List.nil_append, List.drop_succ_cons] at this ⊢
    rw [this]
theorem ccs_get : ∀ (R : List Ck) (k : Nat) (x : Ck), R[k]? = some x → (ccs R)[k * 2]? = some (.int .u64 (x.1 : Nat)) ∧ (ccs R)[k * 2 + 1]? = some (.int .i64 x.2)
  | [], k, x, h => by simp at h
  | y :: ys, 0, x, h => by simp at h; subst h; simp [ccs]
  | y :: ys, k + 1, x, h => by
    have := ccs_get ys k x (by simpa using h)
    rw [show (k + 1) * 2 = k * 2 + 1 + 1 by omega]
    simpa [ccs] using this
theorem ccs_one (R : List Ck) : ∀ u ∈ ccs R, u.oneCell' = true := by
  intro u hu
  simp only [ccs, List.mem_flatMap] at hu
  obtain ⟨x, _, hx⟩ := hu
  simp at hx
  rcases hx with rfl | rfl <;> rfl
theorem ccs_set : ∀ (R : List Ck) (k : Nat) (x : Ck) (n : Nat), R[k]? = some x → ccs (R.set k (n, x.2)) = (ccs R).set (k * 2) (.int .u64 (n : Nat))
  | [], k, x, n, h => by simp at h
  | y :: ys, 0, x, n, h => by simp at h; subst h; simp [ccs]
  | y :: ys, k + 1, x, n, h => by
    have := ccs_set ys k x n (by simpa using h)
    rw [show (k + 1) * 2 = k * 2 + 1 + 1 by omega]
    simp only [ccs, List.set_cons_succ, List.flatMap_cons, List.cons_append, List.nil_append] at this ⊢
    rw [this]

/-- An account as it lies in memory: its amounts, the slice of its chunks, and these. -/
structure Am where
  f : Nat
  b : Nat
  d : Nat
  v : Value
  ch : List Ck
def Am.ac (x : Am) : Ac := ⟨x.f, x.b, x.d, x.ch⟩
/-- The cells of accounts. -/
def acs (R : List Am) : List Value := R.flatMap fun x => [.int .u64 (x.f : Nat), .int .u64 (x.b : Nat), .int .u64 (x.d : Nat), x.v]
theorem acs_len (R : List Am) : (acs R).length = R.length * 4 := by
  induction R with
  | nil => rfl
  | cons x xs ih => simp [acs] at ih ⊢; omega
theorem acs_append (R Q : List Am) : acs (R ++ Q) = acs R ++ acs Q := by simp [acs]
theorem acs_get : ∀ (R : List Am) (k : Nat) (x : Am), R[k]? = some x → (acs R)[k * 4]? = some (.int .u64 (x.f : Nat)) ∧ (acs R)[k * 4 + 1]? = some (.int .u64 (x.b : Nat)) ∧ (acs R)[k * 4 + 2]? = some (.int .u64 (x.d : Nat)) ∧ (acs R)[k * 4 + 3]? = some x.v
  | [], k, x, h => by simp at h
  | y :: ys, 0, x, h => by simp at h; subst h; simp [acs]
  | y :: ys, k + 1, x, h => by
    have := acs_get ys k x (by simpa using h)
    rw [show (k + 1) * 4 = k * 4 + 1 + 1 + 1 + 1 by omega]
    simpa [acs] using this
/-- One field of an account turns. -/
theorem acs_set : ∀ (R : List Am) (k : Nat) (x y : Am) (j : Nat) (u : Value), R[k]? = some x → [Value.int .u64 (y.f : Nat), .int .u64 (y.b : Nat), .int .u64 (y.d : Nat), y.v] = [Value.int .u64 (x.f : Nat), .int .u64 (x.b : Nat), .int .u64 (x.d : Nat), x.v].set j u → j < 4 → acs (R.set k y) = (acs R).set (k * 4 + j) u
  | [], k, x, y, j, u, h, _, _ => by simp at h
  | z :: zs, 0, x, y, j, u, h, e, hj => by
    simp at h; subst h
    simp only [List.set_cons_zero, acs, List.flatMap_cons, Nat.zero_mul, Nat.zero_add, e]
    rw [List.set_append_left _ _ (by simpa using hj)]
  | z :: zs, k + 1, x, y, j, u, h, e, hj => by
    have := acs_set zs k x y j u (by simpa using h) e hj
    rw [show (k + 1) * 4 + j = (k * 4 + j) + 1 + 1 + 1 + 1 by omega]
    simp only [acs, List.set_cons_succ, List.flatMap_cons, List.cons_append, List.nil_append] at this ⊢
    rw [this]

/-- A ledger as it lies in memory: its block, the slice of its accounts, these, the treasury, the pot. -/
structure Lm where
  L : Nat
  v : Value
  a : List Am
  t : Nat
  p : Nat
def Lm.ab (s : Lm) : Ab := ⟨s.a.map Am.ac, s.t, s.p⟩
theorem Lm.ab_get {s : Lm} {i : Nat} {x : Am} (h : s.a[i]? = some x) : s.ab.a[i]? = some x.ac := by simp [Lm.ab, h]
theorem Lm.ab_ac {s : Lm} {i : Nat} {x : Am} (h : s.a[i]? = some x) : s.ab.ac (i : Int) = some x.ac := by rw [Ab.ac_nat]; exact Lm.ab_get h
theorem Lm.ab_len (s : Lm) : s.ab.a.length = s.a.length := by simp [Lm.ab]
/-- The types of ledgers, accounts and chunks. -/
structure Tys where
  L : TypeId
  A : TypeId
  C : TypeId

theorem own_keep {w w' : World} {base sz n : Nat} {e : TypeId} {v : Value} {cs : List Value} (h : w.ownsRow base e sz v n cs) (hk : ∀ g, v.ownBlock = some g → w'.heap[g]? = w.heap[g]?) : w'.ownsRow base e sz v n cs := by
  refine ⟨h.1, ?_⟩
  rcases h.2 with h0 | ⟨g, cap, cur, rfl, h1, hg, h3⟩
  · exact .inl h0
  · exact .inr ⟨g, cap, cur, rfl, h1, (hk g rfl).trans hg, h3⟩
theorem own_kb {w : World} {base sz n : Nat} {e : TypeId} {v : Value} {cs : List Value} (h : w.ownsRow base e sz v n cs) {g : Nat} (hg : v.ownBlock = some g) : ∃ cur, KB w g e cur := by
  rcases h.2 with ⟨rfl, _⟩ | ⟨g', cap, cur, rfl, h1, hb, h3⟩
  · cases hg
  · change some g' = some g at hg
    cases hg
    exact ⟨cur, hb⟩

/-- A ledger lies so in memory; of the accounts in X nothing is said of their chunks. -/
structure Lx (X : Nat → Prop) (T : Tys) (base : Nat) (w : World) (s : Lm) : Prop where
  blk : KB w s.L T.L #[s.v, .int .u64 (s.t : Nat), .int .u64 (s.p : Nat)]
  row : w.ownsRow base T.A 4 s.v s.a.length (acs s.a)
  chs : ∀ (i : Nat) (x : Am), ¬ X i → s.a[i]? = some x → w.ownsRow base T.C 2 x.v x.ch.length (ccs x.ch)
  sep : ∀ (i j : Nat) (x y : Am) (g : Nat), s.a[i]? = some x → s.a[j]? = some y → x.v.ownBlock = some g → y.v.ownBlock = some g → i = j
  lts : ∀ (i : Nat) (x : Am) (g : Nat), s.a[i]? = some x → x.v.ownBlock = some g → base ≤ g ∧ ∃ cur, KB w g T.C cur
  bL : base ≤ s.L
  ty : T.L ≠ T.A ∧ T.L ≠ T.C ∧ T.A ≠ T.C
def noX : Nat → Prop := fun _ => False
abbrev Lg := Lx noX

/-- The blocks that a ledger is made of. -/
def Lm.foot (s : Lm) (b : Nat) : Prop := b = s.L ∨ s.v.ownBlock = some b ∨ ∃ (i : Nat) (x : Am), s.a[i]? = some x ∧ x.v.ownBlock = some b

section
variable {X : Nat → Prop} {T : Tys} {base : Nat} {w w' : World} {s : Lm}
theorem Lx.foot_lt (h : Lx X T base w s) {b : Nat} (hb : s.foot b) : base ≤ b ∧ b < w.heap.size := by
  rcases hb with rfl | hb | ⟨i, x, hx, hb⟩
  · exact ⟨h.bL, h.blk.lt⟩
  · exact h.row.lt b hb
  · obtain ⟨h1, cur, h2⟩ := h.lts i x b hx hb
    exact ⟨h1, h2.lt⟩
theorem Lx.keep (h : Lx X T base w s) (hk : ∀ b, s.foot b → w'.heap[b]? = w.heap[b]?) : Lx X T base w' s :=
  ⟨h.blk.keep (hk _ (.inl rfl)), own_keep h.row (fun g hg => hk g (.inr (.inl hg))), fun i x hX hx => own_keep (h.chs i x hX hx) (fun g hg => hk g (.inr (.inr ⟨i, x, hx, hg⟩))), h.sep,
   fun i x g hx hg => by obtain ⟨h1, cur, h2⟩ := h.lts i x g hx hg; exact ⟨h1, cur, h2.keep (hk g (.inr (.inr ⟨i, x, hx, hg⟩)))⟩, h.bL, h.ty⟩
theorem Lx.alloc (h : Lx X T base w s) (o : Obj) : Lx X T base (w.alloc o) s := h.keep fun b hb => Below.heap_alloc w o b (h.foot_lt hb).2
theorem Lx.drew (h : Lx X T base w s) : Lx X T base w.drew s := h.keep fun _ _ => rfl
theorem Lx.drewN (h : Lx X T base w s) (q : Nat) : Lx X T base (w.drewN q) s := h.keep fun _ _ => rfl
theorem Lx.below (h : Lx X T base w s) (hb : Below w.heap.size w w') : Lx X T base w' s := h.keep fun b hf => hb.block b (h.foot_lt hf).2
theorem Lx.turns {F : Nat → Prop} (h : Lx X T base w s) (ht : Turns F w w') (hF : ∀ b, s.foot b → ¬ F b) : Lx X T base w' s := h.keep fun b hb => ht.block b (h.foot_lt hb).2 (hF b hb)
theorem Lx.far (h : Lx X T base w s) {p : Addr} (hp : ¬ s.foot p.block) (u : Value) : Lx X T base (w.setCell p u) s := h.keep fun b hb => Below.heap_setCell w p u b (fun e => hp (e ▸ hb))
/-- What type a block of it has. -/
theorem Lx.kind (h : Lx X T base w s) {b : Nat} (hb : s.foot b) : ∃ t cur, KB w b t cur ∧ (t = T.L ∨ t = T.A ∨ t = T.C) := by
  rcases hb with rfl | hb | ⟨i, x, hx, hb⟩
  · exact ⟨_, _, h.blk, .inl rfl⟩
  · obtain ⟨cur, hk⟩ := own_kb h.row hb
    exact ⟨_, _, hk, .inr (.inl rfl)⟩
  · obtain ⟨_, cur, hk⟩ := h.lts i x b hx hb
    exact ⟨_, _, hk, .inr (.inr rfl)⟩
/-- A block of another type is none of its blocks. -/
theorem Lx.not_foot (h : Lx X T base w s) {b : Nat} {t : TypeId} {cs : Array Value} (hk : KB w b t cs) (h1 : t ≠ T.L) (h2 : t ≠ T.A) (h3 : t ≠ T.C) : ¬ s.foot b := by
  intro hb
  obtain ⟨t', cur, hk', ht⟩ := h.kind hb
  unfold KB at hk hk'
  rw [hk] at hk'
  injection hk' with hk'
  injection hk' with _ e
  subst e
  rcases ht with ht | ht | ht
  · exact h1 ht
  · exact h2 ht
  · exact h3 ht
theorem Lx.weak (h : Lx noX T base w s) : Lx X T base w s := ⟨h.blk, h.row, fun i x _ hx => h.chs i x (fun e => e) hx, h.sep, h.lts, h.bL, h.ty⟩

/-! Its cells. -/
theorem Lx.cv (h : Lx X T base w s) : w.cell? ⟨s.L, 0, none⟩ = some s.v := by simpa using h.blk.cell 0
theorem Lx.ct (h : Lx X T base w s) : w.cell? ⟨s.L, 1, none⟩ = some (.int .u64 (s.t : Nat)) := by simpa using h.blk.cell 1
theorem Lx.cp (h : Lx X T base w s) : w.cell? ⟨s.L, 2, none⟩ = some (.int .u64 (s.p : Nat)) := by simpa using h.blk.cell 2
theorem Lx.fz (h : Lx X T base w s) (i : Nat) : w.frozen? ⟨s.L, i, none⟩ = false := h.blk.frozen i
/-- The slice of the accounts, where there are some. -/
theorem Lx.vform (h : Lx X T base w s) {i : Nat} {x : Am} (hx : s.a[i]? = some x) : ∃ g cap, s.v = .slice (some ⟨g, 0, none⟩) s.a.length cap ∧ s.a.length ≤ cap ∧ base ≤ g ∧ g < w.heap.size := by
  have hi := (List.getElem?_eq_some_iff.1 hx).1
  rcases own_forms h.row with ⟨_, hl, _⟩ | ⟨g, cap, hv, hb, hc, _, hg, _⟩
  · omega
  · exact ⟨g, cap, hv, hc, hb, hg⟩
theorem Lx.vany (h : Lx X T base w s) : ∃ A cap, s.v = .slice A s.a.length cap ∧ s.a.length ≤ cap := by
  rcases own_forms h.row with ⟨hv, hl, _⟩ | ⟨g, cap, hv, hb, hc, _, hg, _⟩
  · rw [hl]; exact ⟨none, 0, hv, Nat.le_refl _⟩
  · exact ⟨_, cap, hv, hc⟩
theorem Lx.acell (h : Lx X T base w s) {i : Nat} {x : Am} (hx : s.a[i]? = some x) {g cap : Nat} (hv : s.v = .slice (some ⟨g, 0, none⟩) s.a.length cap) :
    w.cell? ⟨g, i * 4, none⟩ = some (.int .u64 (x.f : Nat)) ∧ w.cell? ⟨g, i * 4 + 1, none⟩ = some (.int .u64 (x.b : Nat)) ∧ w.cell? ⟨g, i * 4 + 2, none⟩ = some (.int .u64 (x.d : Nat)) ∧ w.cell? ⟨g, i * 4 + 3, none⟩ = some x.v ∧ ∀ j, w.frozen? ⟨g, j, none⟩ = false := by
  have hi := (List.getElem?_eq_some_iff.1 hx).1
  have hr := h.row
  rw [hv] at hr
  obtain ⟨e0, e1, e2, e3⟩ := acs_get s.a i x hx
  exact ⟨(hr.cellAt _ (by omega)).trans e0, (hr.cellAt _ (by omega)).trans e1, (hr.cellAt _ (by omega)).trans e2, (hr.cellAt _ (by omega)).trans e3, fun j => hr.frozenAt j⟩
theorem Lx.ne_LG (h : Lx X T base w s) {g : Nat} (hv : s.v.ownBlock = some g) : s.L ≠ g := by
  obtain ⟨cur, hk⟩ := own_kb h.row hv
  exact h.blk.ne hk h.ty.1
theorem Lx.ne_LC (h : Lx X T base w s) {i : Nat} {x : Am} (hx : s.a[i]? = some x) {g : Nat} (hv : x.v.ownBlock = some g) : s.L ≠ g := by
  obtain ⟨_, cur, hk⟩ := h.lts i x g hx hv
  exact h.blk.ne hk h.ty.2.1
theorem Lx.ne_GC (h : Lx X T base w s) {G : Nat} (hG : s.v.ownBlock = some G) {i : Nat} {x : Am} (hx : s.a[i]? = some x) {g : Nat} (hv : x.v.ownBlock = some g) : G ≠ g := by
  obtain ⟨_, cur, hk⟩ := h.lts i x g hx hv
  obtain ⟨_, hk'⟩ := own_kb h.row hG
  exact hk'.ne hk h.ty.2.2

/-! What stores make of it. -/
theorem KB.stored {b : Nat} {t : TypeId} {cs : Array Value} {p : Addr} (u : Value) (h : KB w b t cs) : ∃ cs', KB (w.setCell p u) b t cs' := by
  by_cases e : b = p.block
  · subst e
    unfold KB at h ⊢
    simp [World.setCell, Array.getElem?_modify, h]
  · exact ⟨cs, h.far e u⟩
theorem Lx.set_t (h : Lx X T base w s) (n : Nat) : Lx X T base (w.setCell ⟨s.L, 1, none⟩ (.int .u64 (n : Nat))) { s with t := n } :=
  ⟨by simpa using h.blk.set 1 (.int .u64 (n : Nat)), own_keep h.row (fun g hg => Below.heap_setCell w _ _ g (fun e => h.ne_LG hg e.symm)), fun i x hX hx => own_keep (h.chs i x hX hx) (fun g hg => Below.heap_setCell w _ _ g (fun e => h.ne_LC hx hg e.symm)), h.sep,
   fun i x g hx hg => by obtain ⟨h1, cur, h2⟩ := h.lts i x g hx hg; exact ⟨h1, h2.stored _⟩, h.bL, h.ty⟩
theorem Lx.set_p (h : Lx X T base w s) (n : Nat) : Lx X T base (w.setCell ⟨s.L, 2, none⟩ (.int .u64 (n : Nat))) { s with p := n } :=
  ⟨by simpa using h.blk.set 2 (.int .u64 (n : Nat)), own_keep h.row (fun g hg => Below.heap_setCell w _ _ g (fun e => h.ne_LG hg e.symm)), fun i x hX hx => own_keep (h.chs i x hX hx) (fun g hg => Below.heap_setCell w _ _ g (fun e => h.ne_LC hx hg e.symm)), h.sep,
   fun i x g hx hg => by obtain ⟨h1, cur, h2⟩ := h.lts i x g hx hg; exact ⟨h1, h2.stored _⟩, h.bL, h.ty⟩
theorem get_set {α : Type} {l : List α} {i j : Nat} {x y z : α} (hx : l[i]? = some x) (h : (l.set i y)[j]? = some z) : (j = i ∧ z = y) ∨ (j ≠ i ∧ l[j]? = some z) := by
  rw [List.getElem?_set] at h
  by_cases e : i = j
  · subst e
    have := (List.getElem?_eq_some_iff.1 hx).1
    simp [this] at h
    exact .inl ⟨rfl, h.symm⟩
  · rw [if_neg e] at h
    exact .inr ⟨fun e' => e e'.symm, h⟩
/-- A store into an account: its amounts, or the slice of its chunks; that one is in order then. -/
theorem Lx.set_a (h : Lx X T base w s) {i : Nat} {x y : Am} (hx : s.a[i]? = some x) {g cap : Nat} (hv : s.v = .slice (some ⟨g, 0, none⟩) s.a.length cap) (j : Nat) (hj : j < 4) (u : Value)
    (he : [Value.int .u64 (y.f : Nat), .int .u64 (y.b : Nat), .int .u64 (y.d : Nat), y.v] = [Value.int .u64 (x.f : Nat), .int .u64 (x.b : Nat), .int .u64 (x.d : Nat), x.v].set j u)
    {Y : Nat → Prop} (hY : ∀ k, k ≠ i → X k → Y k) (hch : ¬ Y i → w.ownsRow base T.C 2 y.v y.ch.length (ccs y.ch)) (hlt : ∀ g', y.v.ownBlock = some g' → base ≤ g' ∧ ∃ cur, KB w g' T.C cur)
    (hsep : ∀ (k : Nat) (z : Am) (g' : Nat), s.a[k]? = some z → z.v.ownBlock = some g' → y.v.ownBlock = some g' → k = i) :
    Lx Y T base (w.setCell ⟨g, i * 4 + j, none⟩ u) { s with a := s.a.set i y } := by
  have hvo : s.v.ownBlock = some g := by rw [hv]; rfl
  have hGC : ∀ {g'}, (∃ cur, KB w g' T.C cur) → g' ≠ g := by
    rintro g' ⟨cur, hk⟩ rfl
    obtain ⟨_, hk'⟩ := own_kb h.row hvo
    exact hk'.ne hk h.ty.2.2 rfl
  have hl : (s.a.set i y).length = s.a.length := by simp
  refine ⟨h.blk.far (h.ne_LG hvo) u, ?_, fun k z hY' hz => ?_, fun k k' z z' g' hz hz' e e' => ?_, fun k z g' hz e => ?_, h.bL, h.ty⟩
  · show (w.setCell ⟨g, i * 4 + j, none⟩ u).ownsRow base T.A 4 s.v (s.a.set i y).length (acs (s.a.set i y))
    have hr := h.row
    rw [hl, acs_set s.a i x y j u hx he hj]
    rw [hv] at hr ⊢
    exact (hr.stored (i * 4 + j) u).1
  · rcases get_set hx hz with ⟨rfl, rfl⟩ | ⟨hk, hz⟩
    · exact own_keep (hch hY') (fun g' e => Below.heap_setCell w _ _ g' (hGC (hlt g' e).2))
    · exact own_keep (h.chs k z (fun hXk => hY' (hY k hk hXk)) hz) (fun g' e => Below.heap_setCell w _ _ g' (hGC (h.lts k z g' hz e).2))
  · rcases get_set hx hz with ⟨rfl, rfl⟩ | ⟨hk, hz1⟩ <;> rcases get_set hx hz' with ⟨rfl, rfl⟩ | ⟨hk', hz2⟩
    · rfl
    · exact (hsep k' z' g' hz2 e' e).symm
    · exact hsep k z g' hz1 e e'
    · exact h.sep k k' z z' g' hz1 hz2 e e'
  · rcases get_set hx hz with ⟨rfl, rfl⟩ | ⟨hk, hz⟩
    · obtain ⟨h1, cur, h2⟩ := hlt g' e
      exact ⟨h1, h2.stored u⟩
    · obtain ⟨h1, cur, h2⟩ := h.lts k z g' hz e
      exact ⟨h1, h2.stored u⟩
/-- A store into one of the amounts. -/
theorem Lx.set_n (h : Lx X T base w s) {i : Nat} {x y : Am} (hx : s.a[i]? = some x) {g cap : Nat} (hv : s.v = .slice (some ⟨g, 0, none⟩) s.a.length cap) (j : Nat) (hj : j < 4) (u : Value)
    (he : [Value.int .u64 (y.f : Nat), .int .u64 (y.b : Nat), .int .u64 (y.d : Nat), y.v] = [Value.int .u64 (x.f : Nat), .int .u64 (x.b : Nat), .int .u64 (x.d : Nat), x.v].set j u) (hyv : y.v = x.v) (hyc : y.ch = x.ch) :
    Lx X T base (w.setCell ⟨g, i * 4 + j, none⟩ u) { s with a := s.a.set i y } :=
  h.set_a hx hv j hj u he (fun k _ hk => hk) (fun hX => by rw [hyv, hyc]; exact h.chs i x hX hx) (fun g' e => h.lts i x g' hx (hyv ▸ e)) (fun k z g' hz e e' => h.sep k i z x g' hz hx e (hyv ▸ e'))
theorem Lx.set_f (h : Lx X T base w s) {i : Nat} {x : Am} (hx : s.a[i]? = some x) {g cap : Nat} (hv : s.v = .slice (some ⟨g, 0, none⟩) s.a.length cap) (n : Nat) :
    Lx X T base (w.setCell ⟨g, i * 4, none⟩ (.int .u64 (n : Nat))) { s with a := s.a.set i { x with f := n } } := h.set_n hx hv 0 (by omega) _ rfl rfl rfl
theorem Lx.set_b (h : Lx X T base w s) {i : Nat} {x : Am} (hx : s.a[i]? = some x) {g cap : Nat} (hv : s.v = .slice (some ⟨g, 0, none⟩) s.a.length cap) (n : Nat) :
    Lx X T base (w.setCell ⟨g, i * 4 + 1, none⟩ (.int .u64 (n : Nat))) { s with a := s.a.set i { x with b := n } } := h.set_n hx hv 1 (by omega) _ rfl rfl rfl
theorem Lx.set_d (h : Lx X T base w s) {i : Nat} {x : Am} (hx : s.a[i]? = some x) {g cap : Nat} (hv : s.v = .slice (some ⟨g, 0, none⟩) s.a.length cap) (n : Nat) :
    Lx X T base (w.setCell ⟨g, i * 4 + 2, none⟩ (.int .u64 (n : Nat))) { s with a := s.a.set i { x with d := n } } := h.set_n hx hv 2 (by omega) _ rfl rfl rfl
/-- The chunks of an account have turned, in their own block or a new one: nothing is said of them yet. -/
theorem Lx.toX (h : Lx noX T base w s) {i : Nat} {x : Am} (hx : s.a[i]? = some x) (ht : Turns (fun b => x.v.ownBlock = some b) w w') (hkb : ∀ g, x.v.ownBlock = some g → ∃ cur, KB w' g T.C cur) : Lx (fun k => k = i) T base w' s := by
  have hF : ∀ b, s.foot b → x.v.ownBlock ≠ some b → w'.heap[b]? = w.heap[b]? := fun b hb hn => ht.block b (h.foot_lt hb).2 hn
  refine ⟨h.blk.keep (hF _ (.inl rfl) (fun e => h.ne_LC hx e rfl)), own_keep h.row (fun g hg => hF g (.inr (.inl hg)) (fun e => h.ne_GC hg hx e rfl)), fun k z hk hz => own_keep (h.chs k z (fun e => e) hz) (fun g hg => hF g (.inr (.inr ⟨k, z, hz, hg⟩)) (fun e => hk (h.sep k i z x g hz hx hg e))), h.sep, fun k z g hz hg => ?_, h.bL, h.ty⟩
  obtain ⟨h1, cur, h2⟩ := h.lts k z g hz hg
  refine ⟨h1, ?_⟩
  by_cases e : x.v.ownBlock = some g
  · exact hkb g e
  · exact ⟨cur, h2.keep (hF g (.inr (.inr ⟨k, z, hz, hg⟩)) e)⟩
/-- The slice of an account's chunks is stored: its own block still, or one that was not there when the ledger last lay in order. -/
theorem Lx.set_v {i : Nat} {x : Am} (h : Lx (fun k => k = i) T base w s) (hx : s.a[i]? = some x) {g cap : Nat} (hv : s.v = .slice (some ⟨g, 0, none⟩) s.a.length cap) (v : Value) (ch : List Ck)
    (hch : w.ownsRow base T.C 2 v ch.length (ccs ch)) (hsep : ∀ g', v.ownBlock = some g' → x.v.ownBlock = some g' ∨ ∀ (k : Nat) (z : Am), s.a[k]? = some z → z.v.ownBlock ≠ some g') :
    Lx noX T base (w.setCell ⟨g, i * 4 + 3, none⟩ v) { s with a := s.a.set i { x with v := v, ch := ch } } :=
  h.set_a hx hv 3 (by omega) v rfl (fun k hk e => hk e) (fun _ => hch) (fun g' e => ⟨(hch.lt g' e).1, own_kb hch e⟩) (fun k z g' hz e e' => by
    rcases hsep g' e' with h1 | h1
    · exact h.sep k i z x g' hz hx e h1
    · exact absurd e (h1 k z hz))
/-- A chunk's amount is stored. -/
theorem Lx.set_c (h : Lx noX T base w s) {i : Nat} {x : Am} (hx : s.a[i]? = some x) {k : Nat} {c : Ck} (hc : x.ch[k]? = some c) {g cap : Nat} (hv : x.v = .slice (some ⟨g, 0, none⟩) x.ch.length cap) (n : Nat) :
    Lx noX T base (w.setCell ⟨g, k * 2, none⟩ (.int .u64 (n : Nat))) { s with a := s.a.set i { x with ch := x.ch.set k (n, c.2) } } := by
  have hvo : x.v.ownBlock = some g := by rw [hv]; rfl
  have hch := h.chs i x (fun e => e) hx
  have hrow : acs (s.a.set i { x with ch := x.ch.set k (n, c.2) }) = acs s.a := by
    rw [acs_set s.a i x { x with ch := x.ch.set k (n, c.2) } 3 x.v hx rfl (by omega)]
    apply List.ext_getElem?
    intro j
    rw [List.getElem?_set]
    split
    · rename_i e
      subst e
      have := (acs_get s.a i x hx).2.2.2
      rw [this]
      have := (List.getElem?_eq_some_iff.1 this).1
      simp [this]
    · rfl
  have hl : (s.a.set i { x with ch := x.ch.set k (n, c.2) }).length = s.a.length := by simp
  refine ⟨h.blk.far (h.ne_LC hx hvo) _, ?_, fun k' z _ hz => ?_, fun k1 k2 z z' g' hz hz' e e' => ?_, fun k' z g' hz e => ?_, h.bL, h.ty⟩
  · show (w.setCell ⟨g, k * 2, none⟩ (.int .u64 (n : Nat))).ownsRow base T.A 4 s.v (s.a.set i { x with ch := x.ch.set k (n, c.2) }).length (acs (s.a.set i { x with ch := x.ch.set k (n, c.2) }))
    rw [hl, hrow]
    exact own_keep h.row (fun g' e => Below.heap_setCell w _ _ g' (fun e2 => h.ne_GC e hx hvo e2))
  · rcases get_set hx hz with ⟨rfl, rfl⟩ | ⟨hk, hz⟩
    · show (w.setCell ⟨g, k * 2, none⟩ (.int .u64 (n : Nat))).ownsRow base T.C 2 x.v (x.ch.set k (n, c.2)).length (ccs (x.ch.set k (n, c.2)))
      rw [List.length_set, ccs_set x.ch k c n hc]
      rw [hv] at hch ⊢
      exact (hch.stored (k * 2) _).1
    · exact own_keep (h.chs k' z (fun e => e) hz) (fun g' e => Below.heap_setCell w _ _ g' (fun e2 => hk (h.sep k' i z x g' hz hx e (by rw [hvo, e2]))))
  · rcases get_set hx hz with ⟨rfl, rfl⟩ | ⟨hk, hz1⟩ <;> rcases get_set hx hz' with ⟨rfl, rfl⟩ | ⟨hk', hz2⟩
    · rfl
    · exact h.sep k1 k2 x z' g' hx hz2 e e'
    · exact h.sep k1 k2 z x g' hz1 hx e e'
    · exact h.sep k1 k2 z z' g' hz1 hz2 e e'
  · rcases get_set hx hz with ⟨rfl, rfl⟩ | ⟨hk, hz⟩
    · obtain ⟨h1, cur, h2⟩ := h.lts k' x g' hx e
      exact ⟨h1, h2.stored _⟩
    · obtain ⟨h1, cur, h2⟩ := h.lts k' z g' hz e
      exact ⟨h1, h2.stored _⟩

/-! Chunks of an account. -/
theorem Lx.cforms (h : Lx noX T base w s) {i : Nat} {x : Am} (hx : s.a[i]? = some x) : (x.v = .slice none 0 0 ∧ x.ch = []) ∨ ∃ g cap, x.v = .slice (some ⟨g, 0, none⟩) x.ch.length cap ∧ base ≤ g ∧ x.ch.length ≤ cap ∧ cap ≤ maxLen ∧ g < w.heap.size := by
  rcases own_forms (h.chs i x (fun e => e) hx) with ⟨hv, hl, _⟩ | ⟨g, cap, hv, hb, hc, hm, hg, _⟩
  · exact .inl ⟨hv, List.eq_nil_of_length_eq_zero hl⟩
  · exact .inr ⟨g, cap, hv, hb, hc, hm, hg⟩
theorem Lx.ccell (h : Lx noX T base w s) {i : Nat} {x : Am} (hx : s.a[i]? = some x) {k : Nat} {c : Ck} (hc : x.ch[k]? = some c) {g cap : Nat} (hv : x.v = .slice (some ⟨g, 0, none⟩) x.ch.length cap) :
    w.cell? ⟨g, k * 2, none⟩ = some (.int .u64 (c.1 : Nat)) ∧ w.cell? ⟨g, k * 2 + 1, none⟩ = some (.int .i64 c.2) ∧ ∀ j, w.frozen? ⟨g, j, none⟩ = false := by
  have hch := h.chs i x (fun e => e) hx
  rw [hv] at hch
  have hk := (List.getElem?_eq_some_iff.1 hc).1
  obtain ⟨e0, e1⟩ := ccs_get x.ch k c hc
  exact ⟨(hch.cellAt _ (by omega)).trans e0, (hch.cellAt _ (by omega)).trans e1, fun j => hch.frozenAt j⟩
end

/-- What a call made of a ledger: it is the one that A says, at the same block; only its own blocks and new ones have turned. -/
def LgTo (T : Tys) (base : Nat) (w w' : World) (s : Lm) (A : Ab) : Prop := ∃ s' : Lm, s'.L = s.L ∧ s'.ab = A ∧ Lg T base w' s' ∧ Turns s.foot w w'
theorem LgTo.same {T : Tys} {base : Nat} {w w' : World} {s : Lm} (h : Lg T base w s) (hb : Below w.heap.size w w') : LgTo T base w w' s s.ab := ⟨s, rfl, rfl, h.below hb, Turns.of_below hb⟩
theorem LgTo.drew {T : Tys} {base : Nat} {w w' : World} {s : Lm} {A : Ab} (h : LgTo T base w.drew w' s A) : LgTo T base w w' s A := by
  obtain ⟨s', h1, h2, h3, h4⟩ := h
  exact ⟨s', h1, h2, h3, ⟨h4.os, h4.tape, h4.output, h4.size, h4.block⟩⟩
theorem LgTo.from {T : Tys} {base : Nat} {w w1 w2 : World} {s : Lm} {A : Ab} (h : LgTo T base w1 w2 s A) (hb : Below w.heap.size w w1) : LgTo T base w w2 s A := by
  obtain ⟨s', h1, h2, h3, h4⟩ := h
  exact ⟨s', h1, h2, h3, (Turns.of_below (F := s.foot) hb).trans h4 (fun b hb => .inl hb)⟩
end Go.Proofs.Ytblclpagfbpamaa
