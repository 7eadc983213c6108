/-
  math/bits.Mul; slices.Repeat of a list of one number, at most 32 times.
  An election under way as it lies in memory: runners, seats, the race; which of its blocks a call may turn. No program is walked here.
  slices.SortFunc of at most twelve shares by their candidates: they are a permutation, in ascending order. For a row of the call's own.
-/
import Derived.Test.YtehekjlakegkpaaGreatX19
section
namespace Go.Proofs.YtehekjlakegkpaaGreat
open Go.RowKit
set_option linter.unusedVariables false

set_option maxHeartbeats 800000 in
theorem umul_any (x y : Nat) (w : World) (hx : x < 18446744073709551616) (hy : y < 18446744073709551616) :
    Calls Tryz.prog 164 #[.int .u64 x, .int .u64 y] w (OutP w (x * y / 18446744073709551616) (x * y % 18446744073709551616)) := by
  have h1 := mul64_any x y w hx hy
  have hq : x * y / 18446744073709551616 < 18446744073709551616 := Nat.div_lt_of_lt_mul (Nat.mul_lt_mul_of_lt_of_lt hx hy)
  have hr : x * y % 18446744073709551616 < 18446744073709551616 := Nat.mod_lt _ (by omega)
  generalize x * y / 18446744073709551616 = q at *
  generalize x * y % 18446744073709551616 = r at *
  go_enter Tryz.func164, Tryz.ntmps164
  go_wp2_with fail
  refine h1.mono ?_
  rintro e w1 ⟨rfl, rfl⟩
  go_wp2
  go_ret2
  exact ⟨rfl, rfl⟩
theorem mkI {W : World} (n : Nat) (hn : n ≤ 32) :
    (Instr.makeSlice 23 (.int .i64 (n : Int)) (.int .i64 (n : Int))).run Tryz.prog W = .ok (.slice (some ⟨W.heap.size, 0, none⟩) n n) (W.alloc (.cells (litsK .i64 (zeros n)).toArray 3)) := by
  obtain ⟨i0, hi, hz0, hz1, hz2⟩ := info_parts infoI'
  have h := run_make_rowK (P := Tryz.prog) 23 3 i0 _ Tryz.underlying23 hi hz0 .i64 .i64 n n (Nat.le_refl _) (by rw [hz2]; omega) (by omega) W
  rw [hz1, Nat.mul_one, litsK_made] at h
  exact h
/-- Some cells of a number, zeros behind them. -/
def rpt (z : Int) (k n : Nat) : List Value := List.replicate k (.int .i64 z) ++ List.replicate (n - k) (.int .i64 0)
theorem rpt_len (z : Int) {k n : Nat} (h : k ≤ n) : (rpt z k n).length = n := by simp [rpt]; omega
theorem rpt_zero (z : Int) (n : Nat) : rpt z 0 n = litsK .i64 (zeros n) := by simp [rpt, litsK, zeros]
theorem rpt_splice (z : Int) {k n m : Nat} (hk : k ≤ n) (hm : m ≤ n - k) : splice (rpt z k n) k (List.replicate m (.int .i64 z)) = rpt z (k + m) n := by
  unfold splice rpt
  rw [List.take_left' (by simp), List.length_replicate, List.drop_append, List.drop_of_length_le (by simp), List.nil_append, List.length_replicate, List.drop_replicate, ← List.append_assoc, List.replicate_append_replicate]
  congr 2
  omega
set_option maxHeartbeats 3200000 in
set_option maxRecDepth 100000 in
theorem repeat_any (g n : Nat) (z : Int) (w : World) (hg : KB w g 3 #[.int .i64 z]) (hn : n ≤ 32) :
    Calls Tryz.prog 135 #[.slice (some ⟨g, 0, none⟩) 1 1, .int .i64 (n : Int)] w fun e w' =>
      e = .returned (.slice (some ⟨w.heap.size, 0, none⟩) n n) ∧ KB w' w.heap.size 3 (rpt z n n).toArray ∧ Below w.heap.size w w' := by
  have hM := fun W => umul_any 1 n W (by omega) (by omega)
  rw [Nat.one_mul, Nat.div_eq_of_lt (by omega), Nat.mod_eq_of_lt (by omega)] at hM
  have HM := Lib.hid hM
  clear hM
  go_enter Tryz.func135, Tryz.ntmps135
  go_wp2_with fail
  refine (HM.out _).mono ?_
  rintro e w1 ⟨rfl, rfl⟩
  have hmk := fun W : World => mkI (W := W) n hn
  have k1 : KB (w.alloc (.cells (litsK .i64 (zeros n)).toArray 3)) w.heap.size 3 (rpt z 0 n).toArray := by rw [rpt_zero]; exact KB.new w _ _
  have hg1 : KB (w.alloc (.cells (litsK .i64 (zeros n)).toArray 3)) g 3 #[.int .i64 z] := hg.alloc _
  have b1 : Below w.heap.size w (w.alloc (.cells (litsK .i64 (zeros n)).toArray 3)) := (Below.refl _ _).alloc (Nat.le_refl _) _
  obtain ⟨w2, hr2, k2, t2⟩ := run_copyA (P := Tryz.prog) (w.alloc (.cells (litsK .i64 (zeros n)).toArray 3)) 23 23 3 1 w.heap.size 0 n (some ⟨w.heap.size, 0, none⟩) (some ⟨g, 0, none⟩) 1 (rpt z 0 n) 3 (List.replicate (Nat.min 1 n) (.int .i64 z)) Tryz.underlying23 (by kernel_rfl) (by decide) k1 (Nat.min 1 n) rfl (by simp)
    (fun _ => ⟨rfl, _, rfl, fun j v hv => by
      have hj : j < Nat.min 1 n := by simpa using (List.getElem?_eq_some_iff.1 hv).1
      have hj1 : Nat.min 1 n ≤ 1 := Nat.min_le_left _ _
      obtain rfl : j = 0 := by omega
      rw [addr_add, hg1.cell]
      rw [List.getElem?_replicate, if_pos hj] at hv
      rw [← hv]; rfl⟩)
    (by rw [List.length_replicate, rpt_len z (Nat.zero_le n), Nat.zero_add]; exact Nat.min_le_right _ _) (by intro v hv; rw [(List.mem_replicate.1 hv).2]; rfl)
  rw [rpt_splice z (Nat.zero_le _) (by rw [Nat.sub_zero]; exact Nat.min_le_right _ _), Nat.zero_add] at k2
  have b2 : Below w.heap.size w w2 := b1.trans (t2.below (by have := b1.size; omega) (fun b e => by omega))
  have hr2 := hr2 3 n 1
  have hk0 : Nat.min 1 n ≤ n := Nat.min_le_right _ _
  have hk1 : 0 < n → 0 < Nat.min 1 n := fun h => by rw [Nat.lt_min]; omega
  have B2 := Lib.hid b2
  clear b1 t2 k1 hg1 hg HM b2
  generalize Nat.min 1 n = k0 at *
  go_wp2_with (at_builtin; refine wpList_copyR rfl (.tmp 31) (.tmp 32) 23 23 rfl rfl rfl hr2 ?_)
  go_loopg [8] (n - k0) (fun g9 tv wr => ∃ k : Nat, g9 = n - k ∧ k ≤ n ∧ (0 < n → 0 < k) ∧ tv = .int .i64 (k : Int) ∧ KB wr w.heap.size 3 (rpt z k n).toArray ∧ Below w.heap.size w wr)
  case atStart => exact ⟨k0, rfl, hk0, hk1, rfl, k2, B2.out⟩
  case round =>
    obtain ⟨k, hg9, hk, hk1', rfl, kr, br⟩ := hrel
    clear k2 hr2
    by_cases hlt : k < n
    · have hkp := hk1' (by omega)
      have hm1 : Nat.min k (n - k) ≤ n - k := Nat.min_le_right _ _
      have hm2 : Nat.min k (n - k) ≤ k := Nat.min_le_left _ _
      have hm0 : 0 < Nat.min k (n - k) := by show 0 < min k (n - k); rw [Nat.lt_min]; omega
      have kd : KB wr.drew w.heap.size 3 (rpt z k n).toArray := kr
      obtain ⟨w3, hr3, k3, t3⟩ := run_copyA (P := Tryz.prog) wr.drew 23 23 3 1 w.heap.size k (n - k) (some ⟨w.heap.size, k, none⟩) (some ⟨w.heap.size, 0, none⟩) k (rpt z k n) 3 (List.replicate (Nat.min k (n - k)) (.int .i64 z)) Tryz.underlying23 (by kernel_rfl) (by decide) kd (Nat.min k (n - k)) rfl (by simp)
        (fun _ => ⟨rfl, _, rfl, fun j v hv => by
          have hj : j < Nat.min k (n - k) := by simpa using (List.getElem?_eq_some_iff.1 hv).1
          rw [addr_add, Nat.zero_add, kd.cell]
          rw [List.getElem?_replicate, if_pos hj] at hv
          rw [← hv, List.getElem?_toArray]
          unfold rpt
          rw [List.getElem?_append_left (by rw [List.length_replicate]; omega), List.getElem?_replicate, if_pos (by omega)]⟩)
        (by rw [List.length_replicate, rpt_len z hk]; omega) (by intro v hv; rw [(List.mem_replicate.1 hv).2]; rfl)
      rw [rpt_splice z hk hm1] at k3
      have b3 : Below w.heap.size w w3 := (show Below w.heap.size w wr.drew from br.drew).trans (t3.below (by have := br.size; show w.heap.size ≤ wr.heap.size; omega) (fun b e => by omega))
      have hr3 := fun ty => hr3 ty (n - k) n
      have HB3 := Lib.hid b3
      clear b3 t3 kd kr br
      generalize Nat.min k (n - k) = m at *
      have hck : ¬ n = k := by omega
      have hki : (k : Int) ≤ (n : Int) := by omega
      have hw : IntKind.i64.wrap ((k : Int) + (m : Int)) = ((k + m : Nat) : Int) := by rw [IntKind.wrap_i64]; omega
      go_wp2_with fail
      go_region_law (refine step_copyR rfl _ _ 23 23 rfl (v := .slice (some ⟨w.heap.size, k, none⟩) (n - k) (n - k)) (u := .slice (some ⟨w.heap.size, 0, none⟩) k n) (by simp [Act.eval, Act.put]) (by simp [Act.eval, Act.put]) (hr3 _) ?_)
      all_goals
        go_wp2
        go_roundg (n - (k + m))
        case rel => exact ⟨k + m, rfl, by omega, by omega, by simp, k3, HB3.out⟩
        case measure => omega
    · obtain rfl : k = n := by omega
      go_wp2
      go_ret
      exact ⟨rfl, kr, br⟩
end Go.Proofs.YtehekjlakegkpaaGreat
end
section
namespace Go.Proofs.YtehekjlakegkpaaGreat
open Go.RowKit
set_option linter.unusedVariables false

/-- A slice lies in no block of F. -/
def Pr (F : Nat → Prop) (A : Option Addr) (n : Nat) : Prop := ∀ a, A = some a → 0 < n → ¬ F a.block
theorem Pr.mono {F G : Nat → Prop} {A : Option Addr} {n : Nat} (h : Pr F A n) (hG : ∀ b, G b → F b) : Pr G A n := fun a e hn hg => h a e hn (hG _ hg)
/-- A candidate that isn't elected, as it lies. -/
structure Rn where
  cd : Int
  A : Option Addr
  n : Nat
  c : Nat
  ps : List Nat
  st : Nat
def Rn.val (u : Rn) : Value := .agg #[.int .i64 u.cd, .slice u.A u.n u.c, .int .u64 (u.st : Int)]
def Rn.cells (u : Rn) : List Value := [.int .i64 u.cd, .slice u.A u.n u.c, .int .u64 (u.st : Int)]
/-- A seat, as it lies. -/
structure Se where
  cd : Int
  f : Fp
  x : Rat
def Se.cells (e : Se) : List Value := [.int .i64 e.cd, .slice e.f.A e.f.n e.f.c, .slice e.f.B e.f.m e.f.d]
def Se.out (e : Se) : Int × Rat := (e.cd, e.x)
def rnC (us : List Rn) : List Value := us.flatMap Rn.cells
def seC (es : List Se) : List Value := es.flatMap Se.cells

/-! Lists of three cells each. -/
theorem flat3_len {α : Type} (f : α → List Value) (hf : ∀ a, (f a).length = 3) (l : List α) : (l.flatMap f).length = l.length * 3 := by
  induction l with
  | nil => rfl
  | cons a l ih => rw [List.flatMap_cons, List.length_append, ih, hf, List.length_cons]; omega
theorem flat3_get {α : Type} (f : α → List Value) (hf : ∀ a, (f a).length = 3) (l : List α) (j i : Nat) (a : α) (h : l[j]? = some a) (hi : i < 3) : (l.flatMap f)[j * 3 + i]? = (f a)[i]? := by
  induction l generalizing j with
  | nil => simp at h
  | cons b l ih =>
    rw [List.flatMap_cons]
    cases j with
    | zero =>
      obtain rfl : b = a := by simpa using h
      rw [List.getElem?_append_left (by rw [hf]; omega)]
      simp
    | succ j =>
      rw [List.getElem?_append_right (by rw [hf]; omega), hf, ← ih j (by simpa using h)]
      congr 1; omega
theorem rnC_len (us : List Rn) : (rnC us).length = us.length * 3 := flat3_len _ (fun _ => rfl) us
theorem seC_len (es : List Se) : (seC es).length = es.length * 3 := flat3_len _ (fun _ => rfl) es
theorem rnC_append (us vs : List Rn) : rnC (us ++ vs) = rnC us ++ rnC vs := List.flatMap_append
theorem seC_append (us vs : List Se) : seC (us ++ vs) = seC us ++ seC vs := List.flatMap_append
theorem rnC_one (us : List Rn) : ∀ u ∈ rnC us, u.oneCell' = true := by
  intro u hu
  obtain ⟨v, _, hv⟩ := List.mem_flatMap.1 hu
  simp [Rn.cells] at hv
  rcases hv with rfl | rfl | rfl <;> rfl
theorem seC_one (us : List Se) : ∀ u ∈ seC us, u.oneCell' = true := by
  intro u hu
  obtain ⟨v, _, hv⟩ := List.mem_flatMap.1 hu
  simp [Se.cells] at hv
  rcases hv with rfl | rfl | rfl <;> rfl
/-- The cells of an element of a row of the call's own. -/
theorem own3_at {w : World} {base : Nat} {T : TypeId} {v : Value} {n : Nat} {cs : List Value} (h : w.ownsRow base T 3 v n cs) {j : Nat} (hj : j < n) : ∃ g c, v = .slice (some ⟨g, 0, none⟩) n c ∧ base ≤ g ∧ g < w.heap.size ∧ n ≤ c ∧ c ≤ maxLen ∧ ∀ i, i < 3 → w.cell? ⟨g, j * 3 + i, none⟩ = cs[j * 3 + i]? := by
  rcases own_forms h with ⟨rfl, hl, _⟩ | ⟨g, cap, rfl, hb, hnc, hcm, hg, cur, hk, hcs, ht⟩
  · omega
  · refine ⟨g, cap, rfl, hb, hg, hnc, hcm, fun i hi => ?_⟩
    rw [KB.cell (show KB w g T cur from hk), ← ht, List.getElem?_take, if_pos (by omega)]
    simp

/-- A race as it lies. -/
structure Rm where
  P : Nat
  G : Nat
  vA : Option Addr
  n : Nat
  vc : Nat
  rv : Value
  rs : List Rn
  ev : Value
  es : List Se
  lt : List Int
/-- The blocks that a call of the race's own may turn. -/
def Rm.F (m : Rm) (b : Nat) : Prop := b = m.P ∨ b = m.G ∨ m.rv.ownBlock = some b ∨ m.ev.ownBlock = some b
structure RcIn (w : World) (base : Nat) (m : Rm) : Prop where
  blk : KB w m.P 145 #[.slice m.vA m.n m.vc, m.rv, m.ev, .slice (some ⟨m.G, 0, none⟩) m.n m.n]
  pb : base ≤ m.P
  gb : base ≤ m.G
  ro : w.ownsRow base 180 3 m.rv m.rs.length (rnC m.rs)
  eo : w.ownsRow base 40 3 m.ev m.es.length (seC m.es)
  lo : KB w m.G 3 (m.lt.map (Value.int .i64)).toArray
  ll : m.lt.length = m.n
  n32 : m.n ≤ 32
  rd : ∀ u ∈ m.rs, Ri w u.A u.n u.c (ints u.ps) ∧ Pr m.F u.A u.n ∧ u.st < 18446744073709551616
  ed : ∀ e ∈ m.es, RX w e.f e.x ∧ Pr m.F e.f.A e.f.n ∧ Pr m.F e.f.B e.f.m
section
variable {w w' : World} {base : Nat} {m : Rm}
theorem RcIn.lt (h : RcIn w base m) {b : Nat} (hb : m.F b) : base ≤ b ∧ b < w.heap.size := by
  rcases hb with rfl | rfl | hb | hb
  · exact ⟨h.pb, h.blk.lt⟩
  · exact ⟨h.gb, h.lo.lt⟩
  · exact h.ro.lt _ hb
  · exact h.eo.lt _ hb
theorem RcIn.below (h : RcIn w base m) {B : Nat} (hb : Below B w w') (hB : w.heap.size ≤ B) : RcIn w' base m :=
  ⟨h.blk.below hb (Nat.lt_of_lt_of_le h.blk.lt hB), h.pb, h.gb, own_below h.ro hb (fun g e => Nat.lt_of_lt_of_le (h.ro.lt _ e).2 hB), own_below h.eo hb (fun g e => Nat.lt_of_lt_of_le (h.eo.lt _ e).2 hB),
    h.lo.below hb (Nat.lt_of_lt_of_le h.lo.lt hB), h.ll, h.n32, fun u hu => ⟨(h.rd u hu).1.below hb hB, (h.rd u hu).2⟩, fun e he => ⟨(h.ed e he).1.below hb hB, (h.ed e he).2⟩⟩
theorem RcIn.drewN (h : RcIn w base m) (k : Nat) : RcIn (w.drewN k) base m := ⟨h.blk, h.pb, h.gb, h.ro, h.eo, h.lo, h.ll, h.n32, h.rd, h.ed⟩
theorem RcIn.drew (h : RcIn w base m) : RcIn w.drew base m := ⟨h.blk, h.pb, h.gb, h.ro, h.eo, h.lo, h.ll, h.n32, h.rd, h.ed⟩
/-- A runner's cells. -/
theorem RcIn.runner (h : RcIn w base m) {j : Nat} {u : Rn} (hu : m.rs[j]? = some u) : ∃ g c, m.rv = .slice (some ⟨g, 0, none⟩) m.rs.length c ∧ base ≤ g ∧ g < w.heap.size ∧ m.rs.length ≤ c ∧ c ≤ maxLen ∧
    w.cell? ⟨g, j * 3, none⟩ = some (.int .i64 u.cd) ∧ w.cell? ⟨g, j * 3 + 1, none⟩ = some (.slice u.A u.n u.c) ∧ w.cell? ⟨g, j * 3 + 2, none⟩ = some (.int .u64 (u.st : Int)) := by
  have hj : j < m.rs.length := (List.getElem?_eq_some_iff.1 hu).1
  obtain ⟨g, c, e, hb, hg, hnc, hc, hi⟩ := own3_at h.ro hj
  refine ⟨g, c, e, hb, hg, hnc, hc, ?_, ?_, ?_⟩
  · have := hi 0 (by omega)
    unfold rnC at this
    rw [flat3_get Rn.cells (fun _ => rfl) m.rs j 0 u hu (by omega)] at this
    exact this
  · have := hi 1 (by omega)
    unfold rnC at this
    rw [flat3_get Rn.cells (fun _ => rfl) m.rs j 1 u hu (by omega)] at this
    exact this
  · have := hi 2 (by omega)
    unfold rnC at this
    rw [flat3_get Rn.cells (fun _ => rfl) m.rs j 2 u hu (by omega)] at this
    exact this
/-- A seat's cells. -/
theorem RcIn.seat (h : RcIn w base m) {j : Nat} {u : Se} (hu : m.es[j]? = some u) : ∃ g c, m.ev = .slice (some ⟨g, 0, none⟩) m.es.length c ∧ base ≤ g ∧ g < w.heap.size ∧ m.es.length ≤ c ∧ c ≤ maxLen ∧
    w.cell? ⟨g, j * 3, none⟩ = some (.int .i64 u.cd) ∧ w.cell? ⟨g, j * 3 + 1, none⟩ = some (.slice u.f.A u.f.n u.f.c) ∧ w.cell? ⟨g, j * 3 + 2, none⟩ = some (.slice u.f.B u.f.m u.f.d) := by
  have hj : j < m.es.length := (List.getElem?_eq_some_iff.1 hu).1
  obtain ⟨g, c, e, hb, hg, hnc, hc, hi⟩ := own3_at h.eo hj
  refine ⟨g, c, e, hb, hg, hnc, hc, ?_, ?_, ?_⟩
  · have := hi 0 (by omega)
    unfold seC at this
    rw [flat3_get Se.cells (fun _ => rfl) m.es j 0 u hu (by omega)] at this
    exact this
  · have := hi 1 (by omega)
    unfold seC at this
    rw [flat3_get Se.cells (fun _ => rfl) m.es j 1 u hu (by omega)] at this
    exact this
  · have := hi 2 (by omega)
    unfold seC at this
    rw [flat3_get Se.cells (fun _ => rfl) m.es j 2 u hu (by omega)] at this
    exact this
end

/-! append of one element behind a row of the call's own: where the row lies then. -/
section
variable {P : Program} (w : World)
theorem run_appT (sz by_ : Nat) (z : Value) (T : TypeId) (base : Nat) (t ty : TypeId) (ht : P.underlying t = some (.slice T)) (hinfo : (P.info? T).map (fun i => (i.zero, i.size, i.bytes)) = some (some z, sz, by_)) (hzs : z.cells.size = sz) (hsz : 0 < sz)
    (v : Value) (ad : Addr) (n c : Nat) (xs ys : List Value) (hown : w.ownsRow base T sz v n xs) (hr : Sr sz w (some ad) 1 c ys) (h1 : ∀ u ∈ ys, u.oneCell' = true) (h63 : n + 1 ≤ maxLen) (hs : (n + 1) * by_ ≤ 140737488355328) (hbase : base ≤ w.heap.size) :
    ∃ A' c' w', (Builtin.append_ #[t, t] ty #[v, .slice (some ad) 1 c]).run P w = .ok (.slice A' (n + 1) c') w' ∧ w'.ownsRow base T sz (.slice A' (n + 1) c') (n + 1) (xs ++ ys) ∧ Turns (fun b => v.ownBlock = some b) w w' ∧ ((Value.slice A' (n + 1) c').ownBlock = v.ownBlock ∨ (Value.slice A' (n + 1) c').ownBlock = some w.heap.size) := by
  obtain ⟨i0, hi, hz0, hz1, hz2⟩ := info_parts hinfo
  obtain ⟨v', w', hrun, h2, h3, h4, h5⟩ := run_append_own_at (P := P) w base t ty T i0 z sz by_ ht hi hz0 hz1 hz2 hzs hsz v n xs hown ad 1 c ys hr.len (hr.2.2.2.2 ad rfl) h1 h63 hs hbase
  have hbel : Turns (fun b => v.ownBlock = some b) w w' := Turns.grown h3 (fun r e => e)
  rcases h2.2 with ⟨rfl, hn⟩ | ⟨g, cap, cur, rfl, _⟩
  · omega
  · exact ⟨_, _, w', hrun, h2, hbel, h5⟩
variable {w : World}
theorem wpList_appT (sz by_ : Nat) (z : Value) (T : TypeId) {ops : Array Oper} {rest : List Oper} {o : Oper} {a : Act} {Q : Exit → Act → World → Prop} (hgd : o.guard = none) (s x : Operand) (t : TypeId)
    (ho : o.op = .call { callee := .builtin .append, args := #[s, x], argTypes := #[t, t] })
    (base : Nat) (ht : P.underlying t = some (.slice T)) (hinfo : (P.info? T).map (fun i => (i.zero, i.size, i.bytes)) = some (some z, sz, by_)) (hzs : z.cells.size = sz) (hsz : 0 < sz)
    (v : Value) (ad : Addr) (n c : Nat) (xs ys : List Value) (hse : a.eval s = v) (hxe : a.eval x = .slice (some ad) 1 c) (hown : w.ownsRow base T sz v n xs) (hr : Sr sz w (some ad) 1 c ys) (h1 : ∀ u ∈ ys, u.oneCell' = true) (h63 : n + 1 ≤ maxLen) (hs : (n + 1) * by_ ≤ 140737488355328) (hbase : base ≤ w.heap.size)
    (h : ∀ A' c' w', w'.ownsRow base T sz (.slice A' (n + 1) c') (n + 1) (xs ++ ys) → Turns (fun b => v.ownBlock = some b) w w' → ((Value.slice A' (n + 1) c').ownBlock = v.ownBlock ∨ (Value.slice A' (n + 1) c').ownBlock = some w.heap.size) → wpList P ops Q rest (a.put o.dst (.slice A' (n + 1) c')) w') : wpList P ops Q (o :: rest) a w := by
  refine wpList_plain hgd fun K hK => ?_
  obtain ⟨A', c', w', hrun, h2, h3, h4⟩ := run_appT (P := P) w sz by_ z T base t o.type ht hinfo hzs hsz v ad n c xs ys hown hr h1 h63 hs hbase
  unfold Oper.wp execOp
  simp only [ho, resolve, invoke, builtin, Sem.run_bind, Sem.run_pure, Result.andThen_ok, List.map_toArray, List.map_cons, List.map_nil, hse, hxe, hrun]
  exact hK _ _ (h A' c' w' h2 h3 h4)
theorem step_appT (sz by_ : Nat) (z : Value) (T : TypeId) {ops : Array Oper} {o : Oper} {a : Act} {K : Act → World → Prop} {Q : Exit → Act → World → Prop} {E : Prop} (hgd : o.guard = none) (s x : Operand) (t : TypeId)
    (ho : o.op = .call { callee := .builtin .append, args := #[s, x], argTypes := #[t, t] })
    (base : Nat) (ht : P.underlying t = some (.slice T)) (hinfo : (P.info? T).map (fun i => (i.zero, i.size, i.bytes)) = some (some z, sz, by_)) (hzs : z.cells.size = sz) (hsz : 0 < sz)
    (v : Value) (ad : Addr) (n c : Nat) (xs ys : List Value) (hse : a.eval s = v) (hxe : a.eval x = .slice (some ad) 1 c) (hown : w.ownsRow base T sz v n xs) (hr : Sr sz w (some ad) 1 c ys) (h1 : ∀ u ∈ ys, u.oneCell' = true) (h63 : n + 1 ≤ maxLen) (hs : (n + 1) * by_ ≤ 140737488355328) (hbase : base ≤ w.heap.size)
    (h : ∀ A' c' w', w'.ownsRow base T sz (.slice A' (n + 1) c') (n + 1) (xs ++ ys) → Turns (fun b => v.ownBlock = some b) w w' → ((Value.slice A' (n + 1) c').ownBlock = v.ownBlock ∨ (Value.slice A' (n + 1) c').ownBlock = some w.heap.size) → K (a.put o.dst (.slice A' (n + 1) c')) w') :
    if Region.wanted o (yielded ops a.tmps) = true then Oper.wp P o a w K Q else E := by
  have hw : Region.wanted o (yielded ops a.tmps) = true := by simp [Region.wanted, hgd]
  rw [if_pos hw]
  obtain ⟨A', c', w', hrun, h2, h3, h4⟩ := run_appT (P := P) w sz by_ z T base t o.type ht hinfo hzs hsz v ad n c xs ys hown hr h1 h63 hs hbase
  unfold Oper.wp
  simp [execOp, ho, resolve, invoke, builtin, hse, hxe, hrun, Result.andThen]
  exact h A' c' w' h2 h3 h4
end
/-! What a call of the race's own makes of it. -/
theorem RX.turns {F : Nat → Prop} {w w' : World} {f : Fp} {x : Rat} (h : RX w f x) (ht : Turns F w w') (h1 : Pr F f.A f.n) (h2 : Pr F f.B f.m) : RX w' f x := by
  have key : ∀ {A : Option Addr} {n c : Nat} {xs : List Nat}, Rd w A n c xs → Pr F A n → Rd w' A n c xs := fun {A n c xs} hr hp =>
    ⟨hr.1, hr.2.1, hr.2.2.1, hr.2.2.2.1, fun hn => by
      obtain ⟨b, o, e, hb, hc⟩ := hr.at_ hn
      exact ⟨b, o, e, Nat.lt_of_lt_of_le hb ht.size, fun j hj => (ht.cell (p := ⟨b, o + j, none⟩) hb (hp ⟨b, o, none⟩ e hn)).trans (hc j hj)⟩⟩
  exact ⟨key h.1 h1, key h.2 h2⟩
theorem Pr.new {F G : Nat → Prop} {A : Option Addr} {n : Nat} {N : Nat} (h : Pr F A n) (hlt : ∀ a, A = some a → 0 < n → a.block < N) (hG : ∀ b, G b → F b ∨ N ≤ b) : Pr G A n := fun a e hn hg => by
  rcases hG _ hg with h' | h'
  · exact h a e hn h'
  · have := hlt a e hn; omega
theorem Ri.lt {w : World} {A : Option Addr} {n c : Nat} {zs : List Int} (h : Ri w A n c zs) : ∀ a, A = some a → 0 < n → a.block < w.heap.size := fun a e hn => by
  obtain ⟨b, o, e', hb, _⟩ := h.at_ hn
  rw [e] at e'; injection e' with e'; subst e'; exact hb
theorem Rd.lt {w : World} {A : Option Addr} {n c : Nat} {xs : List Nat} (h : Rd w A n c xs) : ∀ a, A = some a → 0 < n → a.block < w.heap.size := fun a e hn => by
  obtain ⟨b, o, e', hb, _⟩ := h.at_ hn
  rw [e] at e'; injection e' with e'; subst e'; exact hb
theorem own_blk {w : World} {base sz n : Nat} {T : TypeId} {v : Value} {cs : List Value} (h : w.ownsRow base T sz v n cs) {g : Nat} (hg : v.ownBlock = some g) : ∃ cur, KB w g T cur := by
  rcases own_forms h with ⟨rfl, _, _⟩ | ⟨g', cap, rfl, hb, hnc, hcm, hlt, cur, hk, hcs, ht⟩
  · cases hg
  · cases hg; exact ⟨cur, hk⟩
theorem own_turns {F : Nat → Prop} {w w' : World} {base sz n : Nat} {T : TypeId} {v : Value} {cs : List Value} (h : w.ownsRow base T sz v n cs) (ht : Turns F w w') (hF : ∀ g, v.ownBlock = some g → ¬ F g) : w'.ownsRow base T sz v n cs := by
  refine ⟨h.1, ?_⟩
  rcases h.2 with ⟨rfl, hn⟩ | ⟨g, cap, cur, rfl, hb, hg, h1, h2, h3, h4⟩
  · exact .inl ⟨rfl, hn⟩
  · exact .inr ⟨g, cap, cur, rfl, hb, (ht.block g (Array.getElem?_eq_some_iff.1 hg).1 (hF g rfl)).trans hg, h1, h2, h3, h4⟩
theorem RcIn.build {W w' : World} {base : Nat} {m m' : Rm} (h : RcIn W base m) (ht : Turns m.F W w') (hF : ∀ b, m'.F b → m.F b ∨ W.heap.size ≤ b)
    (hblk : KB w' m'.P 145 #[.slice m'.vA m'.n m'.vc, m'.rv, m'.ev, .slice (some ⟨m'.G, 0, none⟩) m'.n m'.n]) (hpb : base ≤ m'.P) (hgb : base ≤ m'.G)
    (hro : w'.ownsRow base 180 3 m'.rv m'.rs.length (rnC m'.rs)) (heo : w'.ownsRow base 40 3 m'.ev m'.es.length (seC m'.es))
    (hlo : KB w' m'.G 3 (m'.lt.map (Value.int .i64)).toArray) (hll : m'.lt.length = m'.n) (hn : m'.n ≤ 32)
    (hrs : ∀ u ∈ m'.rs, u ∈ m.rs ∨ (Ri w' u.A u.n u.c (ints u.ps) ∧ Pr m'.F u.A u.n ∧ u.st < 18446744073709551616))
    (hes : ∀ e ∈ m'.es, e ∈ m.es ∨ (RX w' e.f e.x ∧ Pr m'.F e.f.A e.f.n ∧ Pr m'.F e.f.B e.f.m)) : RcIn w' base m' := by
  refine ⟨hblk, hpb, hgb, hro, heo, hlo, hll, hn, fun u hu => ?_, fun e he => ?_⟩
  · rcases hrs u hu with hu | hu
    · obtain ⟨h1, h2, h3⟩ := h.rd u hu
      exact ⟨h1.turns ht h2, h2.new h1.lt hF, h3⟩
    · exact hu
  · rcases hes e he with he | he
    · obtain ⟨h1, h2, h3⟩ := h.ed e he
      exact ⟨h1.turns ht h2 h3, h2.new h1.1.lt hF, h3.new h1.2.lt hF⟩
    · exact he
section
variable {W w' : World} {base : Nat} {m : Rm}
theorem RcIn.ne_rP (h : RcIn W base m) {g : Nat} (hg : m.rv.ownBlock = some g) : g ≠ m.P := by
  obtain ⟨cur, hk⟩ := own_blk h.ro hg
  exact hk.ne h.blk (by decide)
theorem RcIn.ne_eP (h : RcIn W base m) {g : Nat} (hg : m.ev.ownBlock = some g) : g ≠ m.P := by
  obtain ⟨cur, hk⟩ := own_blk h.eo hg
  exact hk.ne h.blk (by decide)
theorem RcIn.ne_rG (h : RcIn W base m) {g : Nat} (hg : m.rv.ownBlock = some g) : g ≠ m.G := by
  obtain ⟨cur, hk⟩ := own_blk h.ro hg
  exact hk.ne h.lo (by decide)
theorem RcIn.ne_eG (h : RcIn W base m) {g : Nat} (hg : m.ev.ownBlock = some g) : g ≠ m.G := by
  obtain ⟨cur, hk⟩ := own_blk h.eo hg
  exact hk.ne h.lo (by decide)
theorem RcIn.ne_re (h : RcIn W base m) {g k : Nat} (hg : m.rv.ownBlock = some g) (hk : m.ev.ownBlock = some k) : g ≠ k := by
  obtain ⟨c1, h1⟩ := own_blk h.ro hg
  obtain ⟨c2, h2⟩ := own_blk h.eo hk
  exact h1.ne h2 (by decide)
theorem RcIn.ne_PG (h : RcIn W base m) : m.P ≠ m.G := h.blk.ne h.lo (by decide)
/-- A runner more. -/
theorem RcIn.pushR (h : RcIn W base m) (u : Rn) {v' : Value} (hu : Ri W u.A u.n u.c (ints u.ps)) (hup : Pr m.F u.A u.n) (hst : u.st < 18446744073709551616)
    (ho : w'.ownsRow base 180 3 v' (m.rs.length + 1) (rnC m.rs ++ u.cells)) (ht : Turns (fun b => m.rv.ownBlock = some b) W w') (hv : v'.ownBlock = m.rv.ownBlock ∨ v'.ownBlock = some W.heap.size) :
    RcIn (w'.setCell ⟨m.P, 1, none⟩ v') base { m with rv := v', rs := m.rs ++ [u] } ∧ Turns m.F W (w'.setCell ⟨m.P, 1, none⟩ v') := by
  have hT : Turns m.F W (w'.setCell ⟨m.P, 1, none⟩ v') := (ht.mono (fun b hb => .inl (.inr (.inr (.inl hb))))).setCell' (p := ⟨m.P, 1, none⟩) (.inl rfl) v'
  have hPw : KB w' m.P 145 #[.slice m.vA m.n m.vc, m.rv, m.ev, .slice (some ⟨m.G, 0, none⟩) m.n m.n] := h.blk.turns ht (fun e => h.ne_rP e rfl)
  have hcs : rnC (m.rs ++ [u]) = rnC m.rs ++ u.cells := by rw [rnC_append]; simp [rnC]
  refine ⟨h.build hT (fun b hb => ?_) ?_ h.pb h.gb ?_ ?_ ?_ h.ll h.n32 (fun x hx => ?_) (fun e he => .inl he), hT⟩
  · rcases hb with hb | hb | hb | hb
    · exact .inl (.inl hb)
    · exact .inl (.inr (.inl hb))
    · rcases hv with e | e
      · exact .inl (.inr (.inr (.inl (e ▸ hb))))
      · rw [show v'.ownBlock = some b from hb] at e; injection e with e; exact .inr (by omega)
    · exact .inl (.inr (.inr (.inr hb)))
  · simpa using hPw.set 1 v'
  · rw [hcs]
    show World.ownsRow _ _ _ _ _ (List.length (m.rs ++ [u])) _
    rw [List.length_append]
    exact own_turns ho (Turns.setCell (F := fun b => b = m.P) w' ⟨m.P, 1, none⟩ v' rfl) (fun g hg e => by
      obtain ⟨cur, hk⟩ := own_blk ho hg
      exact hk.ne hPw (by decide) e)
  · exact own_turns (own_turns h.eo ht (fun g hg e => h.ne_re e hg rfl)) (Turns.setCell (F := fun b => b = m.P) w' ⟨m.P, 1, none⟩ v' rfl) (fun g hg e => h.ne_eP hg e)
  · exact (h.lo.turns ht (fun e => h.ne_rG e rfl)).far (fun e => h.ne_PG e.symm) v'
  · rcases List.mem_append.1 hx with hx | hx
    · exact .inl hx
    · obtain rfl := List.mem_singleton.1 hx
      refine .inr ⟨hu.turns hT hup, hup.new hu.lt (fun b hb => ?_), hst⟩
      rcases hb with hb | hb | hb | hb
      · exact .inl (.inl hb)
      · exact .inl (.inr (.inl hb))
      · rcases hv with e | e
        · exact .inl (.inr (.inr (.inl (e ▸ hb))))
        · rw [show v'.ownBlock = some b from hb] at e; injection e with e; exact .inr (by omega)
      · exact .inl (.inr (.inr (.inr hb)))
/-- A seat more. -/
theorem RcIn.pushE (h : RcIn W base m) (u : Se) {v' : Value} (hu : RX W u.f u.x) (hu1 : Pr m.F u.f.A u.f.n) (hu2 : Pr m.F u.f.B u.f.m)
    (ho : w'.ownsRow base 40 3 v' (m.es.length + 1) (seC m.es ++ u.cells)) (ht : Turns (fun b => m.ev.ownBlock = some b) W w') (hv : v'.ownBlock = m.ev.ownBlock ∨ v'.ownBlock = some W.heap.size) :
    RcIn (w'.setCell ⟨m.P, 2, none⟩ v') base { m with ev := v', es := m.es ++ [u] } ∧ Turns m.F W (w'.setCell ⟨m.P, 2, none⟩ v') := by
  have hT : Turns m.F W (w'.setCell ⟨m.P, 2, none⟩ v') := (ht.mono (fun b hb => .inl (.inr (.inr (.inr hb))))).setCell' (p := ⟨m.P, 2, none⟩) (.inl rfl) v'
  have hPw : KB w' m.P 145 #[.slice m.vA m.n m.vc, m.rv, m.ev, .slice (some ⟨m.G, 0, none⟩) m.n m.n] := h.blk.turns ht (fun e => h.ne_eP e rfl)
  have hcs : seC (m.es ++ [u]) = seC m.es ++ u.cells := by rw [seC_append]; simp [seC]
  have hF : ∀ b, Rm.F { m with ev := v', es := m.es ++ [u] } b → m.F b ∨ W.heap.size ≤ b := fun b hb => by
    rcases hb with hb | hb | hb | hb
    · exact .inl (.inl hb)
    · exact .inl (.inr (.inl hb))
    · exact .inl (.inr (.inr (.inl hb)))
    · rcases hv with e | e
      · exact .inl (.inr (.inr (.inr (e ▸ hb))))
      · rw [show v'.ownBlock = some b from hb] at e; injection e with e; exact .inr (by omega)
  refine ⟨h.build hT hF ?_ h.pb h.gb ?_ ?_ ?_ h.ll h.n32 (fun e he => .inl he) (fun x hx => ?_), hT⟩
  · simpa using hPw.set 2 v'
  · exact own_turns (own_turns h.ro ht (fun g hg e => h.ne_re hg e rfl)) (Turns.setCell (F := fun b => b = m.P) w' ⟨m.P, 2, none⟩ v' rfl) (fun g hg e => h.ne_rP hg e)
  · rw [hcs]
    show World.ownsRow _ _ _ _ _ (List.length (m.es ++ [u])) _
    rw [List.length_append]
    exact own_turns ho (Turns.setCell (F := fun b => b = m.P) w' ⟨m.P, 2, none⟩ v' rfl) (fun g hg e => by
      obtain ⟨cur, hk⟩ := own_blk ho hg
      exact hk.ne hPw (by decide) e)
  · exact (h.lo.turns ht (fun e => h.ne_eG e rfl)).far (fun e => h.ne_PG e.symm) v'
  · rcases List.mem_append.1 hx with hx | hx
    · exact .inl hx
    · obtain rfl := List.mem_singleton.1 hx
      exact .inr ⟨hu.turns hT hu1 hu2, hu1.new hu.1.lt hF, hu2.new hu.2.lt hF⟩
/-- A voter's latest seat is another one. -/
theorem RcIn.setL (h : RcIn W base m) (j : Nat) (z : Int) : RcIn (W.setCell ⟨m.G, j, none⟩ (.int .i64 z)) base { m with lt := m.lt.set j z } ∧ Turns m.F W (W.setCell ⟨m.G, j, none⟩ (.int .i64 z)) := by
  have hT : Turns m.F W (W.setCell ⟨m.G, j, none⟩ (.int .i64 z)) := Turns.setCell W ⟨m.G, j, none⟩ _ (.inr (.inl rfl))
  have hG : Turns (fun b => b = m.G) W (W.setCell ⟨m.G, j, none⟩ (.int .i64 z)) := Turns.setCell W ⟨m.G, j, none⟩ _ rfl
  refine ⟨h.build hT (fun b hb => .inl hb) (h.blk.far h.ne_PG _) h.pb h.gb (own_turns h.ro hG (fun g hg => h.ne_rG hg)) (own_turns h.eo hG (fun g hg => h.ne_eG hg)) ?_ (by simpa using h.ll) h.n32 (fun e he => .inl he) (fun e he => .inl he), hT⟩
  have := h.lo.set j (.int .i64 z)
  rw [List.map_set]
  simpa using this
/-- A runner less: its row was turned in place. -/
theorem RcIn.delR (h : RcIn W base m) (k : Nat) {v' : Value} (ho : w'.ownsRow base 180 3 v' (m.rs.eraseIdx k).length (rnC (m.rs.eraseIdx k))) (ht : Turns (fun b => m.rv.ownBlock = some b) W w') (hv : v'.ownBlock = m.rv.ownBlock) :
    RcIn (w'.setCell ⟨m.P, 1, none⟩ v') base { m with rv := v', rs := m.rs.eraseIdx k } ∧ Turns m.F W (w'.setCell ⟨m.P, 1, none⟩ v') := by
  have hT : Turns m.F W (w'.setCell ⟨m.P, 1, none⟩ v') := (ht.mono (fun b hb => .inl (.inr (.inr (.inl hb))))).setCell' (p := ⟨m.P, 1, none⟩) (.inl rfl) v'
  have hPw : KB w' m.P 145 #[.slice m.vA m.n m.vc, m.rv, m.ev, .slice (some ⟨m.G, 0, none⟩) m.n m.n] := h.blk.turns ht (fun e => h.ne_rP e rfl)
  refine ⟨h.build hT (fun b hb => .inl ?_) ?_ h.pb h.gb ?_ ?_ ?_ h.ll h.n32 (fun x hx => .inl (List.mem_of_mem_eraseIdx hx)) (fun e he => .inl he), hT⟩
  · rcases hb with hb | hb | hb | hb
    · exact .inl hb
    · exact .inr (.inl hb)
    · exact .inr (.inr (.inl (hv ▸ hb)))
    · exact .inr (.inr (.inr hb))
  · simpa using hPw.set 1 v'
  · exact own_turns ho (Turns.setCell (F := fun b => b = m.P) w' ⟨m.P, 1, none⟩ v' rfl) (fun g hg e => by
      obtain ⟨cur, hk⟩ := own_blk ho hg
      exact hk.ne hPw (by decide) e)
  · exact own_turns (own_turns h.eo ht (fun g hg e => h.ne_re e hg rfl)) (Turns.setCell (F := fun b => b = m.P) w' ⟨m.P, 1, none⟩ v' rfl) (fun g hg e => h.ne_eP hg e)
  · exact (h.lo.turns ht (fun e => h.ne_rG e rfl)).far (fun e => h.ne_PG e.symm) v'
end
end Go.Proofs.YtehekjlakegkpaaGreat
end
section
namespace Go.Proofs.YtehekjlakegkpaaGreat
open Go.RowKit
set_option linter.unusedVariables false

/-- A share, as it lies. -/
structure Sh where
  v : Int
  c : Int
  f : Fp
  x : Rat
def Sh.cells (s : Sh) : List Value := [.int .i64 s.v, .int .i64 s.c, .slice s.f.A s.f.n s.f.c, .slice s.f.B s.f.m s.f.d]
def Sh.val (s : Sh) : Value := .agg #[.int .i64 s.v, .int .i64 s.c, .slice s.f.A s.f.n s.f.c, .slice s.f.B s.f.m s.f.d]
def shC (l : List Sh) : List Value := l.flatMap Sh.cells
set_option maxHeartbeats 800000 in
theorem cmpI_any (a b : Int) (w : World) : Calls Tryz.prog 95 #[.int .i64 a, .int .i64 b] w fun e w' => e = .returned (.int .i64 (if a < b then -1 else if b < a then 1 else 0)) ∧ w' = w := by
  by_cases h : a < b
  · rw [if_pos h]
    go_enter Tryz.func95, Tryz.ntmps95
    go_wp2
    go_ret
    exact ⟨rfl, rfl⟩
  · rw [if_neg h]
    by_cases h2 : b < a
    · rw [if_pos h2]
      go_enter Tryz.func95, Tryz.ntmps95
      go_wp2
      go_ret
      exact ⟨rfl, rfl⟩
    · rw [if_neg h2]
      go_enter Tryz.func95, Tryz.ntmps95
      go_wp2
      go_ret
      exact ⟨rfl, rfl⟩
set_option maxHeartbeats 800000 in
theorem cmpS_any (s t : Sh) (w : World) : Calls Tryz.prog 94 #[s.val, t.val] w fun e w' => e = .returned (.int .i64 (if s.c < t.c then -1 else if t.c < s.c then 1 else 0)) ∧ Below w.heap.size w w' := by
  obtain ⟨v1, c1, ⟨A, n, c, B, m, d⟩, x1⟩ := s
  obtain ⟨v2, c2, ⟨A', n', c', B', m', d'⟩, x2⟩ := t
  have hC := fun W => cmpI_any c1 c2 W
  unfold Sh.val
  dsimp only
  have hk1 := (KB.new w 47 #[.int .i64 v1, .int .i64 c1, .slice A n c, .slice B m d]).alloc (.cells #[.int .i64 v2, .int .i64 c2, .slice A' n' c', .slice B' m' d'] 47)
  have hk2 := KB.new (w.alloc (.cells #[.int .i64 v1, .int .i64 c1, .slice A n c, .slice B m d] 47)) 47 #[.int .i64 v2, .int .i64 c2, .slice A' n' c', .slice B' m' d']
  have e1 : (w.alloc (.cells #[.int .i64 v1, .int .i64 c1, .slice A n c, .slice B m d] 47)).heap.size = w.heap.size + 1 := by simp
  rw [e1] at hk2
  have hb := ((Below.refl w.heap.size w).alloc (Nat.le_refl _) (.cells #[.int .i64 v1, .int .i64 c1, .slice A n c, .slice B m d] 47)).alloc (by omega) (.cells #[.int .i64 v2, .int .i64 c2, .slice A' n' c', .slice B' m' d'] 47)
  have x1 := hk1.cell 1
  have y1 := hk2.cell 1
  simp at x1 y1
  have HB := Lib.hid hb
  generalize (if c1 < c2 then (-1 : Int) else if c2 < c1 then 1 else 0) = z at *
  clear hb hk1 hk2 e1
  go_enter Tryz.func94, Tryz.ntmps94
  go_wp2_with fail
  refine (hC _).mono ?_
  rintro e w2 ⟨rfl, rfl⟩
  go_wp2
  go_ret
  exact ⟨rfl, HB.out⟩

/-! Shares in a row, place by place. -/
structure S4 (w : World) (g : Nat) (l : List Sh) (cap : Nat) (cur : Array Value) : Prop where
  kb : KB w g 47 cur
  sz : cur.size = cap * 4
  le : l.length ≤ cap
  el : ∀ j s, l[j]? = some s → ∀ i, i < 4 → cur[j * 4 + i]? = s.cells[i]?
theorem S4.at_ {w : World} {g cap : Nat} {l : List Sh} {cur : Array Value} (h : S4 w g l cap cur) {j : Nat} {s : Sh} (hs : l[j]? = some s) :
    w.cell? ⟨g, j * 4, none⟩ = some (.int .i64 s.v) ∧ w.cell? ⟨g, j * 4 + 1, none⟩ = some (.int .i64 s.c) ∧ w.cell? ⟨g, j * 4 + 2, none⟩ = some (.slice s.f.A s.f.n s.f.c) ∧ w.cell? ⟨g, j * 4 + 3, none⟩ = some (.slice s.f.B s.f.m s.f.d) :=
  ⟨(h.kb.cell _).trans (h.el j s hs 0 (by omega)), (h.kb.cell _).trans (h.el j s hs 1 (by omega)), (h.kb.cell _).trans (h.el j s hs 2 (by omega)), (h.kb.cell _).trans (h.el j s hs 3 (by omega))⟩
theorem S4.below {w w' : World} {g cap : Nat} {l : List Sh} {cur : Array Value} (h : S4 w g l cap cur) (hb : Below w.heap.size w w') : S4 w' g l cap cur := ⟨h.kb.below hb h.kb.lt, h.sz, h.le, h.el⟩
/-- The world in which a share has been laid at a place. -/
def put4 (w : World) (g j : Nat) (s : Sh) : World := (((w.setCell ⟨g, j * 4, none⟩ (.int .i64 s.v)).setCell ⟨g, j * 4 + 1, none⟩ (.int .i64 s.c)).setCell ⟨g, j * 4 + 2, none⟩ (.slice s.f.A s.f.n s.f.c)).setCell ⟨g, j * 4 + 3, none⟩ (.slice s.f.B s.f.m s.f.d)
theorem S4.put {w : World} {g cap : Nat} {l : List Sh} {cur : Array Value} (h : S4 w g l cap cur) (j : Nat) (hj : j < l.length) (s : Sh) : ∃ cur', S4 (put4 w g j s) g (l.set j s) cap cur' := by
  refine ⟨_, (((h.kb.set (j * 4) _).set (j * 4 + 1) _).set (j * 4 + 2) _).set (j * 4 + 3) _, by simpa using h.sz, by simpa using h.le, fun k t ht i hi => ?_⟩
  have hsz := h.sz
  have hle := h.le
  have hjs : j * 4 + 4 ≤ cur.size := by omega
  simp only [Array.getElem?_setIfInBounds, Array.size_setIfInBounds]
  by_cases e : j = k
  · subst e
    rw [List.getElem?_set_self hj] at ht
    injection ht with ht
    subst ht
    obtain rfl | rfl | rfl | rfl : i = 0 ∨ i = 1 ∨ i = 2 ∨ i = 3 := by omega
    · rw [if_neg (by omega), if_neg (by omega), if_neg (by omega), if_pos (by omega), if_pos (by omega)]; rfl
    · rw [if_neg (by omega), if_neg (by omega), if_pos (by omega), if_pos (by omega)]; rfl
    · rw [if_neg (by omega), if_pos (by omega), if_pos (by omega)]; rfl
    · rw [if_pos (by omega), if_pos (by omega)]; rfl
  · rw [List.getElem?_set_ne e] at ht
    rw [if_neg (by omega), if_neg (by omega), if_neg (by omega), if_neg (by omega)]
    exact h.el k t ht i hi
theorem put4_turns (w : World) (g j : Nat) (s : Sh) : Turns (fun b => b = g) w (put4 w g j s) := ((((Turns.refl (fun b => b = g) w).setCell' (p := ⟨g, j * 4, none⟩) rfl _).setCell' (p := ⟨g, j * 4 + 1, none⟩) rfl _).setCell' (p := ⟨g, j * 4 + 2, none⟩) rfl _).setCell' (p := ⟨g, j * 4 + 3, none⟩) rfl _
theorem swap_perm' {α : Type} (l : List α) (j : Nat) (a b : α) (ha : l[j]? = some a) (hb : l[j + 1]? = some b) : ((l.set (j + 1) a).set j b).Perm l := by
  induction l generalizing j with
  | nil => simp at ha
  | cons x l ih =>
    cases j with
    | zero =>
      cases l with
      | nil => simp at hb
      | cons y l =>
        simp at ha hb
        subst ha hb
        exact List.Perm.swap _ _ _
    | succ j =>
      simp only [List.set_cons_succ]
      exact (ih j (by simpa using ha) (by simpa using hb)).cons x
/-- The first so many are in order, but for the one at a place, which is not greater than those behind it. -/
def OrdBut (l : List Sh) (n j : Nat) : Prop := (∀ p q s t, p < q → q ≤ n → p ≠ j → q ≠ j → l[p]? = some s → l[q]? = some t → s.c ≤ t.c) ∧ (∀ q s t, j < q → q ≤ n → l[j]? = some s → l[q]? = some t → s.c ≤ t.c)
/-- The first so many are in order. -/
def OrdTo (l : List Sh) (n : Nat) : Prop := ∀ p q s t, p < q → q < n → l[p]? = some s → l[q]? = some t → s.c ≤ t.c
theorem OrdTo.one (l : List Sh) : OrdTo l 1 := fun p q s t h1 h2 => by omega
theorem OrdTo.but {l : List Sh} {n : Nat} (h : OrdTo l n) : OrdBut l n n := ⟨fun p q s t h1 h2 h3 h4 => h p q s t h1 (by omega), fun q s t h1 h2 => by omega⟩
theorem OrdBut.done {l : List Sh} {n j : Nat} (h : OrdBut l n j) (hj : j = 0 ∨ ∀ s t, l[j - 1]? = some s → l[j]? = some t → s.c ≤ t.c) (hl : j < l.length) : OrdTo l (n + 1) := by
  obtain ⟨h1, h2⟩ := h
  intro p q s t hpq hq hs ht
  by_cases e1 : p = j
  · subst e1; exact h2 q s t hpq (by omega) hs ht
  · by_cases e2 : q = j
    · subst e2
      rcases hj with rfl | hj
      · omega
      · by_cases e3 : p = q - 1
        · subst e3; exact hj s t hs ht
        · obtain ⟨u, hu⟩ : ∃ u, l[q - 1]? = some u := ⟨_, List.getElem?_eq_getElem (by omega)⟩
          have a := h1 p (q - 1) s u (by omega) (by omega) e1 (by omega) hs hu
          have b := hj u t hu ht
          omega
    · exact h1 p q s t hpq (by omega) e1 e2 hs ht
theorem OrdBut.swap {l : List Sh} {n j : Nat} {a b : Sh} (h : OrdBut l n (j + 1)) (hn : j + 1 ≤ n) (ha : l[j]? = some a) (hb : l[j + 1]? = some b) (hlt : b.c < a.c) : OrdBut ((l.set (j + 1) a).set j b) n j := by
  obtain ⟨h1, h2⟩ := h
  have hjl : j + 1 < l.length := (List.getElem?_eq_some_iff.1 hb).1
  have get : ∀ k, ((l.set (j + 1) a).set j b)[k]? = if k = j then some b else if k = j + 1 then some a else l[k]? := fun k => by
    by_cases e : k = j
    · subst e; rw [if_pos rfl, List.getElem?_set_self (by simp; omega)]
    · rw [if_neg e, List.getElem?_set_ne (fun h => e h.symm)]
      by_cases e2 : k = j + 1
      · subst e2; rw [if_pos rfl, List.getElem?_set_self hjl]
      · rw [if_neg e2, List.getElem?_set_ne (fun h => e2 h.symm)]
  refine ⟨fun p q s t hpq hq hp hq' hs ht => ?_, fun q s t hq hqn hs ht => ?_⟩
  · rw [get, if_neg hp] at hs
    rw [get, if_neg hq'] at ht
    by_cases e1 : p = j + 1
    · subst e1
      rw [if_pos rfl] at hs
      injection hs with hs
      subst hs
      rw [if_neg (by omega)] at ht
      exact h1 j q a t (by omega) hq (by omega) (by omega) ha ht
    · rw [if_neg e1] at hs
      by_cases e2 : q = j + 1
      · subst e2
        rw [if_pos rfl] at ht
        injection ht with ht
        subst ht
        exact h1 p j s a (by omega) (by omega) e1 (by omega) hs ha
      · rw [if_neg e2] at ht
        exact h1 p q s t hpq hq e1 e2 hs ht
  · rw [get, if_pos rfl] at hs
    injection hs with hs
    subst hs
    rw [get, if_neg (by omega)] at ht
    by_cases e : q = j + 1
    · subst e
      rw [if_pos rfl] at ht
      injection ht with ht
      subst ht
      omega
    · rw [if_neg e] at ht
      exact h2 q b t (by omega) hqn hb ht
end Go.Proofs.YtehekjlakegkpaaGreat
end
