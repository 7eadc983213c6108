/-
  The contract of slices.Sort over ints, which the library proves once over any program, laid at this program.
  Plain mathematics of a ring of handles: each handle has a neighbour before and one after; 0 stands for the ends. A handle taken out, and one put in ahead of another. No program is in sight here; no conditions but those that each theorem names.
  A map from integers to pointers, as a function from keys to blocks: what a look-up, a store, a delete and len give. For whatever program; the conditions stand in each theorem.
  A chain in memory: its block, its map, a block for each member. What stays when other blocks turn; what each store makes of it. For whatever kind of member (one cell); the conditions stand in each theorem.
-/
import Derived.Shelf.Sort.Plain
import Derived.Test.YtehekjlakegkpaaGreatProg
import Derived.Maps.OwnSet
import Derived.Maps.OwnIn
import Derived.Test.YtehekjlakegkpaaGreatChecked
import Derived.WalkKit
import Derived.Below
import Derived.Laws.World
section
namespace Go.Proofs
open Go.Shelf
def Tryz.lays189_ren : Go.Shelf.Ren := ⟨fun | 189 => 134 | 125 => 146 | 257 => 163 | 128 => 177 | 129 => 178 | 294 => 196 | 295 => 197 | 296 => 198 | 297 => 199 | 298 => 200 | 299 => 201 | 216 => 202 | 300 => 203 | 301 => 204 | 328 => 224 | 329 => 209 | 330 => 210 | 331 => 225 | 332 => 226 | 215 => 147 | 343 => 231 | n => n, fun | 28 => 23 | 3 => 3 | 46 => 109 | 0 => 0 | 51 => 69 | 53 => 41 | 4 => 4 | 183 => 208 | 182 => 207 | 131 => 212 | 5 => 5 | 9 => 9 | 218 => 240 | 222 => 244 | 228 => 256 | 229 => 257 | n => n, fun | n => n⟩
theorem Tryz.lays189 : Go.Proofs.Lays.n189 Tryz.prog Tryz.lays189_ren := {
  mixed := by kernel_rfl
  f125 := Tryz.func146.trans (congrArg some (by kernel_rfl))
  f128 := Tryz.func177.trans (congrArg some (by kernel_rfl))
  f129 := Tryz.func178.trans (congrArg some (by kernel_rfl))
  f189 := Tryz.func134.trans (congrArg some (by kernel_rfl))
  f215 := Tryz.func147.trans (congrArg some (by kernel_rfl))
  f216 := Tryz.func202.trans (congrArg some (by kernel_rfl))
  f257 := Tryz.func163.trans (congrArg some (by kernel_rfl))
  f294 := Tryz.func196.trans (congrArg some (by kernel_rfl))
  f295 := Tryz.func197.trans (congrArg some (by kernel_rfl))
  f296 := Tryz.func198.trans (congrArg some (by kernel_rfl))
  f297 := Tryz.func199.trans (congrArg some (by kernel_rfl))
  f298 := Tryz.func200.trans (congrArg some (by kernel_rfl))
  f299 := Tryz.func201.trans (congrArg some (by kernel_rfl))
  f300 := Tryz.func203.trans (congrArg some (by kernel_rfl))
  f301 := Tryz.func204.trans (congrArg some (by kernel_rfl))
  f328 := Tryz.func224.trans (congrArg some (by kernel_rfl))
  f329 := Tryz.func209.trans (congrArg some (by kernel_rfl))
  f330 := Tryz.func210.trans (congrArg some (by kernel_rfl))
  f331 := Tryz.func225.trans (congrArg some (by kernel_rfl))
  f332 := Tryz.func226.trans (congrArg some (by kernel_rfl))
  f343 := Tryz.func231.trans (congrArg some (by kernel_rfl))
  t0 := Tryz.underlying0
  a0 := Tryz.isAgg0
  z0 := Tryz.sizeOf0
  v0 := Tryz.zeroValue0
  t3 := Tryz.underlying3
  a3 := Tryz.isAgg3
  z3 := Tryz.sizeOf3
  v3 := Tryz.zeroValue3
  t4 := Tryz.underlying4
  a4 := Tryz.isAgg4
  z4 := Tryz.sizeOf4
  v4 := Tryz.zeroValue4
  t5 := Tryz.underlying5
  a5 := Tryz.isAgg5
  z5 := Tryz.sizeOf5
  v5 := Tryz.zeroValue5
  t9 := Tryz.underlying9
  a9 := Tryz.isAgg9
  z9 := Tryz.sizeOf9
  v9 := Tryz.zeroValue9
  t28 := Tryz.underlying23
  a28 := Tryz.isAgg23
  z28 := Tryz.sizeOf23
  v28 := Tryz.zeroValue23
  t46 := Tryz.underlying109
  a46 := Tryz.isAgg109
  z46 := Tryz.sizeOf109
  v46 := Tryz.zeroValue109
  t51 := Tryz.underlying69
  a51 := Tryz.isAgg69
  z51 := Tryz.sizeOf69
  v51 := Tryz.zeroValue69
  t53 := Tryz.underlying41
  a53 := Tryz.isAgg41
  z53 := Tryz.sizeOf41
  v53 := Tryz.zeroValue41
  t131 := Tryz.underlying212
  a131 := Tryz.isAgg212
  z131 := Tryz.sizeOf212
  v131 := Tryz.zeroValue212
  t182 := Tryz.underlying207
  a182 := Tryz.isAgg207
  z182 := Tryz.sizeOf207
  v182 := Tryz.zeroValue207
  t183 := Tryz.underlying208
  a183 := Tryz.isAgg208
  z183 := Tryz.sizeOf208
  v183 := Tryz.zeroValue208
  t218 := Tryz.underlying240
  a218 := Tryz.isAgg240
  z218 := Tryz.sizeOf240
  v218 := Tryz.zeroValue240
  t222 := Tryz.underlying244
  a222 := Tryz.isAgg244
  z222 := Tryz.sizeOf244
  v222 := Tryz.zeroValue244
  t228 := Tryz.underlying256
  a228 := Tryz.isAgg256
  z228 := Tryz.sizeOf256
  v228 := Tryz.zeroValue256
  t229 := Tryz.underlying257
  a229 := Tryz.isAgg257
  z229 := Tryz.sizeOf257
  v229 := Tryz.zeroValue257 }
open Go.Sort Go.RowKit in
theorem Tryz.slices_Sort_int (blk off cap : Nat) (zs : List Int) (w : World) (hH : Holds (Value.int .i64) w blk off zs.toArray) (hblk : blk < w.heap.size) (hsz : zs.length < 4611686018427387904) :
    Calls Tryz.prog 134 #[.slice (some ⟨blk, off, none⟩) zs.length cap] w fun e w' =>
      e = .returned (.tuple #[]) ∧ ∃ n os, w' = grow (putRow (Value.int .i64) (Sort.ahead w n) blk off (zs.mergeSort fun x y => decide (x ≤ y)).toArray) os := Any.slices_Sort_int Tryz.lays189 blk off cap zs w hH hblk hsz
end Go.Proofs
end
section
namespace Go.Proofs.YtehekjlakegkpaaGreat
set_option linter.unusedVariables false

/-- A function that is changed at one place. -/
def upd {β : Type} (f : Int → β) (h : Int) (x : β) (k : Int) : β := if k = h then x else f k
theorem upd_same {β : Type} (f : Int → β) (h : Int) (x : β) : upd f h x h = x := by simp [upd]
theorem upd_other {β : Type} (f : Int → β) {h k : Int} (x : β) (hne : k ≠ h) : upd f h x k = f k := by simp [upd, hne]

/-- From a over xs to b each one's neighbours are those beside it. -/
def Seg (af bf : Int → Int) : Int → List Int → Int → Prop
  | a, [], b => af a = b ∧ bf b = a
  | a, x :: xs, b => af a = x ∧ bf x = a ∧ Seg af bf x xs b

/-- The ring of the members xs, closed by 0. -/
def Ring (af bf : Int → Int) (xs : List Int) : Prop := Seg af bf 0 xs 0

theorem seg_congr {af bf af' bf' : Int → Int} : ∀ {xs : List Int} {a b : Int}, Seg af bf a xs b → (∀ x, x = a ∨ x ∈ xs → af' x = af x) → (∀ x, x = b ∨ x ∈ xs → bf' x = bf x) → Seg af' bf' a xs b
  | [], a, b, h, h1, h2 => ⟨(h1 a (.inl rfl)).trans h.1, (h2 b (.inl rfl)).trans h.2⟩
  | x :: xs, a, b, ⟨e1, e2, h⟩, h1, h2 =>
    ⟨(h1 a (.inl rfl)).trans e1, (h2 x (.inr (by simp))).trans e2, seg_congr h (fun y hy => h1 y (.inr (by rcases hy with rfl | hy <;> simp [*]))) (fun y hy => h2 y (by rcases hy with rfl | hy <;> simp [*]))⟩

theorem seg_append {af bf : Int → Int} : ∀ {xs : List Int} {a y b : Int} {ys : List Int}, Seg af bf a (xs ++ y :: ys) b ↔ Seg af bf a xs y ∧ Seg af bf y ys b
  | [], a, y, b, ys => by simp [Seg, and_assoc]
  | x :: xs, a, y, b, ys => by
    show (_ ∧ _ ∧ Seg af bf x (xs ++ y :: ys) b) ↔ (_ ∧ _ ∧ Seg af bf x xs y) ∧ _
    rw [seg_append]; simp [and_assoc]

/-- Whoever stands before the end is a or one of xs; and one of xs, if there are any. -/
theorem seg_before {af bf : Int → Int} : ∀ {xs : List Int} {a b : Int}, Seg af bf a xs b → (xs = [] ∧ bf b = a) ∨ bf b ∈ xs
  | [], _, _, h => .inl ⟨rfl, h.2⟩
  | x :: xs, a, b, ⟨_, _, h⟩ => .inr (by rcases seg_before h with ⟨rfl, e⟩ | e <;> simp [*])
theorem seg_after {af bf : Int → Int} : ∀ {xs : List Int} {a b : Int}, Seg af bf a xs b → af a = xs.headD b
  | [], _, _, h => h.1
  | x :: xs, a, b, ⟨e, _, h⟩ => e

/-- The end is another one. -/
theorem seg_end {af bf : Int → Int} : ∀ {xs : List Int} {a b c : Int}, Seg af bf a xs b → (a :: xs).Nodup → c ∉ xs → Seg (upd af (bf b) c) (upd bf c (bf b)) a xs c
  | [], a, b, c, h, _, _ => by
    obtain ⟨_, h2⟩ := h
    exact ⟨by rw [h2, upd_same], by rw [h2, upd_same]⟩
  | x :: xs, a, b, c, ⟨e1, e2, h⟩, hn, hc => by
    have hp : bf b ∈ x :: xs := by rcases seg_before h with ⟨rfl, e⟩ | e <;> simp [*]
    have ha : a ≠ bf b := fun e => (List.nodup_cons.1 hn).1 (e ▸ hp)
    have hx : x ≠ c := fun e => hc (by simp [e])
    exact ⟨by rw [upd_other _ _ ha]; exact e1, by rw [upd_other _ _ hx]; exact e2, seg_end h (List.nodup_cons.1 hn).2 (fun hm => hc (by simp [hm]))⟩

/-- A handle is taken out. -/
theorem ring_part {af bf : Int → Int} {xs ys : List Int} {h : Int} (hr : Ring af bf (xs ++ h :: ys)) (hn : (0 :: (xs ++ h :: ys)).Nodup) :
    Ring (upd af (bf h) (af h)) (upd bf (af h) (bf h)) (xs ++ ys) := by
  obtain ⟨h1, h2⟩ := seg_append.1 hr
  have hn1 : (0 :: xs).Nodup := (List.Sublist.cons_cons 0 (List.sublist_append_left xs (h :: ys))).nodup hn
  have hb : bf h = 0 ∨ bf h ∈ xs := by rcases seg_before h1 with ⟨_, e⟩ | e <;> simp [*]
  simp only [List.nodup_cons, List.nodup_append, List.mem_append, List.mem_cons, not_or] at hn
  obtain ⟨⟨h0x, h0h, h0y⟩, hxs, ⟨hhy, hys⟩, hd⟩ := hn
  cases ys with
  | nil =>
    obtain ⟨e1, _⟩ := h2
    rw [e1, List.append_nil]
    exact seg_end h1 hn1 h0x
  | cons y ys =>
    obtain ⟨e1, e2, h3⟩ := h2
    rw [e1]
    refine seg_append.2 ⟨seg_end h1 hn1 (fun hm => hd y hm y (by simp) rfl), seg_congr h3 (fun x hx => ?_) (fun x hx => ?_)⟩
    · refine upd_other _ _ fun e => ?_
      have hxy : x ∈ y :: ys := List.mem_cons.2 hx
      rcases hb with hb | hb
      · exact h0y (by rw [← hb, ← e]; exact hxy)
      · exact hd _ hb _ (.inr (e ▸ hxy)) rfl
    · refine upd_other _ _ fun e => ?_
      rcases hx with rfl | hx
      · exact h0y (by simp [e])
      · exact (List.nodup_cons.1 hys).1 (e ▸ hx)

/-- A handle is put in ahead of the first of ys, or ahead of the end. -/
theorem ring_join {af bf : Int → Int} {xs ys : List Int} {h : Int} (hr : Ring af bf (xs ++ ys)) (hn : (0 :: (xs ++ h :: ys)).Nodup) :
    Ring (upd (upd af h (ys.headD 0)) (bf (ys.headD 0)) h) (upd (upd bf h (bf (ys.headD 0))) (ys.headD 0) h) (xs ++ h :: ys) := by
  have hn1 : (0 :: xs).Nodup := (List.Sublist.cons_cons 0 (List.sublist_append_left xs (h :: ys))).nodup hn
  simp only [List.nodup_cons, List.nodup_append, List.mem_append, List.mem_cons, not_or] at hn
  obtain ⟨⟨h0x, h0h, h0y⟩, hxs, ⟨hhy, hys⟩, hd⟩ := hn
  have hhx : h ∉ xs := fun hm => hd h hm h (.inl rfl) rfl
  have key : ∀ {o : Int}, Seg af bf 0 xs o → o ∉ xs → o ≠ h → Seg (upd (upd af h o) (bf o) h) (upd (upd bf h (bf o)) o h) 0 xs h := fun {o} hs ho hoh => by
    refine seg_congr (seg_end hs hn1 hhx) (fun x hx => ?_) (fun x hx => ?_)
    · unfold upd
      have : x ≠ h := by rcases hx with rfl | hx; exact h0h; exact fun e => hhx (e ▸ hx)
      by_cases e : x = bf o <;> simp [e, this]
    · have : x ≠ o := by rcases hx with rfl | hx; exact fun e => hoh e.symm; exact fun e => ho (e ▸ hx)
      rw [upd_other _ _ this]
  have hpre : ∀ {o : Int}, Seg af bf 0 xs o → bf o = 0 ∨ bf o ∈ xs := fun hs => by rcases seg_before hs with ⟨_, e⟩ | e <;> simp [*]
  cases ys with
  | nil =>
    rw [List.append_nil] at hr
    have hb := hpre hr
    have hbh : h ≠ bf 0 := by rcases hb with e | e; rw [e]; exact fun e => h0h e.symm; exact fun e' => hhx (e' ▸ e)
    refine seg_append.2 ⟨key hr h0x h0h, ?_, ?_⟩
    · show upd (upd af h 0) (bf 0) h h = 0
      rw [upd_other _ _ hbh, upd_same]
    · exact upd_same _ _ _
  | cons y ys =>
    obtain ⟨h1, h2⟩ := seg_append.1 hr
    have hb := hpre h1
    have hyx : y ∉ xs := fun hm => hd y hm y (.inr (by simp)) rfl
    have hyh : y ≠ h := fun e => hhy (by simp [e])
    have hbh : h ≠ bf y := by rcases hb with e | e; rw [e]; exact fun e => h0h e.symm; exact fun e' => hhx (e' ▸ e)
    refine seg_append.2 ⟨key h1 hyx hyh, ?_, ?_, seg_congr h2 (fun x hx => ?_) (fun x hx => ?_)⟩
    · show upd (upd af h y) (bf y) h h = y
      rw [upd_other _ _ hbh, upd_same]
    · exact upd_same _ _ _
    · have hxy : x ∈ y :: ys := List.mem_cons.2 hx
      have e1 : x ≠ bf y := by
        rcases hb with e | e
        · rw [e]; exact fun e => h0y (e ▸ hxy)
        · exact fun e' => hd _ e _ (.inr (e' ▸ hxy)) rfl
      have e2 : x ≠ h := fun e => hhy (e ▸ hxy)
      show upd (upd af h y) (bf y) h x = af x
      rw [upd_other _ _ e1, upd_other _ _ e2]
    · have e1 : x ≠ y := by
        rcases hx with rfl | hx
        · exact fun e => h0y (by simp [e])
        · exact fun e => (List.nodup_cons.1 hys).1 (e ▸ hx)
      have e2 : x ≠ h := by
        rcases hx with rfl | hx
        · exact h0h
        · exact fun e => hhy (by simp [← e, hx])
      show upd (upd bf h (bf y)) y h x = bf x
      rw [upd_other _ _ e1, upd_other _ _ e2]

/-- Whoever stands beside a member, or beside the ends, is a member or the ends. -/
theorem ring_before {af bf : Int → Int} {xs : List Int} (hr : Ring af bf xs) {h : Int} (hh : h = 0 ∨ h ∈ xs) : bf h = 0 ∨ bf h ∈ xs := by
  rcases hh with rfl | hh
  · rcases seg_before hr with ⟨_, e⟩ | e <;> simp [*]
  · obtain ⟨ys, zs, rfl⟩ := List.append_of_mem hh
    rcases seg_before (seg_append.1 hr).1 with ⟨_, e⟩ | e
    · exact .inl e
    · exact .inr (by simp [e])
theorem ring_after {af bf : Int → Int} {xs : List Int} (hr : Ring af bf xs) {h : Int} (hh : h = 0 ∨ h ∈ xs) : af h = 0 ∨ af h ∈ xs := by
  have key : ∀ {ys : List Int} {a : Int}, Seg af bf a ys 0 → af a = 0 ∨ af a ∈ ys := fun {ys a} hs => by
    rw [seg_after hs]; cases ys <;> simp
  rcases hh with rfl | hh
  · exact key hr
  · obtain ⟨ys, zs, rfl⟩ := List.append_of_mem hh
    rcases key (seg_append.1 hr).2 with e | e
    · exact .inl e
    · exact .inr (by simp [e])

/-- There and back. -/
theorem seg_reverse {af bf : Int → Int} : ∀ {xs : List Int} {a b : Int}, Seg af bf a xs b → Seg bf af b xs.reverse a
  | [], _, _, h => ⟨h.2, h.1⟩
  | x :: xs, a, b, ⟨e1, e2, h⟩ => by
    rw [List.reverse_cons]
    exact seg_append.2 ⟨seg_reverse h, e2, e1⟩
theorem ring_reverse {af bf : Int → Int} {xs : List Int} (h : Ring af bf xs) : Ring bf af xs.reverse := seg_reverse h
theorem ring_nil {af bf : Int → Int} (h1 : af 0 = 0) (h2 : bf 0 = 0) : Ring af bf [] := ⟨h1, h2⟩
end Go.Proofs.YtehekjlakegkpaaGreat
end
section
namespace Go.Proofs
namespace YtehekjlakegkpaaGreat
open Go.RowKit Go.Maps
set_option linter.unusedVariables false

/-- How an element reads: a pointer to a block's first place. -/
def chE : Value → Option (DataW Unit × List MemPlace)
  | .pointer none => some (.nil, [])
  | .pointer (some ⟨b, 0, none⟩) => some (.lit (.int .i64 b), [])
  | _ => none
/-- A pointer to a block, or nil. -/
def chP : Option Nat → Value
  | none => .pointer none
  | some b => .pointer (some ⟨b, 0, none⟩)
def chD : Option Nat → DataW Unit
  | none => .nil
  | some b => .lit (.int .i64 b)
theorem chE_P (x : Option Nat) : chE (chP x) = some (chD x, []) := by cases x <;> rfl
theorem chE_inv {v : Value} {x : Option Nat} {ps : List MemPlace} (h : chE v = some (chD x, ps)) : v = chP x := by
  unfold chE at h
  split at h
  · cases x with
    | none => rfl
    | some b => simp [chD] at h
  · cases x with
    | none => simp [chD] at h
    | some b =>
      rename_i b'
      simp only [chD, Option.some.injEq, Prod.mk.injEq, DataW.lit.injEq, Lit.int.injEq, true_and] at h
      have : b' = b := by omega
      subst this; rfl
  · cases h

/-- The map mv holds just the keys that f knows, each with its block; there are n of them. -/
def Mp (P : Program) (k : TypeId) (w : World) (mv : Option Nat) (f : Int → Option Nat) (n : Nat) : Prop :=
  match mv with
  | none => n = 0 ∧ ∀ h, f h = none
  | some m => ∃ D : DataW Unit, w.ownsMap P k chE m n D ∧ Maps.size D = n ∧ (∀ h, Maps.has D (.int .i64 h) = (f h).isSome) ∧ ∀ h, D.atKey (.int .i64 h) .nil = chD (f h)

section
variable {P : Program} {k : TypeId} {w w' : World} {mv : Option Nat} {f : Int → Option Nat} {n : Nat}

theorem Mp.lt {m : Nat} (h : Mp P k w (some m) f n) : m < w.heap.size := by obtain ⟨D, h, _⟩ := h; exact h.lt
theorem Mp.isMap {m : Nat} (h : Mp P k w (some m) f n) : ∃ es c, w.heap[m]? = some (.map es c) := by obtain ⟨D, ⟨es, c, hb, _⟩, _⟩ := h; exact ⟨es, c, hb⟩
theorem Mp.keep (h : Mp P k w mv f n) (hk : ∀ m, mv = some m → w'.heap[m]? = w.heap[m]?) : Mp P k w' mv f n := by
  cases mv with
  | none => exact h
  | some m =>
    obtain ⟨D, ⟨es, c, hb, hr⟩, h2⟩ := h
    exact ⟨D, ⟨es, c, (hk m rfl).trans hb, hr⟩, h2⟩
theorem Mp.congr (h : Mp P k w mv f n) {g : Int → Option Nat} (hg : ∀ x, g x = f x) : Mp P k w mv g n := by
  have : g = f := funext hg
  rw [this]; exact h

/-- 'm[h]'. -/
theorem Mp.look {t e : TypeId} (h : Mp P k w mv f n) (hk : P.underlying k = some (.int .i64)) (ht : P.underlying t = some (.map k e)) (hz : (zeroValue e).run P w = .ok (.pointer none) w) {x : Int} (hx : (Lit.int .i64 x).wf = true) :
    (Instr.lookup t (.map mv) (.int .i64 x) false).run P w = .ok (chP (f x)) w := by
  cases mv with
  | none =>
    rw [h.2 x]
    exact Maps.look_nil false (int_keyed hk) ht hz (keyOf_int_mk hk hx)
  | some m =>
    obtain ⟨D, ho, _, _, hat⟩ := h
    obtain ⟨v, ps, hr, hv⟩ := ho.lookup (int_keyed hk) ht hz (zd := .nil) (zp := []) rfl (keyOf_int_mk hk hx)
    rw [hat x] at hv
    rw [hr, chE_inv hv]
/-- 'len(m)'. -/
theorem Mp.len {t e : TypeId} (h : Mp P k w mv f n) (ht : P.underlying t = some (.map k e)) (ty : TypeId) : (Builtin.len_ #[t] ty #[.map mv]).run P w = .ok (.int .i64 n) w := by
  cases mv with
  | none =>
    obtain ⟨rfl, _⟩ := h
    exact Maps.len_nil ht ty
  | some m =>
    obtain ⟨D, ho, hs, _⟩ := h
    rw [ho.len ht ty, hs]
/-- 'm[h] = p', h a new key. -/
theorem Mp.store {m : Nat} {t e : TypeId} (h : Mp P k w (some m) f n) (hk : P.underlying k = some (.int .i64)) (ht : P.underlying t = some (.map k e)) (hn : n < maxLen) {x : Int} (hx : (Lit.int .i64 x).wf = true) (hf : f x = none) (b : Nat) :
    ∃ w', (Instr.mapUpdate t (.map (some m)) (.int .i64 x) (.pointer (some ⟨b, 0, none⟩))).run P w = .ok () w' ∧ Mp P k w' (some m) (upd f x (some b)) (n + 1) ∧ w.grownBy w' (some m) := by
  obtain ⟨D, ho, hs, hh, hat⟩ := h
  obtain ⟨w', hr, ho', ht'⟩ := ho.store (int_keyed hk) ht hn (keyOf_int_mk hk hx) (chE_P (some b))
  refine ⟨w', hr, ⟨_, ho', ?_, fun y => ?_, fun y => ?_⟩, ht'.grown⟩
  · rw [size_put (ho.tidy (int_keyed hk)), hh x, hf, hs]; rfl
  · by_cases e : y = x
    · subst e; rw [upd_same]; exact has_put_same ho.isMap ((int_keyed hk).key (keyOf_int_mk hk hx)) _
    · rw [upd_other _ _ e, has_put_other (fun h => e (by injection h)), hh y]
  · by_cases e : y = x
    · subst e; rw [upd_same]; exact atKey_put_same ho.isMap ((int_keyed hk).key (keyOf_int_mk hk hx)) _ _
    · rw [upd_other _ _ e, atKey_put_other (fun h => e (by injection h)), hat y]
/-- 'delete(m, h)', h a key. -/
theorem Mp.drop {m : Nat} {t e : TypeId} (h : Mp P k w (some m) f n) (hk : P.underlying k = some (.int .i64)) (ht : P.underlying t = some (.map k e)) {x : Int} (hx : (Lit.int .i64 x).wf = true) {b : Nat} (hf : f x = some b) (ty : TypeId) :
    ∃ w', (Builtin.delete_ #[t, k] ty #[.map (some m), .int .i64 x]).run P w = .ok (.tuple #[]) w' ∧ Mp P k w' (some m) (upd f x none) (n - 1) ∧ w.grownBy w' (some m) := by
  obtain ⟨D, ho, hs, hh, hat⟩ := h
  obtain ⟨w', hr, ho', ht'⟩ := ho.drop (int_keyed hk) ht (keyOf_int_mk hk hx) ty
  have hsz := size_del (k := .int .i64 x) (ho.tidy (int_keyed hk))
  rw [hh x, hf, hs] at hsz
  simp only [Option.isSome_some, if_true] at hsz
  have hsz' : Maps.size (D.del (.int .i64 x)) = n - 1 := by omega
  refine ⟨w', hr, ⟨_, ?_, hsz', fun y => ?_, fun y => ?_⟩, ht'.grown⟩
  · obtain ⟨es, c, hb, F, hsz2, hD⟩ := ho'
    refine ⟨es, c, hb, F, ?_, hD⟩
    rw [hD] at hsz'
    simp [Maps.size, length_sorted] at hsz'
    omega
  · by_cases e : y = x
    · subst e; rw [upd_same]; exact has_del_same
    · rw [upd_other _ _ e, has_del_other (fun h => e (by injection h)), hh y]
  · by_cases e : y = x
    · subst e; rw [upd_same]; exact atKey_del_same _
    · rw [upd_other _ _ e, atKey_del_other (fun h => e (by injection h)), hat y]
/-- 'make(map[int]*T)'. -/
theorem Mp.made (P : Program) (k : TypeId) (w : World) : Mp P k (w.alloc (.map #[] 0)) (some w.heap.size) (fun _ => none) 0 :=
  ⟨.map [], World.ownsMap_made w P k chE, rfl, fun _ => rfl, fun _ => rfl⟩

/-! The store, at the operation. -/
theorem wpList_chStore {ops : Array Oper} {rest : List Oper} {o : Oper} {a : Act} {Q : Exit → Act → World → Prop} (hg : o.guard = none) (mo xo vo : Operand) (t : TypeId) (hop : o.op = Op.mapUpdate t mo xo vo)
    {m : Nat} {e : TypeId} (h : Mp P k w (some m) f n) (hk : P.underlying k = some (.int .i64)) (ht : P.underlying t = some (.map k e)) (hn : n < maxLen) {x : Int} (hx : (Lit.int .i64 x).wf = true) (hf : f x = none) (b : Nat)
    (hm : a.eval mo = .map (some m)) (hxe : a.eval xo = .int .i64 x) (hv : a.eval vo = .pointer (some ⟨b, 0, none⟩))
    (hK : ∀ w', Mp P k w' (some m) (upd f x (some b)) (n + 1) → w.grownBy w' (some m) → wpList P ops Q rest (a.put o.dst undef) w') :
    wpList P ops Q (o :: rest) a w := by
  refine wpList_plain hg fun K' hK' => ?_
  obtain ⟨w', hrun, r1, r2⟩ := h.store hk ht hn hx hf b
  unfold Oper.wp
  simp [execOp, hop, hm, hxe, hv, hrun, Result.andThen]
  exact hK' _ _ (hK w' r1 r2)
/-- The delete, at the operation. -/
theorem wpList_chDrop {ops : Array Oper} {rest : List Oper} {o : Oper} {a : Act} {Q : Exit → Act → World → Prop} (hg : o.guard = none) (mo xo : Operand) (t : TypeId) (hop : o.op = Op.call { callee := Callee.builtin Builtin.delete, args := #[mo, xo], argTypes := #[t, k] })
    {m : Nat} {e : TypeId} (h : Mp P k w (some m) f n) (hk : P.underlying k = some (.int .i64)) (ht : P.underlying t = some (.map k e)) {x : Int} (hx : (Lit.int .i64 x).wf = true) {b : Nat} (hf : f x = some b)
    (hm : a.eval mo = .map (some m)) (hxe : a.eval xo = .int .i64 x)
    (hK : ∀ w', Mp P k w' (some m) (upd f x none) (n - 1) → w.grownBy w' (some m) → wpList P ops Q rest (a.put o.dst (.tuple #[])) w') :
    wpList P ops Q (o :: rest) a w := by
  refine wpList_plain hg fun K' hK' => ?_
  obtain ⟨w', hrun, r1, r2⟩ := h.drop hk ht hx hf o.type
  unfold Oper.wp
  simp [execOp, hop, resolve, invoke, builtin, hm, hxe, hrun, Result.andThen]
  exact hK' _ _ (hK w' r1 r2)
end
end YtehekjlakegkpaaGreat
end Go.Proofs
end
section
namespace Go.Proofs.YtehekjlakegkpaaGreat
open Go.RowKit
set_option linter.unusedVariables false

/-! Worlds that are alike but for some blocks. -/
structure Turns (F : Nat → Prop) (w w' : World) : Prop where
  os : w'.os = w.os
  tape : w'.tape = w.tape
  output : w'.output = w.output
  size : w.heap.size ≤ w'.heap.size
  block : ∀ k, k < w.heap.size → ¬ F k → w'.heap[k]? = w.heap[k]?
theorem Turns.refl (F : Nat → Prop) (w : World) : Turns F w w := ⟨rfl, rfl, rfl, Nat.le_refl _, fun _ _ _ => rfl⟩
theorem Turns.trans {F G : Nat → Prop} {w w1 w2 : World} (h : Turns F w w1) (k : Turns G w1 w2) (hG : ∀ b, G b → F b ∨ w.heap.size ≤ b) : Turns F w w2 :=
  ⟨k.os.trans h.os, k.tape.trans h.tape, k.output.trans h.output, Nat.le_trans h.size k.size, fun b hb hF =>
    (k.block b (Nat.lt_of_lt_of_le hb h.size) (fun hg => by rcases hG b hg with h | h; exact hF h; omega)).trans (h.block b hb hF)⟩
theorem Turns.mono {F G : Nat → Prop} {w w' : World} (h : Turns F w w') (hF : ∀ b, F b → G b ∨ w.heap.size ≤ b) : Turns G w w' :=
  ⟨h.os, h.tape, h.output, h.size, fun b hb hG => h.block b hb (fun hf => by rcases hF b hf with h | h; exact hG h; omega)⟩
theorem Turns.below {F : Nat → Prop} {w w' : World} (h : Turns F w w') {B : Nat} (hB : B ≤ w.heap.size) (hF : ∀ b, F b → B ≤ b) : Below B w w' :=
  ⟨h.os, h.tape, h.output, h.size, fun b hb => h.block b (by omega) (fun hf => by have := hF b hf; omega)⟩
theorem Turns.of_below {F : Nat → Prop} {w w' : World} (h : Below w.heap.size w w') : Turns F w w' := ⟨h.os, h.tape, h.output, h.size, fun b hb _ => h.block b hb⟩
theorem Turns.setCell {F : Nat → Prop} (w : World) (p : Addr) (u : Value) (hp : F p.block) : Turns F w (w.setCell p u) :=
  ⟨rfl, rfl, rfl, by simp [World.setCell], fun b _ hb => Below.heap_setCell w p u b (fun e => hb (e ▸ hp))⟩
theorem Turns.alloc (F : Nat → Prop) (w : World) (o : Obj) : Turns F w (w.alloc o) := ⟨rfl, rfl, rfl, by simp, fun b hb _ => Below.heap_alloc w o b hb⟩
theorem Turns.drew {F : Nat → Prop} {w w' : World} (h : Turns F w w') : Turns F w w'.drew := ⟨h.os, h.tape, h.output, h.size, h.block⟩
theorem Turns.grown {F : Nat → Prop} {w w' : World} {row : Option Nat} (h : w.grownBy w' row) (hr : ∀ r, row = some r → F r) : Turns F w w' :=
  ⟨h.os, h.tape, h.output, h.size, fun b hb hF => h.block b hb (fun e => hF (hr b e.symm))⟩

/-! A block that is known whole. -/
def KB (w : World) (b : Nat) (t : TypeId) (cs : Array Value) : Prop := w.heap[b]? = some (.cells cs t (0, 0))
theorem KB.lt {w : World} {b : Nat} {t : TypeId} {cs : Array Value} (h : KB w b t cs) : b < w.heap.size := (Array.getElem?_eq_some_iff.1 h).1
theorem KB.cell {w : World} {b : Nat} {t : TypeId} {cs : Array Value} (h : KB w b t cs) (i : Nat) : w.cell? ⟨b, i, none⟩ = cs[i]? := by
  simp [World.cell?, show w.heap[b]? = _ from h]
theorem KB.frozen {w : World} {b : Nat} {t : TypeId} {cs : Array Value} (h : KB w b t cs) (i : Nat) : w.frozen? ⟨b, i, none⟩ = false := by
  simp [World.frozen?, show w.heap[b]? = _ from h]
theorem KB.set {w : World} {b : Nat} {t : TypeId} {cs : Array Value} (h : KB w b t cs) (i : Nat) (u : Value) : KB (w.setCell ⟨b, i, none⟩ u) b t (cs.setIfInBounds i u) := by
  unfold KB at h ⊢
  simp [World.setCell, Array.getElem?_modify, h]
theorem KB.far {w : World} {b : Nat} {t : TypeId} {cs : Array Value} (h : KB w b t cs) {p : Addr} (hp : b ≠ p.block) (u : Value) : KB (w.setCell p u) b t cs := (Below.heap_setCell w p u b hp).trans h
theorem KB.new (w : World) (t : TypeId) (cs : Array Value) : KB (w.alloc (.cells cs t)) w.heap.size t cs := (Go.MapKept.heap_alloc w _).1
theorem KB.keep {w w' : World} {b : Nat} {t : TypeId} {cs : Array Value} (h : KB w b t cs) (hk : w'.heap[b]? = w.heap[b]?) : KB w' b t cs := hk.trans h
theorem KB.alloc {w : World} {b : Nat} {t : TypeId} {cs : Array Value} (h : KB w b t cs) (o : Obj) : KB (w.alloc o) b t cs := (Below.heap_alloc w o b h.lt).trans h
theorem KB.ne {w : World} {b b' : Nat} {t t' : TypeId} {cs cs' : Array Value} (h : KB w b t cs) (h' : KB w b' t' cs') (hne : t ≠ t') : b ≠ b' := by
  rintro rfl
  unfold KB at h h'
  rw [h] at h'
  injection h' with h'
  injection h' with _ ht
  exact hne ht
theorem KB.turns {F : Nat → Prop} {w w' : World} {b : Nat} {t : TypeId} {cs : Array Value} (h : KB w b t cs) (ht : Turns F w w') (hF : ¬ F b) : KB w' b t cs := (ht.block b h.lt hF).trans h
theorem KB.below {B : Nat} {w w' : World} {b : Nat} {t : TypeId} {cs : Array Value} (h : KB w b t cs) (hb : Below B w w') (hB : b < B) : KB w' b t cs := (hb.block b hB).trans h

/-- What a chain is: its block, its map's block, the greatest handle, the handles, each one's block, neighbours and value. -/
structure ChS (β : Type) where
  C : Nat
  m : Option Nat
  g : Int
  hs : List Int
  bl : Int → Nat
  bf : Int → Int
  af : Int → Int
  vl : Int → β

/-- Each handle's block. -/
def fH (hs : List Int) (bl : Int → Nat) (h : Int) : Option Nat := if h ∈ hs then some (bl h) else none
theorem fH_mem {hs : List Int} {bl : Int → Nat} {h : Int} (hm : h ∈ hs) : fH hs bl h = some (bl h) := if_pos hm
theorem fH_not {hs : List Int} {bl : Int → Nat} {h : Int} (hm : h ∉ hs) : fH hs bl h = none := if_neg hm

section
variable {β : Type} {ev : β → Value} {TC TM : TypeId} {w w' : World} {s : ChS β}

structure Ch (ev : β → Value) (TC TM : TypeId) (w : World) (s : ChS β) : Prop where
  blk : KB w s.C TC #[.map s.m, .int .i64 (s.bf 0), .int .i64 (s.af 0), .int .i64 s.g]
  mp : Mp Tryz.prog 3 w s.m (fH s.hs s.bl) s.hs.length
  mem : ∀ h ∈ s.hs, KB w (s.bl h) TM #[.int .i64 (s.bf h), .int .i64 (s.af h), ev (s.vl h)]
  inj : ∀ h ∈ s.hs, ∀ h' ∈ s.hs, s.bl h = s.bl h' → h = h'
  pos : ∀ h ∈ s.hs, 0 < h ∧ h ≤ s.g
  nd : s.hs.Nodup
  g0 : 0 ≤ s.g
  gw : (Lit.int .i64 s.g).wf = true

theorem wf_mid {h g : Int} (h0 : 0 ≤ h) (hg : h ≤ g) (hw : (Lit.int .i64 g).wf = true) : (Lit.int .i64 h).wf = true := by
  simp only [Lit.wf, decide_eq_true_eq, Bool.and_eq_true] at hw ⊢
  have h1 : IntKind.i64.min ≤ 0 := by decide
  omega
theorem Ch.wf (hc : Ch ev TC TM w s) {h : Int} (hh : h = 0 ∨ h ∈ s.hs) : (Lit.int .i64 h).wf = true := by
  rcases hh with rfl | hh
  · decide
  · have := hc.pos h hh
    exact wf_mid (by omega) this.2 hc.gw
/-- The blocks that a chain is made of. -/
def ChS.foot (s : ChS β) (b : Nat) : Prop := b = s.C ∨ s.m = some b ∨ ∃ h ∈ s.hs, s.bl h = b

theorem Ch.lt (h : Ch ev TC TM w s) {b : Nat} (hb : s.foot b) : b < w.heap.size := by
  rcases hb with rfl | hb | ⟨x, hx, rfl⟩
  · exact h.blk.lt
  · have := h.mp
    rw [hb] at this
    exact this.lt
  · exact (h.mem x hx).lt
theorem Ch.keep (h : Ch ev TC TM w s) (hk : ∀ b, s.foot b → w'.heap[b]? = w.heap[b]?) : Ch ev TC TM w' s :=
  ⟨h.blk.keep (hk _ (.inl rfl)), h.mp.keep (fun m e => hk m (.inr (.inl e))), fun x hx => (h.mem x hx).keep (hk _ (.inr (.inr ⟨x, hx, rfl⟩))), h.inj, h.pos, h.nd, h.g0, h.gw⟩
theorem Ch.turns {F : Nat → Prop} (h : Ch ev TC TM w s) (ht : Turns F w w') (hF : ∀ b, s.foot b → ¬ F b) : Ch ev TC TM w' s := h.keep fun b hb => ht.block b (h.lt hb) (hF b hb)
theorem Ch.alloc (h : Ch ev TC TM w s) (o : Obj) : Ch ev TC TM (w.alloc o) s := h.keep fun b hb => Below.heap_alloc w o b (h.lt hb)
theorem Ch.drew (h : Ch ev TC TM w s) : Ch ev TC TM w.drew s := h.keep fun _ _ => rfl
theorem Ch.far (h : Ch ev TC TM w s) {p : Addr} (hp : ¬ s.foot p.block) (u : Value) : Ch ev TC TM (w.setCell p u) s := h.keep fun b hb => Below.heap_setCell w p u b (fun e => hp (e ▸ hb))
theorem Ch.below (h : Ch ev TC TM w s) {B : Nat} (hb : Below B w w') (hF : ∀ b, s.foot b → b < B) : Ch ev TC TM w' s := h.keep fun b hf => hb.block b (hF b hf)

/-- Where the neighbours of a member, or of the ends, lie. -/
def nB (C : Nat) (bl : Int → Nat) (h : Int) : Nat := if h = 0 then C else bl h
def nO (h : Int) : Nat := if h = 0 then 1 else 0
theorem foot_nB {h : Int} (hh : h = 0 ∨ h ∈ s.hs) : s.foot (nB s.C s.bl h) := by
  unfold nB
  split
  · exact .inl rfl
  · exact .inr (.inr ⟨h, hh.resolve_left ‹_›, rfl⟩)

theorem Ch.cB (hc : Ch ev TC TM w s) {h : Int} (hh : h = 0 ∨ h ∈ s.hs) : w.cell? ⟨nB s.C s.bl h, nO h, none⟩ = some (.int .i64 (s.bf h)) := by
  unfold nB nO
  split
  · subst h; exact hc.blk.cell 1
  · exact (hc.mem h (hh.resolve_left ‹_›)).cell 0
theorem Ch.cA (hc : Ch ev TC TM w s) {h : Int} (hh : h = 0 ∨ h ∈ s.hs) : w.cell? ⟨nB s.C s.bl h, nO h + 1, none⟩ = some (.int .i64 (s.af h)) := by
  unfold nB nO
  split
  · subst h; exact hc.blk.cell 2
  · exact (hc.mem h (hh.resolve_left ‹_›)).cell 1
theorem Ch.fz (hc : Ch ev TC TM w s) {h : Int} (hh : h = 0 ∨ h ∈ s.hs) (i : Nat) : w.frozen? ⟨nB s.C s.bl h, i, none⟩ = false := by
  unfold nB
  split
  · exact hc.blk.frozen i
  · exact (hc.mem h (hh.resolve_left ‹_›)).frozen i

/-- A store into one of the three numbers, or into a member. -/
theorem Ch.turnC (hc : Ch ev TC TM w s) (hT : TC ≠ TM) (i : Nat) (u : Value) (s' : ChS β) (hC : s'.C = s.C) (hm : s'.m = s.m) (hhs : s'.hs = s.hs) (hbl : s'.bl = s.bl)
    (hcs : #[Value.map s.m, .int .i64 (s.bf 0), .int .i64 (s.af 0), .int .i64 s.g].setIfInBounds i u = #[.map s.m, .int .i64 (s'.bf 0), .int .i64 (s'.af 0), .int .i64 s'.g])
    (hmem : ∀ h ∈ s.hs, s'.bf h = s.bf h ∧ s'.af h = s.af h ∧ s'.vl h = s.vl h) (hg : s.g ≤ s'.g) (hgw : (Lit.int .i64 s'.g).wf = true) : Ch ev TC TM (w.setCell ⟨s.C, i, none⟩ u) s' := by
  refine ⟨?_, ?_, fun h hh => ?_, ?_, fun h hh => ?_, hhs ▸ hc.nd, by have := hc.g0; omega, hgw⟩
  · rw [hC, hm, ← hcs]; exact hc.blk.set i u
  · rw [hm, hhs, hbl]
    refine hc.mp.keep fun m e => Below.heap_setCell w _ u m fun e' => ?_
    have h1 := hc.mp
    rw [e] at h1
    obtain ⟨es, c, h1⟩ := h1.isMap
    have h2 := hc.blk
    unfold KB at h2
    rw [show s.C = m from e'.symm, h1] at h2
    cases h2
  · rw [hhs] at hh
    obtain ⟨e1, e2, e3⟩ := hmem h hh
    rw [hbl, e1, e2, e3]
    exact (hc.mem h hh).far (fun e => hc.blk.ne (hc.mem h hh) hT e.symm) u
  · rw [hhs, hbl]; exact hc.inj
  · rw [hhs] at hh
    have := hc.pos h hh
    exact ⟨this.1, by omega⟩
theorem Ch.turnM (hc : Ch ev TC TM w s) (hT : TC ≠ TM) {h : Int} (hh : h ∈ s.hs) (i : Nat) (u : Value) (s' : ChS β) (hC : s'.C = s.C) (hm : s'.m = s.m) (hhs : s'.hs = s.hs) (hbl : s'.bl = s.bl) (hg : s'.g = s.g)
    (hcs : #[Value.int .i64 (s.bf h), .int .i64 (s.af h), ev (s.vl h)].setIfInBounds i u = #[.int .i64 (s'.bf h), .int .i64 (s'.af h), ev (s'.vl h)])
    (hmem : ∀ x, x ≠ h → s'.bf x = s.bf x ∧ s'.af x = s.af x ∧ s'.vl x = s.vl x) : Ch ev TC TM (w.setCell ⟨s.bl h, i, none⟩ u) s' := by
  have h0 : (0 : Int) ≠ h := by have := hc.pos h hh; omega
  refine ⟨?_, ?_, fun x hx => ?_, ?_, fun x hx => ?_, hhs ▸ hc.nd, by rw [hg]; exact hc.g0, by rw [hg]; exact hc.gw⟩
  · obtain ⟨e1, e2, _⟩ := hmem 0 h0
    rw [hC, hm, e1, e2, hg]
    exact hc.blk.far (hc.blk.ne (hc.mem h hh) hT) u
  · rw [hm, hhs, hbl]
    refine hc.mp.keep fun m e => Below.heap_setCell w _ u m fun e' => ?_
    have h1 := hc.mp
    rw [e] at h1
    obtain ⟨es, c, h1⟩ := h1.isMap
    have h2 := hc.mem h hh
    unfold KB at h2
    rw [show s.bl h = m from e'.symm, h1] at h2
    cases h2
  · rw [hhs] at hx
    rw [hbl]
    by_cases e : x = h
    · subst e
      rw [← hcs]; exact (hc.mem x hx).set i u
    · obtain ⟨e1, e2, e3⟩ := hmem x e
      rw [e1, e2, e3]
      exact (hc.mem x hx).far (fun e' => e (hc.inj x hx h hh e')) u
  · rw [hhs, hbl]; exact hc.inj
  · rw [hhs] at hx
    rw [hg]; exact hc.pos x hx

theorem Ch.setB (hc : Ch ev TC TM w s) (hT : TC ≠ TM) {h : Int} (hh : h = 0 ∨ h ∈ s.hs) (x : Int) : Ch ev TC TM (w.setCell ⟨nB s.C s.bl h, nO h, none⟩ (.int .i64 x)) { s with bf := upd s.bf h x } := by
  unfold nB nO
  split
  · subst h
    refine hc.turnC hT 1 _ _ rfl rfl rfl rfl (by simp [upd]) (fun y hy => ⟨upd_other _ _ ?_, rfl, rfl⟩) (Int.le_refl _) hc.gw
    have := hc.pos y hy; omega
  · exact hc.turnM hT (hh.resolve_left ‹_›) 0 _ _ rfl rfl rfl rfl rfl (by simp [upd]) (fun y hy => ⟨upd_other _ _ hy, rfl, rfl⟩)
theorem Ch.setA (hc : Ch ev TC TM w s) (hT : TC ≠ TM) {h : Int} (hh : h = 0 ∨ h ∈ s.hs) (x : Int) : Ch ev TC TM (w.setCell ⟨nB s.C s.bl h, nO h + 1, none⟩ (.int .i64 x)) { s with af := upd s.af h x } := by
  unfold nB nO
  split
  · subst h
    refine hc.turnC hT 2 _ _ rfl rfl rfl rfl (by simp [upd]) (fun y hy => ⟨rfl, upd_other _ _ ?_, rfl⟩) (Int.le_refl _) hc.gw
    have := hc.pos y hy; omega
  · exact hc.turnM hT (hh.resolve_left ‹_›) 1 _ _ rfl rfl rfl rfl rfl (by simp [upd]) (fun y hy => ⟨rfl, upd_other _ _ hy, rfl⟩)
theorem Ch.setV (hc : Ch ev TC TM w s) (hT : TC ≠ TM) {h : Int} (hh : h ∈ s.hs) (x : β) : Ch ev TC TM (w.setCell ⟨s.bl h, 2, none⟩ (ev x)) { s with vl := upd s.vl h x } :=
  hc.turnM hT hh 2 _ _ rfl rfl rfl rfl rfl (by simp [upd]) (fun y hy => ⟨rfl, rfl, upd_other _ _ hy⟩)
theorem Ch.setG (hc : Ch ev TC TM w s) (hT : TC ≠ TM) {x : Int} (hx : s.g ≤ x) (hxw : (Lit.int .i64 x).wf = true) : Ch ev TC TM (w.setCell ⟨s.C, 3, none⟩ (.int .i64 x)) { s with g := x } :=
  hc.turnC hT 3 _ _ rfl rfl rfl rfl (by simp) (fun y hy => ⟨rfl, rfl, rfl⟩) hx hxw
theorem Ch.perm (hc : Ch ev TC TM w s) {hs : List Int} (hp : hs.Perm s.hs) : Ch ev TC TM w { s with hs := hs } := by
  refine ⟨hc.blk, ?_, fun h hh => hc.mem h (hp.mem_iff.1 hh), fun h hh h' hh' => hc.inj h (hp.mem_iff.1 hh) h' (hp.mem_iff.1 hh'), fun h hh => hc.pos h (hp.mem_iff.1 hh), hp.nodup_iff.2 hc.nd, hc.g0, hc.gw⟩
  show Mp Tryz.prog 3 w s.m (fH hs s.bl) hs.length
  rw [hp.length_eq]
  exact hc.mp.congr fun x => by unfold fH; simp [hp.mem_iff]
/-- The first map is made. -/
theorem Ch.make (hc : Ch ev TC TM w s) (hT : TC ≠ TM) (hm : s.m = none) : Ch ev TC TM ((w.alloc (.map #[] 0)).setCell ⟨s.C, 0, none⟩ (.map (some w.heap.size))) { s with m := some w.heap.size } := by
  have h0 : s.hs = [] := by
    have := hc.mp
    rw [hm] at this
    exact List.eq_nil_of_length_eq_zero this.1
  have hne : w.heap.size ≠ s.C := by have := hc.blk.lt; omega
  refine ⟨?_, ?_, ?_, ?_, ?_, hc.nd, hc.g0, hc.gw⟩
  · have := ((hc.blk.alloc (.map #[] 0)).set 0 (.map (some w.heap.size)))
    simpa using this
  · show Mp _ _ _ (some w.heap.size) (fH s.hs s.bl) s.hs.length
    rw [h0]
    refine Mp.congr (f := fun _ => none) ?_ (fun x => fH_not (by simp))
    exact (Mp.made Tryz.prog 3 w).keep fun m e => by cases e; exact Below.heap_setCell _ _ _ _ hne
  all_goals (simp [h0])
/-- A member is laid and entered: nobody's neighbour yet. -/
theorem Ch.enter (hc : Ch ev TC TM w s) {m h : Int} {b : Nat} {mb : Nat} {x : β} {w2 : World} (hm : s.m = some mb) (hh : h ∉ s.hs) (hpos : 0 < h) (hg : h ≤ s.g)
    (hmp : Mp Tryz.prog 3 w2 (some mb) (upd (fH s.hs s.bl) h (some b)) (s.hs.length + 1)) (hblk : KB w2 b TM #[.int .i64 0, .int .i64 0, ev x]) (hb : ¬ s.foot b) (hk : ∀ c, s.foot c → s.m ≠ some c → w2.heap[c]? = w.heap[c]?) :
    Ch ev TC TM w2 { s with hs := s.hs ++ [h], bl := upd s.bl h b, bf := upd s.bf h 0, af := upd s.af h 0, vl := upd s.vl h x } := by
  have h0 : (0 : Int) ≠ h := by omega
  have old : ∀ y ∈ s.hs, y ≠ h := fun y hy e => hh (e ▸ hy)
  have hnm : ∀ {c : Nat} {t : TypeId} {cs : Array Value}, KB w c t cs → s.m ≠ some c := fun {c t cs} hc' e => by
    have h1 := hc.mp
    rw [e] at h1
    obtain ⟨es, q, h1⟩ := h1.isMap
    unfold KB at hc'
    rw [h1] at hc'
    cases hc'
  refine ⟨?_, ?_, fun y hy => ?_, fun y hy z hz e => ?_, fun y hy => ?_, ?_, hc.g0, hc.gw⟩
  · show KB w2 s.C TC #[.map s.m, .int .i64 (upd s.bf h 0 0), .int .i64 (upd s.af h 0 0), .int .i64 s.g]
    rw [upd_other _ _ h0, upd_other _ _ h0]
    exact hc.blk.keep (hk _ (.inl rfl) (hnm hc.blk))
  · show Mp _ _ _ s.m (fH (s.hs ++ [h]) (upd s.bl h b)) (s.hs ++ [h]).length
    rw [hm, List.length_append]
    refine hmp.congr fun y => ?_
    unfold fH upd
    by_cases e : y = h
    · simp [e]
    · simp [e]
  · simp only [List.mem_append, List.mem_singleton] at hy
    show KB w2 (upd s.bl h b y) TM #[.int .i64 (upd s.bf h 0 y), .int .i64 (upd s.af h 0 y), ev (upd s.vl h x y)]
    rcases hy with hy | rfl
    · rw [upd_other _ _ (old y hy), upd_other _ _ (old y hy), upd_other _ _ (old y hy), upd_other _ _ (old y hy)]
      exact (hc.mem y hy).keep (hk _ (.inr (.inr ⟨y, hy, rfl⟩)) (hnm (hc.mem y hy)))
    · rw [upd_same, upd_same, upd_same, upd_same]; exact hblk
  · simp only [List.mem_append, List.mem_singleton] at hy hz
    change upd s.bl h b y = upd s.bl h b z at e
    rcases hy with hy | rfl <;> rcases hz with hz | rfl
    · rw [upd_other _ _ (old y hy), upd_other _ _ (old z hz)] at e
      exact hc.inj y hy z hz e
    · rw [upd_other _ _ (old y hy), upd_same] at e
      exact absurd (.inr (.inr ⟨y, hy, e⟩)) hb
    · rw [upd_other _ _ (old z hz), upd_same] at e
      exact absurd (.inr (.inr ⟨z, hz, e.symm⟩)) hb
    · rfl
  · simp only [List.mem_append, List.mem_singleton] at hy
    rcases hy with hy | rfl
    · exact hc.pos y hy
    · exact ⟨hpos, hg⟩
  · show (s.hs ++ [h]).Nodup
    rw [List.nodup_append]
    exact ⟨hc.nd, by simp, fun y hy z hz e => by simp at hz; subst hz; exact hh (e ▸ hy)⟩
/-- A member is struck out of the map. -/
theorem Ch.strike (hc : Ch ev TC TM w s) {h : Int} {mb : Nat} {w2 : World} {hs : List Int} (hm : s.m = some mb) (hp : s.hs.Perm (h :: hs))
    (hmp : Mp Tryz.prog 3 w2 (some mb) (upd (fH s.hs s.bl) h none) (s.hs.length - 1)) (hk : ∀ c, s.foot c → s.m ≠ some c → w2.heap[c]? = w.heap[c]?) :
    Ch ev TC TM w2 { s with hs := hs } := by
  have hnm : ∀ {c : Nat} {t : TypeId} {cs : Array Value}, KB w c t cs → s.m ≠ some c := fun {c t cs} hc' e => by
    have h1 := hc.mp
    rw [e] at h1
    obtain ⟨es, q, h1⟩ := h1.isMap
    unfold KB at hc'
    rw [h1] at hc'
    cases hc'
  have hin : ∀ y, y ∈ s.hs ↔ y = h ∨ y ∈ hs := fun y => by rw [hp.mem_iff]; simp
  have hnd := hp.nodup_iff.1 hc.nd
  have hnh : h ∉ hs := (List.nodup_cons.1 hnd).1
  refine ⟨hc.blk.keep (hk _ (.inl rfl) (hnm hc.blk)), ?_, fun y hy => ?_, fun y hy z hz e => hc.inj y ((hin y).2 (.inr hy)) z ((hin z).2 (.inr hz)) e, fun y hy => hc.pos y ((hin y).2 (.inr hy)), (List.nodup_cons.1 hnd).2, hc.g0, hc.gw⟩
  · show Mp _ _ _ s.m (fH hs s.bl) hs.length
    have hl : s.hs.length - 1 = hs.length := by rw [hp.length_eq]; simp
    rw [hm, ← hl]
    refine hmp.congr fun y => ?_
    by_cases e : y = h
    · subst e; rw [upd_same, fH_not hnh]
    · rw [upd_other _ _ e]
      unfold fH
      simp [hin y, e]
  · have hy' := (hin y).2 (.inr hy)
    exact (hc.mem y hy').keep (hk _ (.inr (.inr ⟨y, hy', rfl⟩)) (hnm (hc.mem y hy')))
end
end Go.Proofs.YtehekjlakegkpaaGreat
end
