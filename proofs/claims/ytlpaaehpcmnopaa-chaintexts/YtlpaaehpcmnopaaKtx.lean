/-
  A chain of texts beside the reference's chain of numbers: each text is the letter of its number. Rows, and what the calls make of them. The conditions stand in each theorem.
-/
import Derived.Test.YtlpaaehpcmnopaaKboth
import Derived.Test.YtlpaaehpcmnopaaKcalls2s
import Derived.Laws.Cover4
namespace Go.Proofs.Ytlpaaehpcmnopaa
open Go.RowKit
set_option linter.unusedVariables false

/-- The letter of a number. -/
def ch (v : Int) : ByteArray := Utf8.encode (97 + v)
/-- The row of letters. -/
def tx (R : List (Int × Int)) : List (Int × ByteArray) := R.map fun x => (x.1, ch x.2)
/-- All letters, one behind the other. -/
def cat1 (a : ByteArray) (R : List (Int × ByteArray)) : ByteArray := R.foldl (fun a x => a ++ x.2) a
theorem cat1_snoc (a : ByteArray) (R : List (Int × ByteArray)) (x : Int × ByteArray) : cat1 a (R ++ [x]) = cat1 a R ++ x.2 := by simp [cat1]
/-- Each number is a letter's. -/
def Sm (R : List (Int × Int)) : Prop := ∀ x ∈ R, 0 ≤ x.2 ∧ x.2 < 26
theorem ch_size (v : Int) : (ch v).size ≤ 4 := encode_size_le _
theorem cat1_size (R : List (Int × Int)) : (cat1 { data := #[] } (tx R)).size ≤ 4 * R.length := by
  have key : ∀ (R : List (Int × Int)) (a : ByteArray), (cat1 a (tx R)).size ≤ a.size + 4 * R.length := by
    intro R
    induction R with
    | nil => intro a; simp [cat1, tx]
    | cons x xs ih =>
      intro a
      have h1 := ih (a ++ ch x.2)
      have h2 := ch_size x.2
      simp only [cat1, tx, List.map_cons, List.foldl_cons, List.length_cons] at h1 ⊢
      rw [ByteArray.size_append] at h1
      omega
  have := key R { data := #[] }
  have h0 : ({ data := #[] } : ByteArray).size = 0 := rfl
  omega

abbrev Bts (base K : Nat) (w : World) (s : ChS ByteArray) (R : List (Int × Int)) : Prop := Bt evs 66 74 base K w s R
theorem me1 : (29 : TypeId) ≠ 66 := by decide
theorem me2 : (29 : TypeId) ≠ 74 := by decide
theorem me3 : (54 : TypeId) ≠ 66 := by decide
theorem me4 : (54 : TypeId) ≠ 74 := by decide
theorem me5 : (37 : TypeId) ≠ 66 := by decide
theorem me6 : (37 : TypeId) ≠ 74 := by decide

/-- What a call leaves: both are alike. -/
def TxTo (base K : Nat) (w w' : World) (s : ChS ByteArray) : Prop := ∃ (s' : ChS ByteArray) (R' : List (Int × Int)), s'.C = s.C ∧ s.g ≤ s'.g ∧ s'.g ≤ s.g + 1 ∧ Bts base K w' s' R' ∧ s'.row = tx R' ∧ Sm R' ∧ Below base w w'
theorem Bts.step {base K : Nat} {w w1 w2 : World} {s : ChS ByteArray} {R R' : List (Int × Int)} (h : Bts base K w s R) {g : Int} (hg : s.g ≤ g) (hg1 : g ≤ s.g + 1) (hs : Sm R') (hc : ChTos w w1 s g (tx R')) (hr2 : RcTo base K w1 w2 R' g) : TxTo base K w w2 s := by
  have hr := h.rc.side h.gd me1 me2 me3 me4 (by obtain ⟨_, _, _, _, _, ht, _⟩ := hc; exact ht)
  obtain ⟨s', e1, e2, e3, hb, hB⟩ := Bt.step h me1 me2 hc hr hr2
  exact ⟨s', R', e1, by omega, by omega, hb, e3, hs, hB⟩
theorem Bts.box {base K : Nat} {w : World} {s : ChS ByteArray} {R : List (Int × Int)} (h : Bts base K w s R) (o : Obj) : Bts base K (w.alloc o) s R :=
  ⟨⟨h.gd.ch.alloc o, h.gd.ring⟩, h.rc.alloc o, h.ft, h.kb⟩
theorem Bts.drew {base K : Nat} {w : World} {s : ChS ByteArray} {R : List (Int × Int)} (h : Bts base K w s R) : Bts base K w.drew s R :=
  ⟨⟨h.gd.ch.drew, h.gd.ring⟩, by obtain ⟨v, hk, hr⟩ := h.rc; exact ⟨v, hk, hr⟩, h.ft, h.kb⟩
theorem TxTo.from {base K : Nat} {w w1 w2 : World} {s : ChS ByteArray} (h : TxTo base K w1 w2 s) (hb : Below base w w1) : TxTo base K w w2 s := by
  obtain ⟨s', R', e1, e2, e3, h1, h2, h3, h4⟩ := h
  exact ⟨s', R', e1, e2, e3, h1, h2, h3, hb.trans h4⟩
theorem ChTos.drew {w w' : World} {s : ChS ByteArray} {g : Int} {R : List (Int × ByteArray)} (h : ChTos w.drew w' s g R) : ChTos w w' s g R := by
  obtain ⟨s', h1, h2, h3, h4, h5, h6⟩ := h
  exact ⟨s', h1, h2, h3, h4, ⟨h5.os, h5.tape, h5.output, h5.size, h5.block⟩, h6⟩

theorem tx_hs {s : ChS ByteArray} {R : List (Int × Int)} (h : s.row = tx R) : s.hs = R.map (·.1) := by
  have h1 : s.row.map (·.1) = s.hs := by unfold ChS.row; rw [List.map_map]; simp [Function.comp_def]
  rw [← h1, h]; unfold tx; rw [List.map_map]; rfl
theorem tx_len {s : ChS ByteArray} {R : List (Int × Int)} (h : s.row = tx R) : R.length = s.hs.length := by rw [tx_hs h]; simp
theorem tx_no {s : ChS ByteArray} {R : List (Int × Int)} (h : s.row = tx R) {a : Int} (ha : a ∉ s.hs) : noH a R := fun x hx e => ha (by rw [tx_hs h]; exact List.mem_map.2 ⟨x, hx, e⟩)
theorem tx_ne {a : Int} {xs : List (Int × Int)} (h : noH a xs) : ∀ x ∈ tx xs, x.1 ≠ a := by
  intro x hx
  obtain ⟨y, hy, rfl⟩ := List.mem_map.1 hx
  exact h y hy
theorem tx_append (xs ys : List (Int × Int)) : tx (xs ++ ys) = tx xs ++ tx ys := by simp [tx]
theorem tx_cons (y : Int × Int) (ys : List (Int × Int)) : tx (y :: ys) = (y.1, ch y.2) :: tx ys := rfl
theorem nd_split {R : List (Int × Int)} (hn : (R.map (·.1)).Nodup) {a : Int} (ha : a ∈ R.map (·.1)) : ∃ xs y ys, R = xs ++ y :: ys ∧ noH a xs ∧ y.1 = a ∧ noH a ys := by
  obtain ⟨y, hy, rfl⟩ := List.mem_map.1 ha
  obtain ⟨xs, ys, rfl⟩ := List.append_of_mem hy
  rw [List.map_append, List.map_cons, List.nodup_append, List.nodup_cons] at hn
  refine ⟨xs, y, ys, rfl, fun x hx e => hn.2.2 x.1 (List.mem_map.2 ⟨x, hx, rfl⟩) y.1 (by simp) e, rfl, fun x hx e => hn.2.1.1 (List.mem_map.2 ⟨x, hx, e⟩)⟩
/-- The row is parted at a member. -/
theorem tx_split {s : ChS ByteArray} {R : List (Int × Int)} (h : s.row = tx R) (hn : s.hs.Nodup) {a : Int} (ha : a ∈ s.hs) : ∃ xs y ys, R = xs ++ y :: ys ∧ noH a xs ∧ y.1 = a ∧ noH a ys ∧ s.vl a = ch y.2 := by
  rw [tx_hs h] at hn ha
  obtain ⟨xs, y, ys, rfl, h1, h2, h3⟩ := nd_split hn ha
  refine ⟨xs, y, ys, rfl, h1, h2, h3, ?_⟩
  have hy : (a, ch y.2) ∈ s.row := by rw [h, tx_append, tx_cons, h2]; simp
  obtain ⟨b, hb, e⟩ := List.mem_map.1 hy
  injection e with e1 e2
  rw [← e1, e2]
end Go.Proofs.Ytlpaaehpcmnopaa
