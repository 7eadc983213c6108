/-
  Plain mathematics of a ring of handles: each handle has a neighbour before and one after; 0 stands for the ends. A handle taken out, and one put in ahead of another. No program is in sight here; no conditions but those that each theorem names.
-/
namespace Go.Proofs.Ytckeghmhkghelaa
set_option linter.unusedVariables false

/-- A function that is changed at one place. -/
def upd {β : Type} (f : Int → β) (h : Int) (x : β) (k : Int) : β := if k = h then x else f k
theorem upd_same {β : Type} (f : Int → β) (h : Int) (x : β) : upd f h x h = x := by simp [upd]
theorem upd_other {β : Type} (f : Int → β) {h k : Int} (x : β) (hne : k ≠ h) : upd f h x k = f k := by simp [upd, hne]

/-- From a over xs to b each one's neighbours are those beside it. -/
def Seg (af bf : Int → Int) : Int → List Int → Int → Prop
  | a, [], b => af a = b ∧ bf b = a
  | a, x :: xs, b => af a = x ∧ bf x = a ∧ Seg af bf x xs b

/-- The ring of the members xs, closed by 0. -/
def Ring (af bf : Int → Int) (xs : List Int) : Prop := Seg af bf 0 xs 0

theorem seg_congr {af bf af' bf' : Int → Int} : ∀ {xs : List Int} {a b : Int}, Seg af bf a xs b → (∀ x, x = a ∨ x ∈ xs → af' x = af x) → (∀ x, x = b ∨ x ∈ xs → bf' x = bf x) → Seg af' bf' a xs b
  | [], a, b, h, h1, h2 => ⟨(h1 a (.inl rfl)).trans h.1, (h2 b (.inl rfl)).trans h.2⟩
  | x :: xs, a, b, ⟨e1, e2, h⟩, h1, h2 =>
    ⟨(h1 a (.inl rfl)).trans e1, (h2 x (.inr (by simp))).trans e2, seg_congr h (fun y hy => h1 y (.inr (by rcases hy with rfl | hy <;> simp [*]))) (fun y hy => h2 y (by rcases hy with rfl | hy <;> simp [*]))⟩

theorem seg_append {af bf : Int → Int} : ∀ {xs : List Int} {a y b : Int} {ys : List Int}, Seg af bf a (xs ++ y :: ys) b ↔ Seg af bf a xs y ∧ Seg af bf y ys b
  | [], a, y, b, ys => by simp [Seg, and_assoc]
  | x :: xs, a, y, b, ys => by
    show (_ ∧ _ ∧ Seg af bf x (xs ++ y :: ys) b) ↔ (_ ∧ _ ∧ Seg af bf x xs y) ∧ _
    rw [seg_append]; simp [and_assoc]

/-- Whoever stands before the end is a or one of xs; and one of xs, if there are any. -/
theorem seg_before {af bf : Int → Int} : ∀ {xs : List Int} {a b : Int}, Seg af bf a xs b → (xs = [] ∧ bf b = a) ∨ bf b ∈ xs
  | [], _, _, h => .inl ⟨rfl, h.2⟩
  | x :: xs, a, b, ⟨_, _, h⟩ => .inr (by rcases seg_before h with ⟨rfl, e⟩ | e <;> simp [*])
theorem seg_after {af bf : Int → Int} : ∀ {xs : List Int} {a b : Int}, Seg af bf a xs b → af a = xs.headD b
  | [], _, _, h => h.1
  | x :: xs, a, b, ⟨e, _, h⟩ => e

/-- The end is another one. -/
theorem seg_end {af bf : Int → Int} : ∀ {xs : List Int} {a b c : Int}, Seg af bf a xs b → (a :: xs).Nodup → c ∉ xs → Seg (upd af (bf b) c) (upd bf c (bf b)) a xs c
  | [], a, b, c, h, _, _ => by
    obtain ⟨_, h2⟩ := h
    exact ⟨by rw [h2, upd_same], by rw [h2, upd_same]⟩
  | x :: xs, a, b, c, ⟨e1, e2, h⟩, hn, hc => by
    have hp : bf b ∈ x :: xs := by rcases seg_before h with ⟨rfl, e⟩ | e <;> simp [*]
    have ha : a ≠ bf b := fun e => (List.nodup_cons.1 hn).1 (e ▸ hp)
    have hx : x ≠ c := fun e => hc (by simp [e])
    exact ⟨by rw [upd_other _ _ ha]; exact e1, by rw [upd_other _ _ hx]; exact e2, seg_end h (List.nodup_cons.1 hn).2 (fun hm => hc (by simp [hm]))⟩

/-- A handle is taken out. -/
theorem ring_part {af bf : Int → Int} {xs ys : List Int} {h : Int} (hr : Ring af bf (xs ++ h :: ys)) (hn : (0 :: (xs ++ h :: ys)).Nodup) :
    Ring (upd af (bf h) (af h)) (upd bf (af h) (bf h)) (xs ++ ys) := by
  obtain ⟨h1, h2⟩ := seg_append.1 hr
  have hn1 : (0 :: xs).Nodup := (List.Sublist.cons_cons 0 (List.sublist_append_left xs (h :: ys))).nodup hn
  have hb : bf h = 0 ∨ bf h ∈ xs := by rcases seg_before h1 with ⟨_, e⟩ | e <;> simp [*]
  simp only [List.nodup_cons, List.nodup_append, List.mem_append, List.mem_cons, not_or] at hn
  obtain ⟨⟨h0x, h0h, h0y⟩, hxs, ⟨hhy, hys⟩, hd⟩ := hn
  cases ys with
  | nil =>
    obtain ⟨e1, _⟩ := h2
    rw [e1, List.append_nil]
    exact seg_end h1 hn1 h0x
  | cons y ys =>
    obtain ⟨e1, e2, h3⟩ := h2
    rw [e1]
    refine seg_append.2 ⟨seg_end h1 hn1 (fun hm => hd y hm y (by simp) rfl), seg_congr h3 (fun x hx => ?_) (fun x hx => ?_)⟩
    · refine upd_other _ _ fun e => ?_
      have hxy : x ∈ y :: ys := List.mem_cons.2 hx
      rcases hb with hb | hb
      · exact h0y (by rw [← hb, ← e]; exact hxy)
      · exact hd _ hb _ (.inr (e ▸ hxy)) rfl
    · refine upd_other _ _ fun e => ?_
      rcases hx with rfl | hx
      · exact h0y (by simp [e])
      · exact (List.nodup_cons.1 hys).1 (e ▸ hx)

/-- A handle is put in ahead of the first of ys, or ahead of the end. -/
theorem ring_join {af bf : Int → Int} {xs ys : List Int} {h : Int} (hr : Ring af bf (xs ++ ys)) (hn : (0 :: (xs ++ h :: ys)).Nodup) :
    Ring (upd (upd af h (ys.headD 0)) (bf (ys.headD 0)) h) (upd (upd bf h (bf (ys.headD 0))) (ys.headD 0) h) (xs ++ h :: ys) := by
  have hn1 : (0 :: xs).Nodup := (List.Sublist.cons_cons 0 (List.sublist_append_left xs (h :: ys))).nodup hn
  simp only [List.nodup_cons, List.nodup_append, List.mem_append, List.mem_cons, not_or] at hn
  obtain ⟨⟨h0x, h0h, h0y⟩, hxs, ⟨hhy, hys⟩, hd⟩ := hn
  have hhx : h ∉ xs := fun hm => hd h hm h (.inl rfl) rfl
  have key : ∀ {o : Int}, Seg af bf 0 xs o → o ∉ xs → o ≠ h → Seg (upd (upd af h o) (bf o) h) (upd (upd bf h (bf o)) o h) 0 xs h := fun {o} hs ho hoh => by
    refine seg_congr (seg_end hs hn1 hhx) (fun x hx => ?_) (fun x hx => ?_)
    · unfold upd
      have : x ≠ h := by rcases hx with rfl | hx; exact h0h; exact fun e => hhx (e ▸ hx)
      by_cases e : x = bf o <;> simp [e, this]
    · have : x ≠ o := by rcases hx with rfl | hx; exact fun e => hoh e.symm; exact fun e => ho (e ▸ hx)
      rw [upd_other _ _ this]
  have hpre : ∀ {o : Int}, Seg af bf 0 xs o → bf o = 0 ∨ bf o ∈ xs := fun hs => by rcases seg_before hs with ⟨_, e⟩ | e <;> simp [*]
  cases ys with
  | nil =>
    rw [List.append_nil] at hr
    have hb := hpre hr
    have hbh : h ≠ bf 0 := by rcases hb with e | e; rw [e]; exact fun e => h0h e.symm; exact fun e' => hhx (e' ▸ e)
    refine seg_append.2 ⟨key hr h0x h0h, ?_, ?_⟩
    · show upd (upd af h 0) (bf 0) h h = 0
      rw [upd_other _ _ hbh, upd_same]
    · exact upd_same _ _ _
  | cons y ys =>
    obtain ⟨h1, h2⟩ := seg_append.1 hr
    have hb := hpre h1
    have hyx : y ∉ xs := fun hm => hd y hm y (.inr (by simp)) rfl
    have hyh : y ≠ h := fun e => hhy (by simp [e])
    have hbh : h ≠ bf y := by rcases hb with e | e; rw [e]; exact fun e => h0h e.symm; exact fun e' => hhx (e' ▸ e)
    refine seg_append.2 ⟨key h1 hyx hyh, ?_, ?_, seg_congr h2 (fun x hx => ?_) (fun x hx => ?_)⟩
    · show upd (upd af h y) (bf y) h h = y
      rw [upd_other _ _ hbh, upd_same]
    · exact upd_same _ _ _
    · have hxy : x ∈ y :: ys := List.mem_cons.2 hx
      have e1 : x ≠ bf y := by
        rcases hb with e | e
        · rw [e]; exact fun e => h0y (e ▸ hxy)
        · exact fun e' => hd _ e _ (.inr (e' ▸ hxy)) rfl
      have e2 : x ≠ h := fun e => hhy (e ▸ hxy)
      show upd (upd af h y) (bf y) h x = af x
      rw [upd_other _ _ e1, upd_other _ _ e2]
    · have e1 : x ≠ y := by
        rcases hx with rfl | hx
        · exact fun e => h0y (by simp [e])
        · exact fun e => (List.nodup_cons.1 hys).1 (e ▸ hx)
      have e2 : x ≠ h := by
        rcases hx with rfl | hx
        · exact h0h
        · exact fun e => hhy (by simp [← e, hx])
      show upd (upd bf h (bf y)) y h x = bf x
      rw [upd_other _ _ e1, upd_other _ _ e2]

/-- Whoever stands beside a member, or beside the ends, is a member or the ends. -/
theorem ring_before {af bf : Int → Int} {xs : List Int} (hr : Ring af bf xs) {h : Int} (hh : h = 0 ∨ h ∈ xs) : bf h = 0 ∨ bf h ∈ xs := by
  rcases hh with rfl | hh
  · rcases seg_before hr with ⟨_, e⟩ | e <;> simp [*]
  · obtain ⟨ys, zs, rfl⟩ := List.append_of_mem hh
    rcases seg_before (seg_append.1 hr).1 with ⟨_, e⟩ | e
    · exact .inl e
    · exact .inr (by simp [e])
theorem ring_after {af bf : Int → Int} {xs : List Int} (hr : Ring af bf xs) {h : Int} (hh : h = 0 ∨ h ∈ xs) : af h = 0 ∨ af h ∈ xs := by
  have key : ∀ {ys : List Int} {a : Int}, Seg af bf a ys 0 → af a = 0 ∨ af a ∈ ys := fun {ys a} hs => by
    rw [seg_after hs]; cases ys <;> simp
  rcases hh with rfl | hh
  · exact key hr
  · obtain ⟨ys, zs, rfl⟩ := List.append_of_mem hh
    rcases key (seg_append.1 hr).2 with e | e
    · exact .inl e
    · exact .inr (by simp [e])

/-- There and back. -/
theorem seg_reverse {af bf : Int → Int} : ∀ {xs : List Int} {a b : Int}, Seg af bf a xs b → Seg bf af b xs.reverse a
  | [], _, _, h => ⟨h.2, h.1⟩
  | x :: xs, a, b, ⟨e1, e2, h⟩ => by
    rw [List.reverse_cons]
    exact seg_append.2 ⟨seg_reverse h, e2, e1⟩
theorem ring_reverse {af bf : Int → Int} {xs : List Int} (h : Ring af bf xs) : Ring bf af xs.reverse := seg_reverse h
theorem ring_nil {af bf : Int → Int} (h1 : af 0 = 0) (h2 : bf 0 = 0) : Ring af bf [] := ⟨h1, h2⟩
end Go.Proofs.Ytckeghmhkghelaa
