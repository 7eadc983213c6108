/-
  append behind a row of bytes that was made out of a string, whatever its source: what it reads as then. For at most 2^47 bytes together.
-/
import Derived.Test.YtdhgdphjamcfcaaBmem
import Derived.Laws.IdiomCopy
namespace Go.Proofs.Ytdhgdphjamcfcaa
open Go.RowKit

theorem below_setCells {L g : Nat} {a : World} (hLg : L ≤ g) : ∀ (vs : List Value) (o : Nat) (w : World), Below L a w → Below L a (w.setCells g o vs)
  | [], _, _, h => h
  | _ :: vs, o, _, h => below_setCells hLg vs (o + 1) _ (h.setCell hLg _)
theorem size_setCells {g : Nat} : ∀ (vs : List Value) (o : Nat) (w : World), (w.setCells g o vs).heap.size = w.heap.size
  | [], _, _ => rfl
  | _ :: vs, o, _ => (size_setCells vs (o + 1) _).trans (by simp [World.setCell])
section
variable {P : Program} (w : World)
/-- append of a slice behind cells that are there. -/
theorem run_appc (k : IntKind) (T : TypeId) (by_ : Nat) (t ty : TypeId) (ht : P.underlying t = some (.slice T)) (hinfo : (P.info? T).map (fun i => (i.zero, i.size, i.bytes)) = some (some (.int k 0), 1, by_))
    (B : Option Addr) (g n c m d : Nat) (xs ys : List Nat) (hx : Rk k w (some ⟨g, 0, none⟩) n c xs) (hg : g < w.heap.size) (hsp : ∀ j, n ≤ j → j < c → (w.cell? ⟨g, j, none⟩).isSome = true ∧ w.frozen? ⟨g, j, none⟩ = false)
    (hy : Rk k w B m d ys) (h63 : n + m ≤ maxLen) (hs : (n + m) * by_ ≤ 140737488355328) (L : Nat) (w0 : World) (hb : Below L w0 w) (hLg : L ≤ g) :
    ∃ A' c' w', (Builtin.append_ #[t, t] ty #[.slice (some ⟨g, 0, none⟩) n c, .slice B m d]).run P w = .ok (.slice A' (n + m) c') w' ∧ Rk k w' A' (n + m) c' (xs ++ ys) ∧ Below L w0 w' := by
  obtain ⟨i0, hi, hz0, hz1, hz2⟩ := info_parts hinfo
  have hnc := hx.cap
  have hmx := hx.max
  have hlx := hx.len
  have hly := hy.len
  rcases B with _ | ad
  · have hm := hy.none_len
    subst hm
    obtain rfl := List.eq_nil_of_length_eq_zero hly
    refine ⟨_, c, w, ?_, by simpa using hx, hb⟩
    simp [Builtin.append_, run_underlying ht, sizeOf, typeInfo, hi, Builtin.lenOf, Builtin.firstCells, hnc, storeCells]
  · by_cases hr : n + m ≤ c
    · have hrun := run_append_room_cells (P := P) w t ty T i0 ht hi g 0 n c ad m d (litsK k ys) (by rw [litsK_len, hly, hz1]; omega) hy.cells (litsK_one k ys) hr
        (fun j hj => by rw [litsK_len, hly] at hj; rw [hz1]; have := (hsp (n + j) (by omega) (by omega)).1; simpa using this)
        (fun j hj => by rw [litsK_len, hly] at hj; rw [hz1]; have := (hsp (n + j) (by omega) (by omega)).2; simpa using this)
      rw [hz1, Nat.mul_one, Nat.zero_add] at hrun
      refine ⟨_, _, _, hrun, ⟨by rw [List.length_append, hlx, hly], hr, hmx, fun _ => ⟨g, 0, rfl, by rw [size_setCells]; exact hg, fun j hj => ?_⟩⟩, below_setCells hLg _ _ _ hb⟩
      rw [Nat.zero_add]
      rcases Nat.lt_or_ge j n with hjn | hjn
      · rw [World.cell?_setCells_out g _ _ _ _ (fun _ _ => Or.inl hjn), el_append_left _ _ _ (by omega)]
        obtain ⟨b, o, e, _, hc⟩ := hx.at_ (by omega)
        injection e with e
        injection e with e1 e2 _
        subst e1 e2
        have := hc j hjn
        rwa [Nat.zero_add] at this
      · have h1 := World.cell?_setCells_in g (litsK k ys) n w (fun j hj => by rw [litsK_len, hly] at hj; exact (hsp (n + j) (by omega) (by omega)).1) (j - n) (by rw [litsK_len, hly]; omega)
        rw [show n + (j - n) = j by omega] at h1
        have h2 := litsK_get k ys (j - n) (by omega)
        rw [List.getElem?_eq_getElem (by rw [litsK_len, hly]; omega)] at h2
        rw [h1, h2, el_append_right _ _ _ (by omega), hlx]
    · obtain ⟨v', w', hrun, h2, h3⟩ := run_append_arg_grows (P := P) w t ty T i0 (.int k 0) 1 by_ ht hi hz0 hz1 hz2 rfl (by decide) ⟨g, 0, none⟩ n c (litsK k xs) (by rw [litsK_len, hlx]; omega) hx.cells
        ad m d (litsK k ys) (by rw [litsK_len, hly]; omega) hy.cells (by omega) h63 hs
      rw [litsK_append] at h2
      have hbel : Below L w0 w' := hb.grown h3 (by omega) fun g hg => by cases hg
      rcases h2.2 with ⟨rfl, hn⟩ | ⟨g, cap, cur, rfl, _⟩
      · exact absurd hn (by omega)
      · exact ⟨_, _, w', hrun, Owk.rk (T := T) h2, hbel⟩
theorem wpList_appc (k : IntKind) (T : TypeId) (by_ : Nat) {ops : Array Oper} {rest : List Oper} {o : Oper} {a : Act} {Q : Exit → Act → World → Prop} (hgd : o.guard = none) (s x : Operand) (t : TypeId)
    (ho : o.op = .call { callee := .builtin .append, args := #[s, x], argTypes := #[t, t] })
    (ht : P.underlying t = some (.slice T)) (hinfo : (P.info? T).map (fun i => (i.zero, i.size, i.bytes)) = some (some (.int k 0), 1, by_))
    (B : Option Addr) (g n c m d : Nat) (xs ys : List Nat) (hes : a.eval s = .slice (some ⟨g, 0, none⟩) n c) (hex : a.eval x = .slice B m d)
    (hx : Rk k w (some ⟨g, 0, none⟩) n c xs) (hg : g < w.heap.size) (hsp : ∀ j, n ≤ j → j < c → (w.cell? ⟨g, j, none⟩).isSome = true ∧ w.frozen? ⟨g, j, none⟩ = false)
    (hy : Rk k w B m d ys) (h63 : n + m ≤ maxLen) (hs : (n + m) * by_ ≤ 140737488355328) (L : Nat) (w0 : World) (hb : Below L w0 w) (hLg : L ≤ g)
    (h : ∀ A' c' w', Rk k w' A' (n + m) c' (xs ++ ys) → Below L w0 w' → wpList P ops Q rest (a.put o.dst (.slice A' (n + m) c')) w') : wpList P ops Q (o :: rest) a w := by
  refine wpList_plain hgd fun K hK => ?_
  obtain ⟨A', c', w', hrun, h2, h3⟩ := run_appc (P := P) w k T by_ t o.type ht hinfo B g n c m d xs ys hx hg hsp hy h63 hs L w0 hb hLg
  unfold Oper.wp execOp
  simp only [ho, resolve, invoke, builtin, Sem.run_bind, Sem.run_pure, Result.andThen_ok, List.map_toArray, List.map_cons, List.map_nil, hes, hex, hrun]
  exact hK _ _ (h A' c' w' h2 h3)
end
/-- The cells behind the bytes that came out of a string. -/
theorem conv_spare (w : World) (e : TypeId) (s : ByteArray) (j : Nat) (h0 : s.size ≤ j) (h1 : j < grownCap w s.size 0 e) :
    ((Lib.bytesWorld w e s).cell? ⟨w.heap.size, j, none⟩).isSome = true ∧ (Lib.bytesWorld w e s).frozen? ⟨w.heap.size, j, none⟩ = false := by
  have hs : (Lib.bytesCells w e s).size = grownCap w s.size 0 e := by
    have hd : s.data.size = s.size := rfl
    simp only [Lib.bytesCells, Array.size_append, Array.size_map, Array.size_replicate, hd]
    omega
  have hn := Lib.bytesWorld_at_new w e s
  constructor
  · simp [World.cell?, hn, hs, h1]
  · simp [World.frozen?, hn, hs]
    omega
end Go.Proofs.Ytdhgdphjamcfcaa
