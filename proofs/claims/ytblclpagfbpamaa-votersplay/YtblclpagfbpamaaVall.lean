/-
  All of package voters: its iterator as a range function, of nil voters too. The conditions stand in each theorem.
-/
import Derived.Test.YtblclpagfbpamaaVset
namespace Go.Proofs.Ytblclpagfbpamaa
open Go.RowKit Go.Shelf
set_option linter.unusedVariables false
attribute [local go_sem] Oper.semAt_some

set_option maxHeartbeats 400000 in
theorem vall_any (p : Option Addr) (w : World) :
    Calls Try.prog 42 #[.pointer p] w fun e w' => e = .returned (.func (.func 54) #[] #[.pointer (some ⟨w.heap.size, 0, none⟩)]) ∧ w' = w.alloc (.cells #[.pointer p] 25) := by
  go_enter Try.func42, Try.ntmps42
  go_wp2
  go_ret
  exact ⟨rfl, rfl⟩

theorem prefix_snoc {α : Type} {pre L : List α} {x : α} (h : pre <+: L) (hx : L[pre.length]? = some x) : pre ++ [x] <+: L := by
  obtain ⟨t, rfl⟩ := h
  rw [List.getElem?_append_right (Nat.le_refl _), Nat.sub_self] at hx
  cases t with
  | nil => simp at hx
  | cons y t => simp at hx; subst hx; exact ⟨t, by simp⟩
/-- A slice that reads as numbers and stakes. -/
def LsAt (w : World) (A : Option Addr) (g : Nat) (L : List Vt) : Prop := 0 < L.length → A = some ⟨g, 0, none⟩ ∧ g < w.heap.size ∧ ∀ j x, L[j]? = some x → w.cell? ⟨g, j * 2, none⟩ = some (.int .i64 x.id) ∧ w.cell? ⟨g, j * 2 + 1, none⟩ = some (.int .u64 (x.st : Nat))
theorem lcs_at {L : List Vt} {j : Nat} {x : Vt} (h : L[j]? = some x) : (lcs L)[j * 2]? = some (.int .i64 x.id) ∧ (lcs L)[j * 2 + 1]? = some (.int .u64 (x.st : Nat)) := by
  induction L generalizing j with
  | nil => cases h
  | cons y ys ih =>
    have e : lcs (y :: ys) = [.int .i64 y.id, .int .u64 (y.st : Nat)] ++ lcs ys := rfl
    cases j with
    | zero => simp at h; subst h; exact ⟨rfl, rfl⟩
    | succ j =>
      have := ih (j := j) (by simpa using h)
      rw [e, show (j + 1) * 2 = j * 2 + 2 by omega, show j * 2 + 2 + 1 = j * 2 + 1 + 2 by omega]
      exact ⟨this.1, this.2⟩
theorem lcs_len (L : List Vt) : (lcs L).length = L.length * 2 := by
  induction L with
  | nil => rfl
  | cons y ys ih => rw [show lcs (y :: ys) = [.int .i64 y.id, .int .u64 (y.st : Nat)] ++ lcs ys from rfl, List.length_append, ih]; simp; omega
theorem ls_of_own {w : World} {base : Nat} {A : Option Addr} {c : Nat} {L : List Vt} (h : w.ownsRow base 105 2 (.slice A L.length c) L.length (lcs L)) : ∃ g, LsAt w A g L ∧ (0 < L.length → base ≤ g) ∧ L.length ≤ c ∧ c ≤ maxLen := by
  rcases own_forms h with ⟨hv, h0, _⟩ | ⟨g, cap, hv, hb, hc, hm, hg, cur, hcur, hz, hcs⟩
  · injection hv with _ _ e3
    exact ⟨0, fun h => by omega, fun h => by omega, by omega, by unfold maxLen; omega⟩
  · injection hv with e1 _ e3
    subst e1 e3
    refine ⟨g, fun _ => ⟨rfl, hg, fun j x hx => ?_⟩, fun _ => hb, hc, hm⟩
    have hj := (List.getElem?_eq_some_iff.1 hx).1
    have key : ∀ k, k < L.length * 2 → w.cell? ⟨g, k, none⟩ = (lcs L)[k]? := fun k hk => by
      rw [(show KB w g _ cur from hcur).cell k, ← hcs, List.getElem?_take_of_lt hk]
      simp
    rw [key _ (by omega), key _ (by omega)]
    exact lcs_at hx

set_option maxRecDepth 100000 in
set_option maxHeartbeats 1000000 in
theorem listed_nil (w : World) :
    Calls Try.prog 55 #[.pointer none] w fun e w' => e = .returned (.slice none 0 0) ∧ Below w.heap.size w w' := by
  obtain ⟨W0, hW0⟩ : ∃ W0, W0 = (w.alloc (.cells #[.pointer none] 25)).alloc (.cells #[.slice none 0 0] 102) := ⟨_, rfl⟩
  obtain ⟨W1, hW1⟩ : ∃ W1, W1 = W0.alloc (.cells #[.pointer none] 25) := ⟨_, rfl⟩
  have b0 : Below w.heap.size w W0 := by rw [hW0]; exact ((Below.refl _ w).alloc (Nat.le_refl _) _).alloc (by simp) _
  have z0 : W0.heap.size = w.heap.size + 2 := by rw [hW0]; simp
  have b1 : Below w.heap.size w W1 := by rw [hW1]; exact b0.alloc b0.size _
  have z1 : W1.heap.size = w.heap.size + 3 := by rw [hW1, World.size_alloc, z0]
  have bxL : Boxed W1 (w.heap.size + 1) 102 (.slice none 0 0) := by
    rw [hW1, hW0]
    have := Boxed.new (w.alloc (.cells #[.pointer none] 25)) 102 (.slice none 0 0)
    rw [World.size_alloc] at this
    exact this.alloc _
  have bxI : W1.cell? ⟨w.heap.size + 2, 0, none⟩ = some (.pointer none) := by
    rw [hW1, ← z0]; exact (Boxed.new W0 25 _).cell
  have hseq := ino_nil (w.heap.size + 2) (fun _ => False) W1 (by omega) bxI
  have hIn := callsIn_wide (n := 8) |>.2 (inO_any none W0)
  rw [← hW1] at hIn
  rw [hW0] at hIn
  have h0 : (fun (K : Nat → Prop) (pre : List Vt) (W : World) => (∀ k, ¬ K k ∨ k < W.heap.size) ∧ Boxed W (w.heap.size + 1) 102 (.slice none 0 0) ∧ Below w.heap.size w W) (fun _ => False) [] W1 := ⟨fun k => .inl (fun h => h), bxL, b1⟩
  have HZ := Lib.hid (And.intro z0 z1)
  clear hW0 hW1 z0 z1 b0 bxL bxI b1
  refine (callsIn_wide (n := 9)).1 ?_
  refine callsIn_of_wp_marks Try.func55 rfl trivial ?_ rfl
  simp only [Try.ntmps55, List.size_toArray, List.length_cons, List.length_nil, Nat.reduceAdd, Nat.reduceSub, Array.replicate_succ, Array.replicate_zero, List.push_toArray, List.append_toArray, List.nil_append, List.cons_append]
  gi_wp2_with fail
  refine ⟨trivial, ?_⟩
  refine hIn.mono ?_
  rintro e w3 ⟨rfl, hw3⟩
  rw [hw3]
  clear hIn hw3
  gi_wp2_with fail
  refine range_U (α := Vt) (gf := 51) (lb := #[.pointer (some ⟨w.heap.size + 2, 0, none⟩)]) rfl (enters_of Try.func51 (by kernel_rfl) rfl) hseq (fun k hk => hk.elim) (fun _ => rfl)
    (fun (K : Nat → Prop) (pre : List Vt) (W : World) => (∀ k, ¬ K k ∨ k < W.heap.size) ∧ Boxed W (w.heap.size + 1) 102 (.slice none 0 0) ∧ Below w.heap.size w W) (fun _ _ _ => False) ?abi (fun _ _ _ _ _ hh _ _ => hh) h0
    (fun x => { tmps := #[.pointer none, .pointer (some ⟨w.heap.size, 0, none⟩), .slice none 0 0, .pointer (some ⟨w.heap.size + 1, 0, none⟩), undef, .int .i64 x.id, .pointer none, .func (.func 51) #[] #[.pointer (some ⟨w.heap.size + 2, 0, none⟩)], .int .i64 (x.bag : Nat), .int .i64 x.id, undef, undef, undef, undef, undef, undef, undef, undef, undef, undef, undef, undef, undef], defers := [] }) ?assign (fun pre x W l o o' h _ _ => h) (fun _ _ _ _ _ hf _ => hf.elim) ?done (fun xs W l o h => .inl h) (fun D c pre W _ _ h _ => h.elim)
  case abi =>
    refine ⟨fun K pre W W' row ⟨h1, h2, h3⟩ hg hr => ⟨fun k => (h1 k).imp id (fun h => Nat.lt_of_lt_of_le h hg.size), h2.kept hg (fun e' => ?_), h3.grown hg h3.size (fun k e => by have := (hr k e).1; have := HZ.out.2; omega)⟩, fun K pre W W' ⟨h1, h2, h3⟩ hg => ⟨fun k => ?_, h2.kept hg (by simp), h3.grown hg h3.size (fun k e => by cases e)⟩⟩
    · obtain ⟨o, ho, hc⟩ := (hr _ e'.symm).2
      rw [show W.heap[w.heap.size + 1]? = _ from h2] at ho; cases ho; cases hc
    · by_cases hk : K k
      · rcases h1 k with h | h
        · exact absurd hk h
        · exact .inr (Nat.lt_of_lt_of_le h hg.size)
      · by_cases hk2 : W.heap.size ≤ k ∧ k < W'.heap.size
        · exact .inr hk2.2
        · exact .inl (fun h => h.elim hk hk2)
  case assign =>
    intro l x W C hC
    gi_wp2
    exact hC
  case done =>
    rintro D K xs W hD rfl ⟨_, q1, h3⟩ hK
    have cL := q1.cell
    have hzz := HZ.out.2
    have hfin : Below w.heap.size w (W.putObj D (.deferred none)) := h3.trans (belowK_b (w := w) (Nat.le_refl _) W D _ _ (by omega) hK rfl rfl)
    have HFIN := Lib.hid hfin
    clear q1 h3 hfin hzz
    gi_wp2
    exact ⟨by simp, .inl ⟨_, _, rfl, run_takeDeferred hK, _, results_tmp rfl _ _ _, rfl, HFIN.out⟩⟩

set_option maxRecDepth 100000 in
set_option maxHeartbeats 2000000 in
/-- What All goes through, given what listed returns. -/
theorem all_of (p : Option Addr) (Bv : Nat) (K0 : Nat → Prop) (w : World) (L : List Vt) (hBv : Bv < w.heap.size) (hB : w.cell? ⟨Bv, 0, none⟩ = some (.pointer p)) (hL : L.length ≤ 1000000)
    (hlis : ∀ W, Below w.heap.size w W → Calls Try.prog 55 #[.pointer p] W fun e w' => (∃ A c, e = .returned (.slice A L.length c) ∧ w'.ownsRow W.heap.size 105 2 (.slice A L.length c) L.length (lcs L)) ∧ Below W.heap.size W w') :
    SeqU 54 #[.pointer (some ⟨Bv, 0, none⟩)] (fun x : Vt => #[Value.int .i64 x.id, .int .u64 (x.st : Nat)]) K0 (fun pre x _ => pre ++ [x] <+: L) (fun ys _ => ys = L) (fun pre => pre <+: L) w := by
  intro l J Jx W hW hJ hJx hY h0
  have hB1 : W.cell? ⟨Bv, 0, none⟩ = some (.pointer p) := (hW.cell (p := ⟨Bv, 0, none⟩) hBv).trans hB
  have hC := callsIn_wide (n := 8) |>.2 (hlis W hW)
  have hWs := hW.size
  clear hB hBv hlis
  refine callsIn_of_wp Try.func54 rfl trivial ?_ rfl
  simp only [Try.ntmps54, List.size_toArray, List.length_cons, List.length_nil, Nat.reduceAdd, Nat.reduceSub, Array.replicate_succ, Array.replicate_zero, List.push_toArray, List.append_toArray, List.nil_append, List.cons_append]
  gi_wp2_with fail
  refine ⟨trivial, ?_⟩
  refine hC.mono ?_
  rintro e W1 ⟨⟨A, c, rfl, how⟩, hb⟩
  obtain ⟨g, hls, hbg, hc1, hc2⟩ := ls_of_own how
  have hg : W.grownBy W1 none := ⟨hb.os, hb.tape, hb.output, hb.size, fun k hk _ => hb.block k hk⟩
  have hJ0 : ∃ K, J K [] W1 ∧ (0 < L.length → K g) := ⟨_, hJ.keep _ _ _ _ h0 hg, fun h => .inr ⟨hbg h, (hls h).2.1⟩⟩
  have HLS := Lib.hid hls
  have HSZ := Lib.hid hb.size
  clear hW h0 hC how hb hg hls hbg
  gi_wp2_with fail
  gi_loopw [8] (fun iv wr => ∃ pre : List Vt, pre <+: L ∧ iv = .int .i64 (pre.length : Nat) ∧ (∃ K, J K pre wr ∧ (0 < L.length → K g)) ∧ LsAt wr A g L ∧ W.heap.size ≤ wr.heap.size) (fun iv wr => L.length - (intOf iv).toNat)
  case atStart => exact ⟨[], List.nil_prefix, rfl, hJ0, HLS.out, HSZ.out⟩
  case round =>
    obtain ⟨pre, hpre, rfl, ⟨K, hJ1, hKg⟩, hls, hsz⟩ := hrel
    clear hJ0 HLS HSZ
    have hple := hpre.length_le
    by_cases hlt : pre.length < L.length
    · obtain ⟨rfl, hgl, hcell⟩ := hls (by omega)
      obtain ⟨x, hx⟩ : ∃ x, L[pre.length]? = some x := ⟨_, List.getElem?_eq_getElem hlt⟩
      obtain ⟨d0, d1⟩ := hcell _ _ hx
      have hpx : pre ++ [x] <+: L := prefix_snoc hpre hx
      have hlti : (pre.length : Int) < (L.length : Int) := by omega
      have hg2 : wr.grownBy (wr.alloc (.cells #[.int .i64 x.id, .int .u64 (x.st : Nat)] 105)) none := World.grownBy_alloc wr _ none
      have hJ2 := hJ.turn _ _ _ _ none hJ1 hg2 (fun r e => by cases e)
      have hls2 : LsAt (wr.alloc (.cells #[.int .i64 x.id, .int .u64 (x.st : Nat)] 105)) (some ⟨g, 0, none⟩) g L := fun _ => ⟨rfl, Nat.lt_of_lt_of_le hgl hg2.size, fun j y hy => by
        rw [World.cell?_of_block (a := ⟨g, j * 2, none⟩) (hg2.block g hgl (by simp)), World.cell?_of_block (a := ⟨g, j * 2 + 1, none⟩) (hg2.block g hgl (by simp))]
        exact hcell j y hy⟩
      have hsz2 : W.heap.size ≤ (wr.alloc (.cells #[.int .i64 x.id, .int .u64 (x.st : Nat)] 105)).heap.size := Nat.le_trans hsz hg2.size
      obtain ⟨fn, tmps, assign, body, hy, hRr⟩ := yield_depthi 8 (hY _ pre x _ hpx hJ2)
      have HLS2 := Lib.hid hls2
      have HSZ2 := Lib.hid hsz2
      have HP := Lib.hid (And.intro hpre hpx)
      have HK := Lib.hid (hKg (by omega))
      clear hcell hls hpre hpx hsz hg2 hJ1 hJ2 hls2 hsz2 hKg hx
      gi_wp2
      refine hRr.mono ?_
      rintro e W3 ⟨⟨rfl, hJ3, ht3⟩ | ⟨rfl, hJx3⟩, _⟩
      · have hls3 : LsAt W3 (some ⟨g, 0, none⟩) g L := fun h => by
          obtain ⟨_, h1, h2⟩ := HLS2.out h
          refine ⟨rfl, Nat.lt_of_lt_of_le h1 ht3.size, fun j y hy => ?_⟩
          rw [World.cell?_of_block (a := ⟨g, j * 2, none⟩) (ht3.block g h1 (fun hn => hn HK.out)), World.cell?_of_block (a := ⟨g, j * 2 + 1, none⟩) (ht3.block g h1 (fun hn => hn HK.out))]
          exact h2 j y hy
        have HLS3 := Lib.hid hls3
        have HSZ3 := Lib.hid (Nat.le_trans HSZ2.out ht3.size)
        clear hy hRr ht3 hls3
        gi_wp2
        go_roundw
        case rel => exact ⟨pre ++ [x], HP.out.2, by simp, ⟨K, hJ3, fun _ => HK.out⟩, HLS3.out, HSZ3.out⟩
        case measure => simp [intOf]; omega
      · clear hy hRr
        gi_wp2
        refine bodyPost_ret (results_none rfl _ _ _) rfl ?_
        exact ⟨⟨_, rfl⟩, .inr ⟨_, HP.out.2, hJx3⟩⟩
    · have hlti : ¬ ((pre.length : Int) < (L.length : Int)) := by omega
      have he : pre = L := hpre.eq_of_length (by omega)
      have HE := Lib.hid he
      clear hls hpre he
      gi_wp2
      go_end0
      exact ⟨⟨_, rfl⟩, .inl ⟨K, HE.out ▸ hJ1⟩⟩
theorem all_U {base : Nat} {w : World} {p : Nat} {T : List Nat} {L : List Vt} {G : Nat} (Bv : Nat) (K0 : Nat → Prop) (h : VA base w p T L G) (hBv : Bv < w.heap.size) (hB : w.cell? ⟨Bv, 0, none⟩ = some (.pointer (some ⟨p, 0, none⟩))) (hl : L.length ≤ 1000000) (hG : G < 4611686018427387904) :
    SeqU 54 #[.pointer (some ⟨Bv, 0, none⟩)] (fun x : Vt => #[Value.int .i64 x.id, .int .u64 (x.st : Nat)]) K0 (fun pre x _ => pre ++ [x] <+: L) (fun ys _ => ys = L) (fun pre => pre <+: L) w :=
  all_of (some ⟨p, 0, none⟩) Bv K0 w L hBv hB hl (fun W hW => listed_any (h.below hW) hl hG)
theorem all_nil_U (Bv : Nat) (K0 : Nat → Prop) (w : World) (hBv : Bv < w.heap.size) (hB : w.cell? ⟨Bv, 0, none⟩ = some (.pointer none)) :
    SeqU 54 #[.pointer (some ⟨Bv, 0, none⟩)] (fun x : Vt => #[Value.int .i64 x.id, .int .u64 (x.st : Nat)]) K0 (fun pre x _ => pre ++ [x] <+: []) (fun ys _ => ys = []) (fun pre => pre <+: []) w :=
  all_of none Bv K0 w [] hBv hB (by simp) (fun W hW => (listed_nil W).mono fun e w' h => ⟨⟨none, 0, h.1, World.ownsRow_nil _ _ _ _⟩, h.2⟩)
end Go.Proofs.Ytblclpagfbpamaa
