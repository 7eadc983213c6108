/-
  Bags of package voters: its iterator as a range function, of nil voters too; the law's own together. The conditions stand in each theorem.
-/
import Derived.Test.YtblclpagfbpamaaVfld
import Derived.Deep.LoopGhost
namespace Go.Proofs.Ytblclpagfbpamaa
open Go.RowKit Go.Shelf
set_option linter.unusedVariables false
attribute [local go_sem] Oper.semAt_some

theorem filled_any {base : Nat} {w : World} {p : Nat} {T : List Nat} {L : List Vt} {G : Nat} (h : VA base w p T L G) (hl : L.length ≤ 1000000) (hG : G < 4611686018427387904) :
    Calls Try.prog 57 #[.pointer (some ⟨p, 0, none⟩)] w fun e w' => (∃ A fs c, e = .returned (.slice A fs.length c) ∧ FilO w.heap.size L A fs c w') ∧ Below w.heap.size w w' := by
  obtain ⟨s, hd, rfl, hs⟩ := h
  have hT := hs.lay.ris.1
  refine filled_of _ w L hl (fun x hx => by have := hs.ok.bnd x hx; omega) ?_
  have b1 : Below w.heap.size w ((w.alloc (.cells #[.slice none 0 0] 107)).alloc (.cells #[.pointer (some ⟨s.p, 0, none⟩)] 25)) := ((Below.refl _ w).alloc (Nat.le_refl _) _).alloc (by simp) _
  have hs1 : Vg base ((w.alloc (.cells #[.slice none 0 0] 107)).alloc (.cells #[.pointer (some ⟨s.p, 0, none⟩)] 25)) s hd T L G := ⟨hs.lay.below b1, hs.ful, hs.ok, hs.gs⟩
  have bxI : ((w.alloc (.cells #[.slice none 0 0] 107)).alloc (.cells #[.pointer (some ⟨s.p, 0, none⟩)] 25)).cell? ⟨w.heap.size + 1, 0, none⟩ = some (.pointer (some ⟨s.p, 0, none⟩)) := by
    have := (Boxed.new (w.alloc (.cells #[.slice none 0 0] 107)) 25 (.pointer (some ⟨s.p, 0, none⟩))).cell
    rwa [World.size_alloc] at this
  exact (ino_U (w.heap.size + 1) w.heap.size (fun k => k ≠ w.heap.size ∧ k < w.heap.size + 2) hs1 (by simp) bxI (fun k hk => (hs.lay.reads_lt (.inl hk)).2) (by simp; omega) (fun k hk => ⟨by omega, by omega⟩) ⟨by omega, by omega⟩ (fun k hk => by simp; omega) hG).mono (fun _ _ _ h => h) (fun _ _ h => h) (fun _ _ => trivial)
theorem filled_nil (w : World) :
    Calls Try.prog 57 #[.pointer none] w fun e w' => (∃ A fs c, e = .returned (.slice A fs.length c) ∧ FilO w.heap.size [] A fs c w') ∧ Below w.heap.size w w' := by
  refine filled_of none w [] (by simp) (by simp) ?_
  have bxI : ((w.alloc (.cells #[.slice none 0 0] 107)).alloc (.cells #[.pointer none] 25)).cell? ⟨w.heap.size + 1, 0, none⟩ = some (.pointer none) := by
    have := (Boxed.new (w.alloc (.cells #[.slice none 0 0] 107)) 25 (.pointer none)).cell
    rwa [World.size_alloc] at this
  exact (ino_nil (w.heap.size + 1) (fun k => k ≠ w.heap.size ∧ k < w.heap.size + 2) _ (by simp) bxI).mono (fun _ _ _ h => h.elim) (fun _ _ h => h) (fun _ _ => trivial)

set_option maxHeartbeats 400000 in
theorem vbags_any (p : Option Addr) (w : World) :
    Calls Try.prog 43 #[.pointer p] w fun e w' => e = .returned (.func (.func 56) #[] #[.pointer (some ⟨w.heap.size, 0, none⟩)]) ∧ w' = w.alloc (.cells #[.pointer p] 25) := by
  go_enter Try.func43, Try.ntmps43
  go_wp2
  go_ret
  exact ⟨rfl, rfl⟩

/-- A slice that reads as bags and their voters' rows. -/
def FsAt (w : World) (A : Option Addr) (g : Nat) (fs : List Fg) : Prop := 0 < fs.length → A = some ⟨g, 0, none⟩ ∧ g < w.heap.size ∧ ∀ j f, fs[j]? = some f → w.cell? ⟨g, j * 2, none⟩ = some (.int .i64 (f.b : Nat)) ∧ w.cell? ⟨g, j * 2 + 1, none⟩ = some f.v
theorem fcs_at {L : List Fg} {j : Nat} {x : Fg} (h : L[j]? = some x) : (fcs L)[j * 2]? = some (.int .i64 (x.b : Nat)) ∧ (fcs L)[j * 2 + 1]? = some x.v := by
  induction L generalizing j with
  | nil => cases h
  | cons y ys ih =>
    have e : fcs (y :: ys) = [.int .i64 (y.b : Nat), y.v] ++ fcs ys := rfl
    cases j with
    | zero => simp at h; subst h; exact ⟨rfl, rfl⟩
    | succ j =>
      have := ih (j := j) (by simpa using h)
      rw [e, show (j + 1) * 2 = j * 2 + 2 by omega, show j * 2 + 2 + 1 = j * 2 + 1 + 2 by omega]
      exact ⟨this.1, this.2⟩
theorem fs_of_own {w : World} {base : Nat} {A : Option Addr} {c : Nat} {L : List Fg} (h : w.ownsRow base 110 2 (.slice A L.length c) L.length (fcs L)) : ∃ g, FsAt w A g L ∧ (0 < L.length → base ≤ g) ∧ L.length ≤ c ∧ c ≤ maxLen := by
  rcases own_forms h with ⟨hv, h0, _⟩ | ⟨g, cap, hv, hb, hc, hm, hg, cur, hcur, hz, hcs⟩
  · injection hv with _ _ e3
    exact ⟨0, fun h => by omega, fun h => by omega, by omega, by unfold maxLen; omega⟩
  · injection hv with e1 _ e3
    subst e1 e3
    refine ⟨g, fun _ => ⟨rfl, hg, fun j x hx => ?_⟩, fun _ => hb, hc, hm⟩
    have hj := (List.getElem?_eq_some_iff.1 hx).1
    have key : ∀ k, k < L.length * 2 → w.cell? ⟨g, k, none⟩ = (fcs L)[k]? := fun k hk => by
      rw [(show KB w g _ cur from hcur).cell k, ← hcs, List.getElem?_take_of_lt hk]
      simp
    rw [key _ (by omega), key _ (by omega)]
    exact fcs_at hx
/-- Each one's row reads as its numbers, and is among what is kept. -/
def FrAt (K : Nat → Prop) (w : World) (fs : List Fg) : Prop := ∀ f ∈ fs, w.ownsRow 0 3 1 f.v f.is.length (ics f.is) ∧ ∀ q, f.v.ownBlock = some q → K q
theorem flat_le {pre fs : List Fg} (h : pre <+: fs) : (flatF pre).length ≤ (flatF fs).length := by
  obtain ⟨t, rfl⟩ := h
  rw [flatF_append]; simp

set_option maxRecDepth 100000 in
set_option maxHeartbeats 2000000 in
/-- What Bags goes through, given what filled returns. -/
theorem bags_of (p : Option Addr) (Bv : Nat) (K0 : Nat → Prop) (w : World) (L : List Vt) (hBv : Bv < w.heap.size) (hB : w.cell? ⟨Bv, 0, none⟩ = some (.pointer p)) (hL : L.length ≤ 1000000)
    (hfil : ∀ W, Below w.heap.size w W → Calls Try.prog 57 #[.pointer p] W fun e w' => (∃ A fs c, e = .returned (.slice A fs.length c) ∧ FilO W.heap.size L A fs c w') ∧ Below W.heap.size W w') :
    SeqU 56 #[.pointer (some ⟨Bv, 0, none⟩)] (fun f : Fg => #[Value.int .i64 (f.b : Nat), .slice f.A f.is.length f.c]) K0 (fun pre f W => W.ownsRow 0 3 1 (.slice f.A f.is.length f.c) f.is.length (ics f.is) ∧ f.is ≠ [] ∧ (flatF (pre ++ [f])).length ≤ L.length) (fun fs _ => flatF fs = pairs L) (fun _ => True) w := by
  intro l J Jx W hW hJ hJx hY h0
  have hB1 : W.cell? ⟨Bv, 0, none⟩ = some (.pointer p) := (hW.cell (p := ⟨Bv, 0, none⟩) hBv).trans hB
  have hC := callsIn_wide (n := 8) |>.2 (hfil W hW)
  have hWs := hW.size
  clear hB hBv hfil
  refine callsIn_of_wp Try.func56 rfl trivial ?_ rfl
  simp only [Try.ntmps56, List.size_toArray, List.length_cons, List.length_nil, Nat.reduceAdd, Nat.reduceSub, Array.replicate_succ, Array.replicate_zero, List.push_toArray, List.append_toArray, List.nil_append, List.cons_append]
  gi_wp2_with fail
  refine ⟨trivial, ?_⟩
  refine hC.mono ?_
  rintro e W1 ⟨⟨A, fs, c, rfl, how, hrs, hflat, hne, hfl, hil⟩, hb⟩
  obtain ⟨g, hls, hbg, hc1, hc2⟩ := fs_of_own how
  have hg : W.grownBy W1 none := ⟨hb.os, hb.tape, hb.output, hb.size, fun k hk _ => hb.block k hk⟩
  have hJ0 : ∃ K, J K [] W1 ∧ (0 < fs.length → K g) ∧ FrAt K W1 fs := ⟨_, hJ.keep _ _ _ _ h0 hg, fun h => .inr ⟨hbg h, (hls h).2.1⟩, fun f hf => ⟨(hrs f hf).mono (Nat.zero_le _), fun q hq => .inr ((hrs f hf).lt q hq)⟩⟩
  have HLS := Lib.hid hls
  have HSZ := Lib.hid hb.size
  have HF := Lib.hid (And.intro hflat (And.intro hne hil))
  have hfl2 : fs.length ≤ 1000000 := by omega
  clear hW h0 hC how hb hg hls hbg hrs hflat hne hil
  gi_wp2_with fail
  gi_loopw [8] (fun iv wr => ∃ pre : List Fg, pre <+: fs ∧ iv = .int .i64 (pre.length : Nat) ∧ (∃ K, J K pre wr ∧ (0 < fs.length → K g) ∧ FrAt K wr fs) ∧ FsAt wr A g fs ∧ W.heap.size ≤ wr.heap.size) (fun iv wr => fs.length - (intOf iv).toNat)
  case atStart => exact ⟨[], List.nil_prefix, rfl, hJ0, HLS.out, HSZ.out⟩
  case round =>
    obtain ⟨pre, hpre, rfl, ⟨K, hJ1, hKg, hFr⟩, hls, hsz⟩ := hrel
    clear hJ0 HLS HSZ
    have hple := hpre.length_le
    by_cases hlt : pre.length < fs.length
    · obtain ⟨rfl, hgl, hcell⟩ := hls (by omega)
      obtain ⟨x, hx⟩ : ∃ x, fs[pre.length]? = some x := ⟨_, List.getElem?_eq_getElem hlt⟩
      have hxm : x ∈ fs := List.mem_of_getElem? hx
      obtain ⟨d0, d1'⟩ := hcell _ _ hx
      have d1 : wr.cell? ⟨g, pre.length * 2 + 1, none⟩ = some (.slice x.A x.is.length x.c) := d1'
      clear d1'
      have hpx : pre ++ [x] <+: fs := prefix_snoc hpre hx
      have hlti : (pre.length : Int) < (fs.length : Int) := by omega
      have hg2 : wr.grownBy (wr.alloc (.cells #[.int .i64 (x.b : Nat), .slice x.A x.is.length x.c] 110)) none := World.grownBy_alloc wr _ none
      have hJ2 := hJ.turn _ _ _ _ none hJ1 hg2 (fun r e => by cases e)
      have hFr2 : FrAt K (wr.alloc (.cells #[.int .i64 (x.b : Nat), .slice x.A x.is.length x.c] 110)) fs := fun f hf => ⟨(hFr f hf).1.alloc _, (hFr f hf).2⟩
      have hls2 : FsAt (wr.alloc (.cells #[.int .i64 (x.b : Nat), .slice x.A x.is.length x.c] 110)) (some ⟨g, 0, none⟩) g fs := fun _ => ⟨rfl, Nat.lt_of_lt_of_le hgl hg2.size, fun j y hy => by
        rw [World.cell?_of_block (a := ⟨g, j * 2, none⟩) (hg2.block g hgl (by simp)), World.cell?_of_block (a := ⟨g, j * 2 + 1, none⟩) (hg2.block g hgl (by simp))]
        exact hcell j y hy⟩
      have hsz2 : W.heap.size ≤ (wr.alloc (.cells #[.int .i64 (x.b : Nat), .slice x.A x.is.length x.c] 110)).heap.size := Nat.le_trans hsz hg2.size
      have hlen : (flatF (pre ++ [x])).length ≤ L.length := by
        have := flat_le hpx
        rw [HF.out.1] at this
        simpa [pairs] using this
      obtain ⟨fn, tmps, assign, body, hy, hRr⟩ := yield_depthi 8 (hY _ pre x _ ⟨(hFr2 x hxm).1, HF.out.2.1 x hxm, hlen⟩ hJ2)
      have HLS2 := Lib.hid hls2
      have HSZ2 := Lib.hid hsz2
      have HP := Lib.hid (And.intro hpre hpx)
      have HK := Lib.hid (hKg (by omega))
      have HFR := Lib.hid hFr2
      clear hcell hls hpre hpx hsz hg2 hJ1 hJ2 hls2 hsz2 hKg hx hFr hFr2 hxm hlen
      gi_wp2
      refine hRr.mono ?_
      rintro e W3 ⟨⟨rfl, hJ3, ht3⟩ | ⟨rfl, hJx3⟩, _⟩
      · have hls3 : FsAt W3 (some ⟨g, 0, none⟩) g fs := fun h => by
          obtain ⟨_, h1, h2⟩ := HLS2.out h
          refine ⟨rfl, Nat.lt_of_lt_of_le h1 ht3.size, fun j y hy => ?_⟩
          rw [World.cell?_of_block (a := ⟨g, j * 2, none⟩) (ht3.block g h1 (fun hn => hn HK.out)), World.cell?_of_block (a := ⟨g, j * 2 + 1, none⟩) (ht3.block g h1 (fun hn => hn HK.out))]
          exact h2 j y hy
        have hFr3 : FrAt K W3 fs := fun f hf => ⟨own_keep (HFR.out f hf).1 (fun q hq => ht3.block q ((HFR.out f hf).1.lt q hq).2 (fun hn => hn ((HFR.out f hf).2 q hq))), (HFR.out f hf).2⟩
        have HLS3 := Lib.hid hls3
        have HFR3 := Lib.hid hFr3
        have HSZ3 := Lib.hid (Nat.le_trans HSZ2.out ht3.size)
        clear hy hRr ht3 hls3 hFr3
        gi_wp2
        go_roundw
        case rel => exact ⟨pre ++ [x], HP.out.2, by simp, ⟨K, hJ3, fun _ => HK.out, HFR3.out⟩, HLS3.out, HSZ3.out⟩
        case measure => simp [intOf]; omega
      · clear hy hRr
        gi_wp2
        refine bodyPost_ret (results_none rfl _ _ _) rfl ?_
        exact ⟨⟨_, rfl⟩, .inr ⟨_, trivial, hJx3⟩⟩
    · have hlti : ¬ ((pre.length : Int) < (fs.length : Int)) := by omega
      have he : pre = fs := hpre.eq_of_length (by omega)
      have HE := Lib.hid he
      clear hls hpre he
      gi_wp2
      go_end0
      exact ⟨⟨_, rfl⟩, .inl ⟨K, pre, HE.out ▸ HF.out.1, hJ1⟩⟩

/-- The reference's rows of numbers and bags. -/
def pcs (L : List (Int × Nat)) : List Value := L.flatMap fun x => [.int .i64 x.1, .int .u64 0, .int .i64 (x.2 : Nat)]
theorem pcs_append (L K : List (Int × Nat)) : pcs (L ++ K) = pcs L ++ pcs K := by simp [pcs]
theorem pcs_one (L : List (Int × Nat)) : ∀ u ∈ pcs L, u.oneCell' = true := by
  intro u hu
  simp only [pcs, List.mem_flatMap] at hu
  obtain ⟨x, _, hx⟩ := hu
  simp at hx
  rcases hx with rfl | rfl | rfl <;> rfl
theorem pcs_len (L : List (Int × Nat)) : (pcs L).length = L.length * 3 := by
  induction L with
  | nil => rfl
  | cons y ys ih => rw [show pcs (y :: ys) = [.int .i64 y.1, .int .u64 0, .int .i64 (y.2 : Nat)] ++ pcs ys from rfl, List.length_append, ih]; simp; omega
end Go.Proofs.Ytblclpagfbpamaa
