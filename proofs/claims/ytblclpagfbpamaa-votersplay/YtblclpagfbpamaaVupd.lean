/-
  Update of package voters. The conditions stand in each theorem.
-/
import Derived.Test.YtblclpagfbpamaaVask
import Derived.Test.YtblclpagfbpamaaVrow
import Derived.RegionTactic
import Derived.BigRegion
namespace Go.Proofs.Ytblclpagfbpamaa
open Go.RowKit
set_option linter.unusedVariables false

/-- A store into the map of voters: three numbers at a key. -/
theorem Vl.store {base : Nat} {w : World} {s : VS} {T : List Nat} {R : Nat → List (Int × Int)} {f : Int → Option V3} {n : Nat} (h : Vl base w s T R f n) {m : Nat} (hm : s.m = some m) {i : Int} (hi : (Lit.int .i64 i).wf = true) (hn : n < maxLen) (a b : Nat) (c : Int) :
    ∃ w', (Instr.mapUpdate 61 (.map (some m)) (.int .i64 i) (.agg #[.int .u64 (a : Nat), .int .i64 (b : Nat), .int .i64 c])).run Try.prog w = .ok () w' ∧
      Vl base w' s T R (upd f i (some (a, b, c))) (if (f i).isSome then n else n + 1) ∧ Tw isV w w' ∧ Below base w w' ∧ w.grownBy w' (some m) := by
  have hmp := h.mp
  rw [hm] at hmp
  obtain ⟨w', hr, h1, h2⟩ := hmp.store (t := 61) Try.underlying3 Try.underlying61 hn hi (a, b, c)
  obtain ⟨h3, h4, h5⟩ := h.mapped hm h1 h2
  exact ⟨w', hr, h3, h4, h5, h2⟩
theorem Tw.from {Φ : Option Obj → Prop} {w w1 w2 : World} (hb : Below w.heap.size w w1) (h : Tw Φ w1 w2) : Tw Φ w w2 := (Tw.of_below hb).trans h

theorem below_undrew {B : Nat} {w w' : World} (h : Below B w.drew w') : Below B w w' := ⟨h.os, h.tape, h.output, h.size, h.block⟩
theorem tw_undrew {Φ : Option Obj → Prop} {w w' : World} (h : Tw Φ w.drew w') : Tw Φ w w' := ⟨h.os, h.tape, h.output, h.size, h.block⟩
section
variable {base : Nat} {w : World} {p : Nat} {T : List Nat} {L : List Vt} {G : Nat}
theorem VA.short (h : VA base w p T L G) (hl : L.length < maxLen) : L.length < maxLen := hl
set_option maxHeartbeats 1600000 in
theorem vupd_any (h : VA base w p T L G) (hl : L.length < maxLen) (i : Int) (hi : (Lit.int .i64 i).wf = true) (x : Nat) (hx : x < 18446744073709551616) :
    Calls Try.prog 14 #[.pointer (some ⟨p, 0, none⟩), .int .i64 i, .int .u64 x] w fun e w' => e = .returned (.int .i64 (updM L i x).2) ∧ VTo base w w' p T (updM L i x).1 G := by
  obtain ⟨s, hd, rfl, hs⟩ := h
  unfold updM
  cases hf : fnd L i with
  | none =>
    have hF := vfind_no hs.lay i hi (f3_none hf)
    have H := Lib.hid (show VA base w s.p T L G from ⟨s, hd, rfl, hs⟩)
    clear hs hf
    dsimp only
    go_enter Try.func14, Try.ntmps14
    go_wp2_with fail
    refine hF.mono ?_
    rintro e w1 ⟨rfl, hb⟩
    clear hF
    have hb2 : Below w.heap.size w (w1.alloc (.cells #[.int .u64 0, .int .i64 0, .int .i64 0] 65)) := hb.alloc hb.size _
    go_wp2
    go_ret
    exact ⟨rfl, VTo.of_below H.out hb2⟩
  | some y =>
    have hF := vfind_yes hs.lay i hi (f3_some (hd := hd) hf)
    obtain ⟨hb1, hb2, hb3, m, hm⟩ := hs.bag hf
    have HS := Lib.hid hs
    have HF := Lib.hid hf
    have HM := Lib.hid hm
    obtain ⟨hy, hyh⟩ : ∃ g, g = hd i := ⟨_, rfl⟩
    rw [← hyh] at hF
    have HH := Lib.hid hyh
    clear hs hf hm hyh hb1 hb2 hb3
    dsimp only
    go_enter Try.func14, Try.ntmps14
    go_wp2_with fail
    refine hF.mono ?_
    rintro e w1 ⟨rfl, hb⟩
    clear hF
    obtain ⟨W, hW, hbW, hK⟩ := box3 hb y.st y.bag hy
    go_upto_region 2 with (fail)
    rw [← hW]
    have k := hK.cell 0
    have fr := hK.frozen 0
    simp at k
    have hsz := hbW.size
    have hbs : w.heap.size ≤ w1.heap.size := hb.size
    generalize w1.heap.size = B at hK k fr hbs ⊢
    clear hW hb
    have hK5 := hK.set 0 (.int .u64 (x : Nat))
    have hb5 : Below w.heap.size w (W.setCell ⟨B, 0, none⟩ (.int .u64 (x : Nat))) := hbW.setCell (p := ⟨B, 0, none⟩) hbs _
    simp at hK5
    go_upto_region 5 with (fail)
    generalize (W.setCell ⟨B, 0, none⟩ (.int .u64 (x : Nat))) = W5 at hK5 hb5 ⊢
    have hv5 := HS.out.lay.below hb5
    obtain ⟨w6, hrun, v6, t6, b6, g6⟩ := (show Vl base W5.drew s T (rowsOf hd L) (f3 hd L) L.length from hv5.keep (fun _ _ => rfl)).store HM.out hi (by omega) x y.bag hy
    have c2 := hv5.blk.cell 2
    rw [HM.out] at c2
    have k0 := hK5.cell 0
    have k1 := hK5.cell 1
    have k2 := hK5.cell 2
    simp at c2 k0 k1 k2
    have H6 := Lib.hid (show VTo base w w6 s.p T (updV i x L) G from ⟨⟨s, hd, rfl, v6.eq (fun b => by rw [rowsOf_upd]) (fun j => by rw [f3_upd HF.out, HH.out]) (by rw [updV_len, f3_some HF.out]; rfl), (HS.out.ful.imp (fun ⟨q1, q2, q3⟩ => ⟨q1, q2, by rw [q3]; rfl⟩) id), HS.out.ok.upd i hx, HS.out.gs⟩, (hb5.mono HS.out.lay.base_le).trans (below_undrew b6), Tw.from hb5 (tw_undrew t6)⟩)
    clear k fr hsz hbs hK hbW hK5 hv5 v6 t6 b6 g6
    go_region
    go_wp2
    go_ret
    exact ⟨rfl, H6.out⟩
end
end Go.Proofs.Ytblclpagfbpamaa
