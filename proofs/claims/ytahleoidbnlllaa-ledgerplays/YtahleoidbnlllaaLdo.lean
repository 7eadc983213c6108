/-
  The law's 'do': a call on both ledgers: they answer alike, and say the same again. The conditions stand in each theorem.
-/
import Derived.Test.YtahleoidbnlllaaLrla
import Derived.Deep.RegionHeld3
namespace Go.Proofs.Ytahleoidbnlllaa
open Go.RowKit
set_option linter.unusedVariables false

/-- Both ledgers say A. -/
structure Bo (base : Nat) (w : World) (P R : Nat) (A : Ab) : Prop where
  p : LA TP base w P A
  r : LA TR base w R A
  ok : A.ok
theorem Bo.below {base : Nat} {w w' : World} {P R : Nat} {A : Ab} (h : Bo base w P R A) (hb : Below w.heap.size w w') : Bo base w' P R A := ⟨h.p.below hb, h.r.below hb, h.ok⟩
theorem Bo.base_le {base : Nat} {w : World} {P R : Nat} {A : Ab} (h : Bo base w P R A) : base ≤ w.heap.size := h.p.base_le
/-- The program's call, then the reference's. -/
theorem Bo.of {base : Nat} {w w1 w2 : World} {P R : Nat} {A' : Ab} (h : LTo TP base w w1 P A') (k : LTo TR base w1 w2 R A') (hok : A'.ok) : Bo base w2 P R A' := ⟨h.la.side k.side tr_tp, k.la, hok⟩
def DoTo (base : Nat) (w : World) (P R : Nat) (e : Ending) (w' : World) : Prop := e = .returned (.bool true) ∧ (∃ A', Bo base w' P R A') ∧ Below base w w'
theorem op_cells {w : World} {G : Nat} {k a b v : Int} (h : KB w G 35 #[.int .i64 k, .int .i64 a, .int .i64 b, .int .u64 v]) :
    w.cell? ⟨G, 0, none⟩ = some (.int .i64 k) ∧ w.cell? ⟨G, 1, none⟩ = some (.int .i64 a) ∧ w.cell? ⟨G, 2, none⟩ = some (.int .i64 b) ∧ w.cell? ⟨G, 3, none⟩ = some (.int .u64 v) := by
  have h0 := h.cell 0
  have h1 := h.cell 1
  have h2 := h.cell 2
  have h3 := h.cell 3
  simp at h0 h1 h2 h3
  exact ⟨h0, h1, h2, h3⟩
variable {base : Nat} {w : World} {P R : Nat} {A : Ab}
set_option maxRecDepth 100000 in
set_option maxHeartbeats 3200000 in
theorem do_tr (h : Bo base w P R A) (aa bb : Int) (nn : Nat) (hn : nn < 18446744073709551616) (hwb : (Lit.int .i64 bb).wf = true) :
    Calls Try.prog 11 #[.pointer (some ⟨P, 0, none⟩), .pointer (some ⟨R, 0, none⟩), .agg #[.int .i64 1, .int .i64 aa, .int .i64 bb, .int .u64 (nn : Int)]] w (DoTo base w P R) := by
  have b0 : Below w.heap.size w (w.alloc (.cells #[.int .i64 1, .int .i64 aa, .int .i64 bb, .int .u64 (nn : Int)] 35)) := (Below.refl _ _).alloc (Nat.le_refl _) _
  have k0 := KB.new w 35 #[.int .i64 1, .int .i64 aa, .int .i64 bb, .int .u64 (nn : Int)]
  have h1 := h.below b0
  have hG := (tr_good h.ok aa bb nn).1
  have H1 := Lib.hid h1
  have HB0 := Lib.hid (b0.mono h.base_le)
  have HK0 := Lib.hid k0
  have OK := Lib.hid h.ok
  have HG := Lib.hid hG
  clear b0 k0 h1 h hG
  go_enter Try.func11, Try.ntmps11
  go_wp2_with fail
  generalize (w.alloc (.cells #[.int .i64 1, .int .i64 aa, .int .i64 bb, .int .u64 (nn : Int)] 35)) = W0 at H1 HB0 HK0 ⊢
  generalize w.heap.size = G at HK0 ⊢
  have hc := trL H1.out.p.drew OK.out aa bb nn hn
  have HC := Lib.hid hc
  clear hc
  have K0 : W0.cell? ⟨G, 1, none⟩ = some (.int .i64 aa) ∧ W0.cell? ⟨G, 2, none⟩ = some (.int .i64 bb) ∧ W0.cell? ⟨G, 3, none⟩ = some (.int .u64 (nn : Int)) := ⟨(op_cells HK0.out).2.1, (op_cells HK0.out).2.2.1, (op_cells HK0.out).2.2.2⟩
  go_region_held3 (fun W => W.cell? ⟨G, 1, none⟩ = some (.int .i64 aa) ∧ W.cell? ⟨G, 2, none⟩ = some (.int .i64 bb) ∧ W.cell? ⟨G, 3, none⟩ = some (.int .u64 (nn : Int)))
    (first | exact K0 | exact K1 | exact K2)
    (first
      | (go_at_call 18; refine HC.out.mono ?_; rintro e w1 ⟨rfl, t1⟩; have kk1 := t1.side _ _ _ HK0.out (by decide) (by decide) (by decide); have K1 : w1.cell? ⟨G, 1, none⟩ = some (.int .i64 aa) ∧ w1.cell? ⟨G, 2, none⟩ = some (.int .i64 bb) ∧ w1.cell? ⟨G, 3, none⟩ = some (.int .u64 (nn : Int)) := ⟨(op_cells kk1).2.1, (op_cells kk1).2.2.1, (op_cells kk1).2.2.2⟩; have hc2 := rtrL ((H1.out.r.drew).side t1.side tp_tr) OK.out aa bb nn hn; have HC2 := Lib.hid hc2; have T1 := Lib.hid t1; have KK1 := Lib.hid kk1; clear kk1 hc2 t1)
      | (go_at_call 32; refine HC2.out.mono ?_; rintro e w2 ⟨rfl, t2⟩; have kk2 := t2.side _ _ _ KK1.out (by decide) (by decide) (by decide); have K2 : w2.cell? ⟨G, 1, none⟩ = some (.int .i64 aa) ∧ w2.cell? ⟨G, 2, none⟩ = some (.int .i64 bb) ∧ w2.cell? ⟨G, 3, none⟩ = some (.int .u64 (nn : Int)) := ⟨(op_cells kk2).2.1, (op_cells kk2).2.2.1, (op_cells kk2).2.2.2⟩; have T2 := Lib.hid t2; clear kk2 t2))
  all_goals
    go_wp2
    go_ret
    exact ⟨by simp, ⟨_, Bo.of T1.out.undrew T2.out HG.out⟩, HB0.out.trans (T1.out.undrew.bel.trans T2.out.bel)⟩
set_option maxRecDepth 100000 in
set_option maxHeartbeats 3200000 in
theorem do_bond (h : Bo base w P R A) (aa bb : Int) (nn : Nat) (hn : nn < 18446744073709551616) (hwb : (Lit.int .i64 bb).wf = true) :
    Calls Try.prog 11 #[.pointer (some ⟨P, 0, none⟩), .pointer (some ⟨R, 0, none⟩), .agg #[.int .i64 2, .int .i64 aa, .int .i64 bb, .int .u64 (nn : Int)]] w (DoTo base w P R) := by
  have b0 : Below w.heap.size w (w.alloc (.cells #[.int .i64 2, .int .i64 aa, .int .i64 bb, .int .u64 (nn : Int)] 35)) := (Below.refl _ _).alloc (Nat.le_refl _) _
  have k0 := KB.new w 35 #[.int .i64 2, .int .i64 aa, .int .i64 bb, .int .u64 (nn : Int)]
  have h1 := h.below b0
  have hG := (bond_good h.ok aa nn).1
  have H1 := Lib.hid h1
  have HB0 := Lib.hid (b0.mono h.base_le)
  have HK0 := Lib.hid k0
  have OK := Lib.hid h.ok
  have HG := Lib.hid hG
  clear b0 k0 h1 h hG
  go_enter Try.func11, Try.ntmps11
  go_wp2_with fail
  generalize (w.alloc (.cells #[.int .i64 2, .int .i64 aa, .int .i64 bb, .int .u64 (nn : Int)] 35)) = W0 at H1 HB0 HK0 ⊢
  generalize w.heap.size = G at HK0 ⊢
  have hc := bondL H1.out.p.drew OK.out aa nn hn
  have HC := Lib.hid hc
  clear hc
  have K0 : W0.cell? ⟨G, 1, none⟩ = some (.int .i64 aa) ∧ W0.cell? ⟨G, 3, none⟩ = some (.int .u64 (nn : Int)) := ⟨(op_cells HK0.out).2.1, (op_cells HK0.out).2.2.2⟩
  go_region_held3 (fun W => W.cell? ⟨G, 1, none⟩ = some (.int .i64 aa) ∧ W.cell? ⟨G, 3, none⟩ = some (.int .u64 (nn : Int)))
    (first | exact K0 | exact K1 | exact K2)
    (first
      | (go_at_call 19; refine HC.out.mono ?_; rintro e w1 ⟨rfl, t1⟩; have kk1 := t1.side _ _ _ HK0.out (by decide) (by decide) (by decide); have K1 : w1.cell? ⟨G, 1, none⟩ = some (.int .i64 aa) ∧ w1.cell? ⟨G, 3, none⟩ = some (.int .u64 (nn : Int)) := ⟨(op_cells kk1).2.1, (op_cells kk1).2.2.2⟩; have hc2 := rbondL ((H1.out.r.drew).side t1.side tp_tr) OK.out aa nn hn; have HC2 := Lib.hid hc2; have T1 := Lib.hid t1; have KK1 := Lib.hid kk1; clear kk1 hc2 t1)
      | (go_at_call 33; refine HC2.out.mono ?_; rintro e w2 ⟨rfl, t2⟩; have kk2 := t2.side _ _ _ KK1.out (by decide) (by decide) (by decide); have K2 : w2.cell? ⟨G, 1, none⟩ = some (.int .i64 aa) ∧ w2.cell? ⟨G, 3, none⟩ = some (.int .u64 (nn : Int)) := ⟨(op_cells kk2).2.1, (op_cells kk2).2.2.2⟩; have T2 := Lib.hid t2; clear kk2 t2))
  all_goals
    go_wp2
    go_ret
    exact ⟨by simp, ⟨_, Bo.of T1.out.undrew T2.out HG.out⟩, HB0.out.trans (T1.out.undrew.bel.trans T2.out.bel)⟩
set_option maxRecDepth 100000 in
set_option maxHeartbeats 3200000 in
theorem do_unb (h : Bo base w P R A) (aa bb : Int) (nn : Nat) (hn : nn < 18446744073709551616) (hwb : (Lit.int .i64 bb).wf = true) :
    Calls Try.prog 11 #[.pointer (some ⟨P, 0, none⟩), .pointer (some ⟨R, 0, none⟩), .agg #[.int .i64 3, .int .i64 aa, .int .i64 bb, .int .u64 (nn : Int)]] w (DoTo base w P R) := by
  have b0 : Below w.heap.size w (w.alloc (.cells #[.int .i64 3, .int .i64 aa, .int .i64 bb, .int .u64 (nn : Int)] 35)) := (Below.refl _ _).alloc (Nat.le_refl _) _
  have k0 := KB.new w 35 #[.int .i64 3, .int .i64 aa, .int .i64 bb, .int .u64 (nn : Int)]
  have h1 := h.below b0
  have hG := (unb_good h.ok aa nn bb hwb).1
  have H1 := Lib.hid h1
  have HB0 := Lib.hid (b0.mono h.base_le)
  have HK0 := Lib.hid k0
  have OK := Lib.hid h.ok
  have HG := Lib.hid hG
  clear b0 k0 h1 h hG
  go_enter Try.func11, Try.ntmps11
  go_wp2_with fail
  generalize (w.alloc (.cells #[.int .i64 3, .int .i64 aa, .int .i64 bb, .int .u64 (nn : Int)] 35)) = W0 at H1 HB0 HK0 ⊢
  generalize w.heap.size = G at HK0 ⊢
  have hc := unbL H1.out.p.drew OK.out aa nn hn bb
  have HC := Lib.hid hc
  clear hc
  have K0 : W0.cell? ⟨G, 1, none⟩ = some (.int .i64 aa) ∧ W0.cell? ⟨G, 2, none⟩ = some (.int .i64 bb) ∧ W0.cell? ⟨G, 3, none⟩ = some (.int .u64 (nn : Int)) := ⟨(op_cells HK0.out).2.1, (op_cells HK0.out).2.2.1, (op_cells HK0.out).2.2.2⟩
  go_region_held3 (fun W => W.cell? ⟨G, 1, none⟩ = some (.int .i64 aa) ∧ W.cell? ⟨G, 2, none⟩ = some (.int .i64 bb) ∧ W.cell? ⟨G, 3, none⟩ = some (.int .u64 (nn : Int)))
    (first | exact K0 | exact K1 | exact K2)
    (first
      | (go_at_call 14; refine HC.out.mono ?_; rintro e w1 ⟨rfl, t1⟩; have kk1 := t1.side _ _ _ HK0.out (by decide) (by decide) (by decide); have K1 : w1.cell? ⟨G, 1, none⟩ = some (.int .i64 aa) ∧ w1.cell? ⟨G, 2, none⟩ = some (.int .i64 bb) ∧ w1.cell? ⟨G, 3, none⟩ = some (.int .u64 (nn : Int)) := ⟨(op_cells kk1).2.1, (op_cells kk1).2.2.1, (op_cells kk1).2.2.2⟩; have hc2 := runbL ((H1.out.r.drew).side t1.side tp_tr) OK.out aa nn hn bb; have HC2 := Lib.hid hc2; have T1 := Lib.hid t1; have KK1 := Lib.hid kk1; clear kk1 hc2 t1)
      | (go_at_call 34; refine HC2.out.mono ?_; rintro e w2 ⟨rfl, t2⟩; have kk2 := t2.side _ _ _ KK1.out (by decide) (by decide) (by decide); have K2 : w2.cell? ⟨G, 1, none⟩ = some (.int .i64 aa) ∧ w2.cell? ⟨G, 2, none⟩ = some (.int .i64 bb) ∧ w2.cell? ⟨G, 3, none⟩ = some (.int .u64 (nn : Int)) := ⟨(op_cells kk2).2.1, (op_cells kk2).2.2.1, (op_cells kk2).2.2.2⟩; have T2 := Lib.hid t2; clear kk2 t2))
  all_goals
    go_wp2
    go_ret
    exact ⟨by simp, ⟨_, Bo.of T1.out.undrew T2.out HG.out⟩, HB0.out.trans (T1.out.undrew.bel.trans T2.out.bel)⟩
set_option maxRecDepth 100000 in
set_option maxHeartbeats 3200000 in
theorem do_dep (h : Bo base w P R A) (aa bb : Int) (nn : Nat) (hn : nn < 18446744073709551616) (hwb : (Lit.int .i64 bb).wf = true) :
    Calls Try.prog 11 #[.pointer (some ⟨P, 0, none⟩), .pointer (some ⟨R, 0, none⟩), .agg #[.int .i64 5, .int .i64 aa, .int .i64 bb, .int .u64 (nn : Int)]] w (DoTo base w P R) := by
  have b0 : Below w.heap.size w (w.alloc (.cells #[.int .i64 5, .int .i64 aa, .int .i64 bb, .int .u64 (nn : Int)] 35)) := (Below.refl _ _).alloc (Nat.le_refl _) _
  have k0 := KB.new w 35 #[.int .i64 5, .int .i64 aa, .int .i64 bb, .int .u64 (nn : Int)]
  have h1 := h.below b0
  have hG := (dep_good h.ok aa nn).1
  have H1 := Lib.hid h1
  have HB0 := Lib.hid (b0.mono h.base_le)
  have HK0 := Lib.hid k0
  have OK := Lib.hid h.ok
  have HG := Lib.hid hG
  clear b0 k0 h1 h hG
  go_enter Try.func11, Try.ntmps11
  go_wp2_with fail
  generalize (w.alloc (.cells #[.int .i64 5, .int .i64 aa, .int .i64 bb, .int .u64 (nn : Int)] 35)) = W0 at H1 HB0 HK0 ⊢
  generalize w.heap.size = G at HK0 ⊢
  have hc := depL H1.out.p.drew OK.out aa nn hn
  have HC := Lib.hid hc
  clear hc
  have K0 : W0.cell? ⟨G, 1, none⟩ = some (.int .i64 aa) ∧ W0.cell? ⟨G, 3, none⟩ = some (.int .u64 (nn : Int)) := ⟨(op_cells HK0.out).2.1, (op_cells HK0.out).2.2.2⟩
  go_region_held3 (fun W => W.cell? ⟨G, 1, none⟩ = some (.int .i64 aa) ∧ W.cell? ⟨G, 3, none⟩ = some (.int .u64 (nn : Int)))
    (first | exact K0 | exact K1 | exact K2)
    (first
      | (go_at_call 20; refine HC.out.mono ?_; rintro e w1 ⟨rfl, t1⟩; have kk1 := t1.side _ _ _ HK0.out (by decide) (by decide) (by decide); have K1 : w1.cell? ⟨G, 1, none⟩ = some (.int .i64 aa) ∧ w1.cell? ⟨G, 3, none⟩ = some (.int .u64 (nn : Int)) := ⟨(op_cells kk1).2.1, (op_cells kk1).2.2.2⟩; have hc2 := rdepL ((H1.out.r.drew).side t1.side tp_tr) OK.out aa nn hn; have HC2 := Lib.hid hc2; have T1 := Lib.hid t1; have KK1 := Lib.hid kk1; clear kk1 hc2 t1)
      | (go_at_call 36; refine HC2.out.mono ?_; rintro e w2 ⟨rfl, t2⟩; have kk2 := t2.side _ _ _ KK1.out (by decide) (by decide) (by decide); have K2 : w2.cell? ⟨G, 1, none⟩ = some (.int .i64 aa) ∧ w2.cell? ⟨G, 3, none⟩ = some (.int .u64 (nn : Int)) := ⟨(op_cells kk2).2.1, (op_cells kk2).2.2.2⟩; have T2 := Lib.hid t2; clear kk2 t2))
  all_goals
    go_wp2
    go_ret
    exact ⟨by simp, ⟨_, Bo.of T1.out.undrew T2.out HG.out⟩, HB0.out.trans (T1.out.undrew.bel.trans T2.out.bel)⟩
set_option maxRecDepth 100000 in
set_option maxHeartbeats 3200000 in
theorem do_rel (h : Bo base w P R A) (aa bb : Int) (nn : Nat) (hn : nn < 18446744073709551616) (hwb : (Lit.int .i64 bb).wf = true) :
    Calls Try.prog 11 #[.pointer (some ⟨P, 0, none⟩), .pointer (some ⟨R, 0, none⟩), .agg #[.int .i64 6, .int .i64 aa, .int .i64 bb, .int .u64 (nn : Int)]] w (DoTo base w P R) := by
  have b0 : Below w.heap.size w (w.alloc (.cells #[.int .i64 6, .int .i64 aa, .int .i64 bb, .int .u64 (nn : Int)] 35)) := (Below.refl _ _).alloc (Nat.le_refl _) _
  have k0 := KB.new w 35 #[.int .i64 6, .int .i64 aa, .int .i64 bb, .int .u64 (nn : Int)]
  have h1 := h.below b0
  have hG := (rel_good h.ok aa nn).1
  have H1 := Lib.hid h1
  have HB0 := Lib.hid (b0.mono h.base_le)
  have HK0 := Lib.hid k0
  have OK := Lib.hid h.ok
  have HG := Lib.hid hG
  clear b0 k0 h1 h hG
  go_enter Try.func11, Try.ntmps11
  go_wp2_with fail
  generalize (w.alloc (.cells #[.int .i64 6, .int .i64 aa, .int .i64 bb, .int .u64 (nn : Int)] 35)) = W0 at H1 HB0 HK0 ⊢
  generalize w.heap.size = G at HK0 ⊢
  have hc := relL H1.out.p.drew OK.out aa nn hn
  have HC := Lib.hid hc
  clear hc
  have K0 : W0.cell? ⟨G, 1, none⟩ = some (.int .i64 aa) ∧ W0.cell? ⟨G, 3, none⟩ = some (.int .u64 (nn : Int)) := ⟨(op_cells HK0.out).2.1, (op_cells HK0.out).2.2.2⟩
  go_region_held3 (fun W => W.cell? ⟨G, 1, none⟩ = some (.int .i64 aa) ∧ W.cell? ⟨G, 3, none⟩ = some (.int .u64 (nn : Int)))
    (first | exact K0 | exact K1 | exact K2)
    (first
      | (go_at_call 21; refine HC.out.mono ?_; rintro e w1 ⟨rfl, t1⟩; have kk1 := t1.side _ _ _ HK0.out (by decide) (by decide) (by decide); have K1 : w1.cell? ⟨G, 1, none⟩ = some (.int .i64 aa) ∧ w1.cell? ⟨G, 3, none⟩ = some (.int .u64 (nn : Int)) := ⟨(op_cells kk1).2.1, (op_cells kk1).2.2.2⟩; have hc2 := rrelL ((H1.out.r.drew).side t1.side tp_tr) OK.out aa nn hn; have HC2 := Lib.hid hc2; have T1 := Lib.hid t1; have KK1 := Lib.hid kk1; clear kk1 hc2 t1)
      | (go_at_call 37; refine HC2.out.mono ?_; rintro e w2 ⟨rfl, t2⟩; have kk2 := t2.side _ _ _ KK1.out (by decide) (by decide) (by decide); have K2 : w2.cell? ⟨G, 1, none⟩ = some (.int .i64 aa) ∧ w2.cell? ⟨G, 3, none⟩ = some (.int .u64 (nn : Int)) := ⟨(op_cells kk2).2.1, (op_cells kk2).2.2.2⟩; have T2 := Lib.hid t2; clear kk2 t2))
  all_goals
    go_wp2
    go_ret
    exact ⟨by simp, ⟨_, Bo.of T1.out.undrew T2.out HG.out⟩, HB0.out.trans (T1.out.undrew.bel.trans T2.out.bel)⟩
set_option maxRecDepth 100000 in
set_option maxHeartbeats 3200000 in
theorem do_for (h : Bo base w P R A) (aa bb : Int) (nn : Nat) (hn : nn < 18446744073709551616) (hwb : (Lit.int .i64 bb).wf = true) :
    Calls Try.prog 11 #[.pointer (some ⟨P, 0, none⟩), .pointer (some ⟨R, 0, none⟩), .agg #[.int .i64 7, .int .i64 aa, .int .i64 bb, .int .u64 (nn : Int)]] w (DoTo base w P R) := by
  have b0 : Below w.heap.size w (w.alloc (.cells #[.int .i64 7, .int .i64 aa, .int .i64 bb, .int .u64 (nn : Int)] 35)) := (Below.refl _ _).alloc (Nat.le_refl _) _
  have k0 := KB.new w 35 #[.int .i64 7, .int .i64 aa, .int .i64 bb, .int .u64 (nn : Int)]
  have h1 := h.below b0
  have hG := (for_good h.ok aa nn).1
  have H1 := Lib.hid h1
  have HB0 := Lib.hid (b0.mono h.base_le)
  have HK0 := Lib.hid k0
  have OK := Lib.hid h.ok
  have HG := Lib.hid hG
  clear b0 k0 h1 h hG
  go_enter Try.func11, Try.ntmps11
  go_wp2_with fail
  generalize (w.alloc (.cells #[.int .i64 7, .int .i64 aa, .int .i64 bb, .int .u64 (nn : Int)] 35)) = W0 at H1 HB0 HK0 ⊢
  generalize w.heap.size = G at HK0 ⊢
  have hc := forL H1.out.p.drew OK.out aa nn hn
  have HC := Lib.hid hc
  clear hc
  have K0 : W0.cell? ⟨G, 1, none⟩ = some (.int .i64 aa) ∧ W0.cell? ⟨G, 3, none⟩ = some (.int .u64 (nn : Int)) := ⟨(op_cells HK0.out).2.1, (op_cells HK0.out).2.2.2⟩
  go_region_held3 (fun W => W.cell? ⟨G, 1, none⟩ = some (.int .i64 aa) ∧ W.cell? ⟨G, 3, none⟩ = some (.int .u64 (nn : Int)))
    (first | exact K0 | exact K1 | exact K2)
    (first
      | (go_at_call 22; refine HC.out.mono ?_; rintro e w1 ⟨rfl, t1⟩; have kk1 := t1.side _ _ _ HK0.out (by decide) (by decide) (by decide); have K1 : w1.cell? ⟨G, 1, none⟩ = some (.int .i64 aa) ∧ w1.cell? ⟨G, 3, none⟩ = some (.int .u64 (nn : Int)) := ⟨(op_cells kk1).2.1, (op_cells kk1).2.2.2⟩; have hc2 := rforL ((H1.out.r.drew).side t1.side tp_tr) OK.out aa nn hn; have HC2 := Lib.hid hc2; have T1 := Lib.hid t1; have KK1 := Lib.hid kk1; clear kk1 hc2 t1)
      | (go_at_call 38; refine HC2.out.mono ?_; rintro e w2 ⟨rfl, t2⟩; have kk2 := t2.side _ _ _ KK1.out (by decide) (by decide) (by decide); have K2 : w2.cell? ⟨G, 1, none⟩ = some (.int .i64 aa) ∧ w2.cell? ⟨G, 3, none⟩ = some (.int .u64 (nn : Int)) := ⟨(op_cells kk2).2.1, (op_cells kk2).2.2.2⟩; have T2 := Lib.hid t2; clear kk2 t2))
  all_goals
    go_wp2
    go_ret
    exact ⟨by simp, ⟨_, Bo.of T1.out.undrew T2.out HG.out⟩, HB0.out.trans (T1.out.undrew.bel.trans T2.out.bel)⟩
set_option maxRecDepth 100000 in
set_option maxHeartbeats 3200000 in
theorem do_mint (h : Bo base w P R A) (aa bb : Int) (nn : Nat) (hn : nn < 18446744073709551616) (hwb : (Lit.int .i64 bb).wf = true) :
    Calls Try.prog 11 #[.pointer (some ⟨P, 0, none⟩), .pointer (some ⟨R, 0, none⟩), .agg #[.int .i64 8, .int .i64 aa, .int .i64 bb, .int .u64 (nn : Int)]] w (DoTo base w P R) := by
  have b0 : Below w.heap.size w (w.alloc (.cells #[.int .i64 8, .int .i64 aa, .int .i64 bb, .int .u64 (nn : Int)] 35)) := (Below.refl _ _).alloc (Nat.le_refl _) _
  have k0 := KB.new w 35 #[.int .i64 8, .int .i64 aa, .int .i64 bb, .int .u64 (nn : Int)]
  have h1 := h.below b0
  have hG := (mint_good h.ok nn).1
  have H1 := Lib.hid h1
  have HB0 := Lib.hid (b0.mono h.base_le)
  have HK0 := Lib.hid k0
  have OK := Lib.hid h.ok
  have HG := Lib.hid hG
  clear b0 k0 h1 h hG
  go_enter Try.func11, Try.ntmps11
  go_wp2_with fail
  generalize (w.alloc (.cells #[.int .i64 8, .int .i64 aa, .int .i64 bb, .int .u64 (nn : Int)] 35)) = W0 at H1 HB0 HK0 ⊢
  generalize w.heap.size = G at HK0 ⊢
  have hc := mintL H1.out.p.drew OK.out nn hn
  have HC := Lib.hid hc
  clear hc
  have K0 : W0.cell? ⟨G, 3, none⟩ = some (.int .u64 (nn : Int)) := (op_cells HK0.out).2.2.2
  go_region_held3 (fun W => W.cell? ⟨G, 3, none⟩ = some (.int .u64 (nn : Int)))
    (first | exact K0 | exact K1 | exact K2)
    (first
      | (go_at_call 16; refine HC.out.mono ?_; rintro e w1 ⟨rfl, t1⟩; have kk1 := t1.side _ _ _ HK0.out (by decide) (by decide) (by decide); have K1 : w1.cell? ⟨G, 3, none⟩ = some (.int .u64 (nn : Int)) := (op_cells kk1).2.2.2; have hc2 := rmintL ((H1.out.r.drew).side t1.side tp_tr) OK.out nn hn; have HC2 := Lib.hid hc2; have T1 := Lib.hid t1; have KK1 := Lib.hid kk1; clear kk1 hc2 t1)
      | (go_at_call 39; refine HC2.out.mono ?_; rintro e w2 ⟨rfl, t2⟩; have kk2 := t2.side _ _ _ KK1.out (by decide) (by decide) (by decide); have K2 : w2.cell? ⟨G, 3, none⟩ = some (.int .u64 (nn : Int)) := (op_cells kk2).2.2.2; have T2 := Lib.hid t2; clear kk2 t2))
  all_goals
    go_wp2
    go_ret
    exact ⟨by simp, ⟨_, Bo.of T1.out.undrew T2.out HG.out⟩, HB0.out.trans (T1.out.undrew.bel.trans T2.out.bel)⟩
set_option maxRecDepth 100000 in
set_option maxHeartbeats 3200000 in
theorem do_pay (h : Bo base w P R A) (aa bb : Int) (nn : Nat) (hn : nn < 18446744073709551616) (hwb : (Lit.int .i64 bb).wf = true) :
    Calls Try.prog 11 #[.pointer (some ⟨P, 0, none⟩), .pointer (some ⟨R, 0, none⟩), .agg #[.int .i64 9, .int .i64 aa, .int .i64 bb, .int .u64 (nn : Int)]] w (DoTo base w P R) := by
  have b0 : Below w.heap.size w (w.alloc (.cells #[.int .i64 9, .int .i64 aa, .int .i64 bb, .int .u64 (nn : Int)] 35)) := (Below.refl _ _).alloc (Nat.le_refl _) _
  have k0 := KB.new w 35 #[.int .i64 9, .int .i64 aa, .int .i64 bb, .int .u64 (nn : Int)]
  have h1 := h.below b0
  have hG := (pay_good h.ok aa nn).1
  have H1 := Lib.hid h1
  have HB0 := Lib.hid (b0.mono h.base_le)
  have HK0 := Lib.hid k0
  have OK := Lib.hid h.ok
  have HG := Lib.hid hG
  clear b0 k0 h1 h hG
  go_enter Try.func11, Try.ntmps11
  go_wp2_with fail
  generalize (w.alloc (.cells #[.int .i64 9, .int .i64 aa, .int .i64 bb, .int .u64 (nn : Int)] 35)) = W0 at H1 HB0 HK0 ⊢
  generalize w.heap.size = G at HK0 ⊢
  have hc := payL H1.out.p.drew OK.out aa nn hn
  have HC := Lib.hid hc
  clear hc
  have K0 : W0.cell? ⟨G, 1, none⟩ = some (.int .i64 aa) ∧ W0.cell? ⟨G, 3, none⟩ = some (.int .u64 (nn : Int)) := ⟨(op_cells HK0.out).2.1, (op_cells HK0.out).2.2.2⟩
  go_region_held3 (fun W => W.cell? ⟨G, 1, none⟩ = some (.int .i64 aa) ∧ W.cell? ⟨G, 3, none⟩ = some (.int .u64 (nn : Int)))
    (first | exact K0 | exact K1 | exact K2)
    (first
      | (go_at_call 23; refine HC.out.mono ?_; rintro e w1 ⟨rfl, t1⟩; have kk1 := t1.side _ _ _ HK0.out (by decide) (by decide) (by decide); have K1 : w1.cell? ⟨G, 1, none⟩ = some (.int .i64 aa) ∧ w1.cell? ⟨G, 3, none⟩ = some (.int .u64 (nn : Int)) := ⟨(op_cells kk1).2.1, (op_cells kk1).2.2.2⟩; have hc2 := rpayL ((H1.out.r.drew).side t1.side tp_tr) OK.out aa nn hn; have HC2 := Lib.hid hc2; have T1 := Lib.hid t1; have KK1 := Lib.hid kk1; clear kk1 hc2 t1)
      | (go_at_call 40; refine HC2.out.mono ?_; rintro e w2 ⟨rfl, t2⟩; have kk2 := t2.side _ _ _ KK1.out (by decide) (by decide) (by decide); have K2 : w2.cell? ⟨G, 1, none⟩ = some (.int .i64 aa) ∧ w2.cell? ⟨G, 3, none⟩ = some (.int .u64 (nn : Int)) := ⟨(op_cells kk2).2.1, (op_cells kk2).2.2.2⟩; have T2 := Lib.hid t2; clear kk2 t2))
  all_goals
    go_wp2
    go_ret
    exact ⟨by simp, ⟨_, Bo.of T1.out.undrew T2.out HG.out⟩, HB0.out.trans (T1.out.undrew.bel.trans T2.out.bel)⟩
set_option maxRecDepth 100000 in
set_option maxHeartbeats 3200000 in
theorem do_keep (h : Bo base w P R A) (aa bb : Int) (nn : Nat) (hn : nn < 18446744073709551616) (hwb : (Lit.int .i64 bb).wf = true) :
    Calls Try.prog 11 #[.pointer (some ⟨P, 0, none⟩), .pointer (some ⟨R, 0, none⟩), .agg #[.int .i64 10, .int .i64 aa, .int .i64 bb, .int .u64 (nn : Int)]] w (DoTo base w P R) := by
  have b0 : Below w.heap.size w (w.alloc (.cells #[.int .i64 10, .int .i64 aa, .int .i64 bb, .int .u64 (nn : Int)] 35)) := (Below.refl _ _).alloc (Nat.le_refl _) _
  have k0 := KB.new w 35 #[.int .i64 10, .int .i64 aa, .int .i64 bb, .int .u64 (nn : Int)]
  have h1 := h.below b0
  have hG := (keep_good h.ok nn).1
  have H1 := Lib.hid h1
  have HB0 := Lib.hid (b0.mono h.base_le)
  have HK0 := Lib.hid k0
  have OK := Lib.hid h.ok
  have HG := Lib.hid hG
  clear b0 k0 h1 h hG
  go_enter Try.func11, Try.ntmps11
  go_wp2_with fail
  generalize (w.alloc (.cells #[.int .i64 10, .int .i64 aa, .int .i64 bb, .int .u64 (nn : Int)] 35)) = W0 at H1 HB0 HK0 ⊢
  generalize w.heap.size = G at HK0 ⊢
  have hc := keepL H1.out.p.drew OK.out nn hn
  have HC := Lib.hid hc
  clear hc
  have K0 : W0.cell? ⟨G, 3, none⟩ = some (.int .u64 (nn : Int)) := (op_cells HK0.out).2.2.2
  go_region_held3 (fun W => W.cell? ⟨G, 3, none⟩ = some (.int .u64 (nn : Int)))
    (first | exact K0 | exact K1 | exact K2)
    (first
      | (go_at_call 24; refine HC.out.mono ?_; rintro e w1 ⟨rfl, t1⟩; have kk1 := t1.side _ _ _ HK0.out (by decide) (by decide) (by decide); have K1 : w1.cell? ⟨G, 3, none⟩ = some (.int .u64 (nn : Int)) := (op_cells kk1).2.2.2; have hc2 := rkeepL ((H1.out.r.drew).side t1.side tp_tr) OK.out nn hn; have HC2 := Lib.hid hc2; have T1 := Lib.hid t1; have KK1 := Lib.hid kk1; clear kk1 hc2 t1)
      | (go_at_call 41; refine HC2.out.mono ?_; rintro e w2 ⟨rfl, t2⟩; have kk2 := t2.side _ _ _ KK1.out (by decide) (by decide) (by decide); have K2 : w2.cell? ⟨G, 3, none⟩ = some (.int .u64 (nn : Int)) := (op_cells kk2).2.2.2; have T2 := Lib.hid t2; clear kk2 t2))
  all_goals
    go_wp2
    go_ret
    exact ⟨by simp, ⟨_, Bo.of T1.out.undrew T2.out HG.out⟩, HB0.out.trans (T1.out.undrew.bel.trans T2.out.bel)⟩
set_option maxRecDepth 100000 in
set_option maxHeartbeats 3200000 in
theorem do_wdr (h : Bo base w P R A) (aa bb : Int) (nn : Nat) (hn : nn < 18446744073709551616) (hwb : (Lit.int .i64 bb).wf = true) :
    Calls Try.prog 11 #[.pointer (some ⟨P, 0, none⟩), .pointer (some ⟨R, 0, none⟩), .agg #[.int .i64 4, .int .i64 aa, .int .i64 bb, .int .u64 (nn : Int)]] w (DoTo base w P R) := by
  have b0 : Below w.heap.size w (w.alloc (.cells #[.int .i64 4, .int .i64 aa, .int .i64 bb, .int .u64 (nn : Int)] 35)) := (Below.refl _ _).alloc (Nat.le_refl _) _
  have k0 := KB.new w 35 #[.int .i64 4, .int .i64 aa, .int .i64 bb, .int .u64 (nn : Int)]
  have h1 := h.below b0
  have hG := (wdr_good h.ok aa bb).1
  have H1 := Lib.hid h1
  have HB0 := Lib.hid (b0.mono h.base_le)
  have HK0 := Lib.hid k0
  have OK := Lib.hid h.ok
  have HG := Lib.hid hG
  clear b0 k0 h1 h hG
  go_enter Try.func11, Try.ntmps11
  go_wp2_with fail
  generalize (w.alloc (.cells #[.int .i64 4, .int .i64 aa, .int .i64 bb, .int .u64 (nn : Int)] 35)) = W0 at H1 HB0 HK0 ⊢
  generalize w.heap.size = G at HK0 ⊢
  have hc := wdrL H1.out.p OK.out aa bb
  have HC := Lib.hid hc
  have x1 := (op_cells HK0.out).2.1
  have x2 := (op_cells HK0.out).2.2.1
  have x3 := (op_cells HK0.out).2.2.2
  clear hc
  go_wp2_with fail
  refine HC.out.mono ?_
  rintro e w1 ⟨rfl, t1⟩
  have kk1 := t1.side _ _ _ HK0.out (by decide) (by decide) (by decide)
  have y1 := (op_cells kk1).2.1
  have y2 := (op_cells kk1).2.2.1
  have y3 := (op_cells kk1).2.2.2
  have hc2 := rwdrL (H1.out.r.side t1.side tp_tr) OK.out aa bb
  have HC2 := Lib.hid hc2
  have T1 := Lib.hid t1
  clear hc2 t1 kk1 x1 x2 x3
  go_wp2_with fail
  refine HC2.out.mono ?_
  rintro e w2 ⟨rfl, t2⟩
  go_wp2
  all_goals
    go_ret
    exact ⟨by simp, ⟨_, Bo.of T1.out t2 HG.out⟩, HB0.out.trans (T1.out.bel.trans t2.bel)⟩
set_option maxRecDepth 100000 in
set_option maxHeartbeats 3200000 in
theorem do_sla (h : Bo base w P R A) (aa bb : Int) (nn : Nat) (hn : nn < 18446744073709551616) (hwb : (Lit.int .i64 bb).wf = true) :
    Calls Try.prog 11 #[.pointer (some ⟨P, 0, none⟩), .pointer (some ⟨R, 0, none⟩), .agg #[.int .i64 11, .int .i64 aa, .int .i64 bb, .int .u64 (nn : Int)]] w (DoTo base w P R) := by
  have b0 : Below w.heap.size w (w.alloc (.cells #[.int .i64 11, .int .i64 aa, .int .i64 bb, .int .u64 (nn : Int)] 35)) := (Below.refl _ _).alloc (Nat.le_refl _) _
  have k0 := KB.new w 35 #[.int .i64 11, .int .i64 aa, .int .i64 bb, .int .u64 (nn : Int)]
  have h1 := h.below b0
  have hG := (sla_good h.ok aa nn).1
  have H1 := Lib.hid h1
  have HB0 := Lib.hid (b0.mono h.base_le)
  have HK0 := Lib.hid k0
  have OK := Lib.hid h.ok
  have HG := Lib.hid hG
  clear b0 k0 h1 h hG
  go_enter Try.func11, Try.ntmps11
  go_wp2_with fail
  generalize (w.alloc (.cells #[.int .i64 11, .int .i64 aa, .int .i64 bb, .int .u64 (nn : Int)] 35)) = W0 at H1 HB0 HK0 ⊢
  generalize w.heap.size = G at HK0 ⊢
  have hc := slaL H1.out.p OK.out aa nn hn
  have HC := Lib.hid hc
  have x1 := (op_cells HK0.out).2.1
  have x2 := (op_cells HK0.out).2.2.1
  have x3 := (op_cells HK0.out).2.2.2
  clear hc
  go_wp2_with fail
  refine HC.out.mono ?_
  rintro e w1 ⟨rfl, t1⟩
  have kk1 := t1.side _ _ _ HK0.out (by decide) (by decide) (by decide)
  have y1 := (op_cells kk1).2.1
  have y2 := (op_cells kk1).2.2.1
  have y3 := (op_cells kk1).2.2.2
  have hc2 := rslaL (H1.out.r.side t1.side tp_tr) OK.out aa nn hn
  have HC2 := Lib.hid hc2
  have T1 := Lib.hid t1
  clear hc2 t1 kk1 x1 x2 x3
  go_wp2_with fail
  refine HC2.out.mono ?_
  rintro e w2 ⟨rfl, t2⟩
  go_wp2
  all_goals
    go_ret
    exact ⟨by simp, ⟨_, Bo.of T1.out t2 HG.out⟩, HB0.out.trans (T1.out.bel.trans t2.bel)⟩
set_option maxRecDepth 100000 in
set_option maxHeartbeats 3200000 in
theorem do_look (h : Bo base w P R A) (kk aa bb : Int) (nn : Int) (hk : kk ≠ 1 ∧ kk ≠ 2 ∧ kk ≠ 3 ∧ kk ≠ 4 ∧ kk ≠ 5 ∧ kk ≠ 6 ∧ kk ≠ 7 ∧ kk ≠ 8 ∧ kk ≠ 9 ∧ kk ≠ 10 ∧ kk ≠ 11) :
    Calls Try.prog 11 #[.pointer (some ⟨P, 0, none⟩), .pointer (some ⟨R, 0, none⟩), .agg #[.int .i64 kk, .int .i64 aa, .int .i64 bb, .int .u64 nn]] w (DoTo base w P R) := by
  have b0 : Below w.heap.size w (w.alloc (.cells #[.int .i64 kk, .int .i64 aa, .int .i64 bb, .int .u64 nn] 35)) := (Below.refl _ _).alloc (Nat.le_refl _) _
  have H1 := Lib.hid (h.below b0)
  have HB0 := Lib.hid (b0.mono h.base_le)
  obtain ⟨e1, e2, e3, e4, e5, e6, e7, e8, e9, e10, e11⟩ := hk
  clear b0 h
  go_enter Try.func11, Try.ntmps11
  go_wp2
  go_ret
  exact ⟨rfl, ⟨_, H1.out⟩, HB0.out⟩
theorem do_any (h : Bo base w P R A) (kk aa bb : Int) (nn : Nat) (hn : nn < 18446744073709551616) (hwb : (Lit.int .i64 bb).wf = true) :
    Calls Try.prog 11 #[.pointer (some ⟨P, 0, none⟩), .pointer (some ⟨R, 0, none⟩), .agg #[.int .i64 kk, .int .i64 aa, .int .i64 bb, .int .u64 (nn : Int)]] w (DoTo base w P R) := by
  by_cases e1 : kk = 1
  · subst e1; exact do_tr h aa bb nn hn hwb
  by_cases e2 : kk = 2
  · subst e2; exact do_bond h aa bb nn hn hwb
  by_cases e3 : kk = 3
  · subst e3; exact do_unb h aa bb nn hn hwb
  by_cases e4 : kk = 4
  · subst e4; exact do_wdr h aa bb nn hn hwb
  by_cases e5 : kk = 5
  · subst e5; exact do_dep h aa bb nn hn hwb
  by_cases e6 : kk = 6
  · subst e6; exact do_rel h aa bb nn hn hwb
  by_cases e7 : kk = 7
  · subst e7; exact do_for h aa bb nn hn hwb
  by_cases e8 : kk = 8
  · subst e8; exact do_mint h aa bb nn hn hwb
  by_cases e9 : kk = 9
  · subst e9; exact do_pay h aa bb nn hn hwb
  by_cases e10 : kk = 10
  · subst e10; exact do_keep h aa bb nn hn hwb
  by_cases e11 : kk = 11
  · subst e11; exact do_sla h aa bb nn hn hwb
  exact do_look h kk aa bb nn ⟨e1, e2, e3, e4, e5, e6, e7, e8, e9, e10, e11⟩
end Go.Proofs.Ytahleoidbnlllaa
