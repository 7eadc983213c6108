/-
  The law's 'account': a ledger's account as the reference's; and the reference's SameAccount of two that are alike. The conditions stand in each theorem.
-/
import Derived.Test.YtahleoidbnlllaaLrwd
import Derived.Deep.RegionLaw
import Derived.BigQuiet
namespace Go.Proofs.Ytahleoidbnlllaa
open Go.RowKit
set_option linter.unusedVariables false

set_option maxRecDepth 100000 in
set_option maxHeartbeats 3200000 in
theorem acct_any (f b d : Nat) (A : Option Addr) (M c : Nat) (ch : List Ck) (w : World) (hsc : Sc w A M c ch) (h8 : M ≤ 8) :
    Calls Try.prog 45 #[.agg #[.int .u64 (f : Nat), .int .u64 (b : Nat), .int .u64 (d : Nat), .slice A M c]] w fun e w' => ∃ v, e = .returned (.agg #[.int .u64 (f : Nat), .int .u64 (b : Nat), .int .u64 (d : Nat), v]) ∧ w'.ownsRow w.heap.size 89 2 v ch.length (ccs ch) ∧ Below w.heap.size w w' := by
  have hlen := hsc.1
  have hcap := hsc.2.1
  have HL := Lib.hid hlen
  have kA := ((KB.new w 49 #[.int .u64 (f : Nat), .int .u64 (b : Nat), .int .u64 (d : Nat), .slice A M c]).alloc (.cells #[.int .u64 0, .int .u64 0, .int .u64 0, .slice none 0 0] 70)).alloc (.cells #[.int .u64 (f : Nat), .int .u64 (b : Nat), .int .u64 (d : Nat), .slice none 0 0] 70)
  have kR := (KB.new (w.alloc (.cells #[.int .u64 (f : Nat), .int .u64 (b : Nat), .int .u64 (d : Nat), .slice A M c] 49)) 70 #[.int .u64 0, .int .u64 0, .int .u64 0, .slice none 0 0]).alloc (.cells #[.int .u64 (f : Nat), .int .u64 (b : Nat), .int .u64 (d : Nat), .slice none 0 0] 70)
  have kO := KB.new ((w.alloc (.cells #[.int .u64 (f : Nat), .int .u64 (b : Nat), .int .u64 (d : Nat), .slice A M c] 49)).alloc (.cells #[.int .u64 0, .int .u64 0, .int .u64 0, .slice none 0 0] 70)) 70 #[.int .u64 (f : Nat), .int .u64 (b : Nat), .int .u64 (d : Nat), .slice none 0 0]
  have b0 : Below w.heap.size w (((w.alloc (.cells #[.int .u64 (f : Nat), .int .u64 (b : Nat), .int .u64 (d : Nat), .slice A M c] 49)).alloc (.cells #[.int .u64 0, .int .u64 0, .int .u64 0, .slice none 0 0] 70)).alloc (.cells #[.int .u64 (f : Nat), .int .u64 (b : Nat), .int .u64 (d : Nat), .slice none 0 0] 70)) := (((Below.refl _ w).alloc (Nat.le_refl _) _).alloc (by simp) _).alloc (by simp; omega) _
  simp only [World.size_alloc] at kR kO
  have HSC := Lib.hid hsc
  have KA := Lib.hid kA
  have KR := Lib.hid kR
  have KO := Lib.hid kO
  have B0 := Lib.hid b0
  clear hsc hlen kA kR kO b0
  go_enter Try.func45, Try.ntmps45
  go_wp2_with fail
  generalize hW : (((w.alloc (.cells #[.int .u64 (f : Nat), .int .u64 (b : Nat), .int .u64 (d : Nat), .slice A M c] 49)).alloc (.cells #[.int .u64 0, .int .u64 0, .int .u64 0, .slice none 0 0] 70)).alloc (.cells #[.int .u64 (f : Nat), .int .u64 (b : Nat), .int .u64 (d : Nat), .slice none 0 0] 70)) = W at KA KR KO B0 ⊢
  clear hW
  go_loopg [15] M (fun gk tv wr => ∃ (k : Nat) (P : Option Addr) (r : Nat), k + gk = M ∧ tv = .int .i64 (k : Int) ∧ KB wr w.heap.size 49 #[.int .u64 (f : Nat), .int .u64 (b : Nat), .int .u64 (d : Nat), .slice A M c] ∧ KB wr (w.heap.size + 1) 70 #[.int .u64 0, .int .u64 0, .int .u64 0, .slice none 0 0] ∧ KB wr (w.heap.size + 1 + 1) 70 #[.int .u64 (f : Nat), .int .u64 (b : Nat), .int .u64 (d : Nat), .slice P k r] ∧ wr.ownsRow w.heap.size 89 2 (.slice P k r) k (ccs (ch.take k)) ∧ Below w.heap.size w wr)
  case atStart => exact ⟨0, none, 0, by omega, rfl, KA.out, KR.out, KO.out, by simpa [ccs] using World.ownsRow_nil W w.heap.size _ 2, B0.out⟩
  case round =>
    obtain ⟨k, P, r, hk, rfl, kA, kR, kO, hown, hb⟩ := hrel
    clear KA KR KO B0
    have a3 := kA.cell 3
    have o3 := kO.cell 3
    simp at a3 o3
    have hA0 := kA.lt
    have hO0 := kO.lt
    by_cases hlt : k < M
    · obtain ⟨_, _, _, h4⟩ := HSC.out.below hb
      obtain ⟨gc, o, hAe, hgc, hcc⟩ := h4 (by omega)
      subst hAe
      obtain ⟨y, hy⟩ : ∃ y, ch[k]? = some y := ⟨_, List.getElem?_eq_getElem (by rw [HL.out]; exact hlt)⟩
      obtain ⟨d0, d1⟩ := hcc k y hy
      have hT := take_snoc hy
      have HT := Lib.hid hT
      have hlt' : (k : Int) < (M : Int) := by omega
      clear hcc hy h4 hT
      have b1 : Below wr.heap.size wr (wr.drew.alloc (.cells #[.int .u64 (y.1 : Nat), .int .i64 y.2] 89)) := ((Below.refl _ _).drew).alloc (Nat.le_refl _) _
      have own1 := own_below hown b1 (fun g' e => (hown.lt g' e).2)
      have hsr := sr_chunk wr.drew 89 y
      have hb2 := hb.trans (b1.mono hb.size)
      have hs2 := hb2.size
      have kA1 := kA.below b1 kA.lt
      have kR1 := kR.below b1 kR.lt
      have kO1 := kO.below b1 kO.lt
      have nf : ∀ {g' : Nat} {t : TypeId} {cs : Array Value}, KB wr g' t cs → t ≠ 89 → ¬ (Value.slice P k r).ownBlock = some g' := fun hk1 ht e => by
        obtain ⟨cur, hk'⟩ := own_kb hown e
        exact hk1.ne hk' ht rfl
      have nA := nf kA (by decide)
      have nR := nf kR (by decide)
      have nO := nf kO (by decide)
      have o3a := kO1.cell 3
      simp only [List.getElem?_toArray] at o3a
      have HOWN := Lib.hid own1
      have HSR := Lib.hid hsr
      have HB2 := Lib.hid hb2
      have KK := Lib.hid (And.intro kA1 (And.intro kR1 kO1))
      have NN := Lib.hid (And.intro nA (And.intro nR nO))
      have hne3 : ¬ (w.heap.size + 1 + 1 = wr.heap.size) := by omega
      clear own1 hsr hb2 b1 hown kA1 kR1 kO1 nA nR nO nf kA kR kO
      go_wp2_with fail
      go_region_law (refine step_appS _ 2 16 _ 89 rfl (.tmp 19) (.tmp 25) 68 rfl w.heap.size Try.underlying68 rckInfo rfl (by decide) P (some ⟨wr.heap.size, 0, none⟩) k r 1 1 (ccs (ch.take k)) (ccs [y]) (by simp [Act.eval]) (by simp [Act.eval]) HOWN.out HSR.out (ccs_one _) (by unfold maxLen; omega) (by omega) hs2 ?_; intro A1 d1' w1 o1 t1 b1'; have k1 := KK.out.2.2.turns t1 NN.out.2.2; have z0 := k1.cell 3; have zf := k1.frozen 3; simp at z0; have k2 := k1.set 3 (.slice A1 (k + 1) d1'); have ka := (KK.out.1.turns t1 NN.out.1).far (p := ⟨w.heap.size + 1 + 1, 3, none⟩) (by simp; omega) (.slice A1 (k + 1) d1'); have kr := (KK.out.2.1.turns t1 NN.out.2.1).far (p := ⟨w.heap.size + 1 + 1, 3, none⟩) (by simp) (.slice A1 (k + 1) d1'); have O1 := Lib.hid o1; have K2 := Lib.hid (And.intro ka (And.intro kr k2)); have B1 := Lib.hid b1'; clear o1 b1' t1 k1 k2 ka kr)
      all_goals
        go_wp2_with fail
        go_roundg (M - (k + 1))
        case measure => omega
        case rel =>
          refine ⟨k + 1, A1, d1', by omega, by go_num, K2.out.1, K2.out.2.1, by simpa using K2.out.2.2, ?_, ?_⟩
          · rw [HT.out, ccs_append]
            exact own_keep O1.out (fun g' e => Below.heap_setCell _ _ _ g' (fun e' => by
              obtain ⟨cur, hk'⟩ := own_kb O1.out e
              have hk2 := K2.out.2.2
              subst e'
              have hk3 : KB (w1.setCell ⟨w.heap.size + 1 + 1, 3, none⟩ (.slice A1 (k + 1) d1')) (w.heap.size + 1 + 1) 89 (cur.set! 3 (.slice A1 (k + 1) d1')) := hk'.set 3 _
              exact hk3.ne hk2 (by decide) rfl))
          · exact (HB2.out.trans B1.out).setCell (by show w.heap.size ≤ w.heap.size + 1 + 1; omega) _
    · have hlt' : ¬ (k : Int) < (M : Int) := by omega
      have htk : ch.take k = ch := List.take_of_length_le (by rw [HL.out]; omega)
      rw [htk] at hown
      have hkM : k = ch.length := by rw [HL.out]; omega
      have x0 := kO.cell 0
      have x1 := kO.cell 1
      have x2 := kO.cell 2
      have r0 := kR.cell 0
      have r1 := kR.cell 1
      have r2 := kR.cell 2
      have r3 := kR.cell 3
      have rf0 := kR.frozen 0
      have rf1 := kR.frozen 1
      have rf2 := kR.frozen 2
      have rf3 := kR.frozen 3
      simp at x0 x1 x2 r0 r1 r2 r3
      have kF := (((kR.set 0 (.int .u64 (f : Nat))).set 1 (.int .u64 (b : Nat))).set 2 (.int .u64 (d : Nat))).set 3 (.slice P k r)
      have KF := Lib.hid kF
      have HOWN := Lib.hid hown
      have HKM := Lib.hid hkM
      have nR : ∀ g', (Value.slice P k r).ownBlock = some g' → g' ≠ w.heap.size + 1 := fun g' e e' => by
        obtain ⟨cur, hk'⟩ := own_kb hown e
        subst e'
        exact hk'.ne kR (by decide) rfl
      have NR := Lib.hid nR
      clear kF hown hkM kA kR kO htk nR
      go_wp2
      have c0 := KF.out.cell 0
      have c1 := KF.out.cell 1
      have c2 := KF.out.cell 2
      have c3 := KF.out.cell 3
      simp at c0 c1 c2 c3
      refine bodyPost_ret (v := .agg #[.int .u64 (f : Nat), .int .u64 (b : Nat), .int .u64 (d : Nat), .slice P k r]) (by simp [results, Try.results45, go_sem, c0, c1, c2, c3]) rfl ?_
      refine ⟨_, rfl, ?_, (((hb.setCell (by simp) _).setCell (by simp) _).setCell (by simp) _).setCell (by simp) _⟩
      rw [← HKM.out]
      refine own_keep HOWN.out (fun g' e => ?_)
      have h1 := NR.out g' e
      rw [Below.heap_setCell _ _ _ g' (fun e => h1 e), Below.heap_setCell _ _ _ g' (fun e => h1 e), Below.heap_setCell _ _ _ g' (fun e => h1 e), Below.heap_setCell _ _ _ g' (fun e => h1 e)]
set_option maxRecDepth 100000 in
set_option maxHeartbeats 3200000 in
theorem sameacc_any (f b d : Nat) (A A' : Option Addr) (M c c' : Nat) (ch : List Ck) (w : World) (hsc : Sc w A M c ch) (hsc' : Sc w A' M c' ch) (h8 : M ≤ 8) :
    Calls Try.prog 44 #[.agg #[.int .u64 (f : Nat), .int .u64 (b : Nat), .int .u64 (d : Nat), .slice A M c], .agg #[.int .u64 (f : Nat), .int .u64 (b : Nat), .int .u64 (d : Nat), .slice A' M c']] w fun e w' => e = .returned (.bool true) ∧ Below w.heap.size w w' := by
  have hlen := hsc.1
  have hcap := hsc.2.1
  have hcap' := hsc'.2.1
  have HL := Lib.hid hlen
  have kA := (KB.new w 70 #[.int .u64 (f : Nat), .int .u64 (b : Nat), .int .u64 (d : Nat), .slice A M c]).alloc (.cells #[.int .u64 (f : Nat), .int .u64 (b : Nat), .int .u64 (d : Nat), .slice A' M c'] 70)
  have kB := KB.new (w.alloc (.cells #[.int .u64 (f : Nat), .int .u64 (b : Nat), .int .u64 (d : Nat), .slice A M c] 70)) 70 #[.int .u64 (f : Nat), .int .u64 (b : Nat), .int .u64 (d : Nat), .slice A' M c']
  have b0 : Below w.heap.size w ((w.alloc (.cells #[.int .u64 (f : Nat), .int .u64 (b : Nat), .int .u64 (d : Nat), .slice A M c] 70)).alloc (.cells #[.int .u64 (f : Nat), .int .u64 (b : Nat), .int .u64 (d : Nat), .slice A' M c'] 70)) := ((Below.refl _ w).alloc (Nat.le_refl _) _).alloc (by simp) _
  simp only [World.size_alloc] at kB
  have HSC := Lib.hid (hsc.below b0)
  have HSC' := Lib.hid (hsc'.below b0)
  have KA := Lib.hid kA
  have KBB := Lib.hid kB
  have B0 := Lib.hid b0
  clear hsc hsc' hlen kA kB b0
  go_enter Try.func44, Try.ntmps44
  go_wp2_with fail
  generalize ((w.alloc (.cells #[.int .u64 (f : Nat), .int .u64 (b : Nat), .int .u64 (d : Nat), .slice A M c] 70)).alloc (.cells #[.int .u64 (f : Nat), .int .u64 (b : Nat), .int .u64 (d : Nat), .slice A' M c'] 70)) = W at KA KBB B0 HSC HSC' ⊢
  have a3 := KA.out.cell 3
  have b3 := KBB.out.cell 3
  simp at a3 b3
  go_loopg [37] M (fun gk tv wr => ∃ (k t : Nat), k + gk = M ∧ tv = .int .i64 (k : Int) ∧ wr = W.drewN t)
  case atStart => exact ⟨0, 0, by omega, rfl, rfl⟩
  case round =>
    obtain ⟨k, t, hk, rfl, rfl⟩ := hrel
    by_cases hlt : k < M
    · obtain ⟨_, _, _, h4⟩ := HSC.out
      obtain ⟨gc, o, hAe, hgc, hcc⟩ := h4 (by omega)
      obtain ⟨_, _, _, h4'⟩ := HSC'.out
      obtain ⟨gc', o', hAe', hgc', hcc'⟩ := h4' (by omega)
      subst hAe hAe'
      obtain ⟨y, hy⟩ : ∃ y, ch[k]? = some y := ⟨_, List.getElem?_eq_getElem (by rw [HL.out]; exact hlt)⟩
      obtain ⟨d0, d1⟩ := hcc k y hy
      obtain ⟨e0, e1⟩ := hcc' k y hy
      have hlt' : (k : Int) < (M : Int) := by omega
      clear hcc hcc' hy h4 h4'
      go_wp2_with fail
      go_quiet (fail)
      go_wp2_with fail
      go_roundg (M - (k + 1))
      case measure => omega
      case rel => exact ⟨k + 1, _, by omega, by go_num, rfl⟩
    · have hlt' : ¬ (k : Int) < (M : Int) := by omega
      go_wp2
      go_ret
      exact ⟨rfl, ⟨B0.out.os, B0.out.tape, B0.out.output, B0.out.size, B0.out.block⟩⟩
end Go.Proofs.Ytahleoidbnlllaa
