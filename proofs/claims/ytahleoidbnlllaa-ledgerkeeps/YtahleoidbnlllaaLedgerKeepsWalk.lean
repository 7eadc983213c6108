/-
  The walk of the law LedgerKeeps: it returns true, whatever the amounts and the era, and writes nothing that was there.
-/
import Derived.Test.YtahleoidbnlllaaLla
namespace Go.Proofs.Ytahleoidbnlllaa
open Go.RowKit
set_option linter.unusedVariables false

theorem keeps_bond (a b : Nat) : bondM (newB [a + b]) 0 b = (⟨[⟨a, b, 0, []⟩], 0, 0⟩, 0) := by
  have h : (newB [a + b]).ac 0 = some (mkC (a + b)) := rfl
  unfold bondM
  rw [h]
  have h2 : ¬ (mkC (a + b)).f < b := by show ¬ a + b < b; omega
  simp only [h2, if_false]
  simp [Ab.put, newB, mkC]
theorem keeps_unb (a b : Nat) (era : Int) (hb : 0 < b) : unbM ⟨[⟨a, b, 0, []⟩], 0, 0⟩ 0 b era = (⟨[⟨a, 0, 0, [(b, era)]⟩], 0, 0⟩, 0) := by
  have h : (⟨[⟨a, b, 0, []⟩], 0, 0⟩ : Ab).ac 0 = some ⟨a, b, 0, []⟩ := rfl
  unfold unbM
  rw [h]
  have h2 : ¬ b = 0 := by omega
  simp [h2, insC, posC, Ab.put]
theorem keeps_wdr (a b : Nat) (era : Int) : wdrM ⟨[⟨a, 0, 0, [(b, era)]⟩], 0, 0⟩ 0 era = (⟨[⟨a + b, 0, 0, []⟩], 0, 0⟩, b, 0) := by
  have h : (⟨[⟨a, 0, 0, [(b, era)]⟩], 0, 0⟩ : Ab).ac 0 = some ⟨a, 0, 0, [(b, era)]⟩ := rfl
  unfold wdrM
  rw [h]
  simp [dueC, leftC, cht, tot, Ab.put]
set_option maxRecDepth 100000 in
set_option maxHeartbeats 3200000 in
theorem lkeeps_walk (a b : Nat) (era : Int) (ha : a < 4294967296) (hb : b < 4294967296) (hwf : (Lit.int .i64 era).wf = true) (w : World) :
    Calls Try.prog 5 #[.int .u32 a, .int .u32 b, .int .i64 era] w fun e w' => e = .returned (.bool true) ∧ Below w.heap.size w w' := by
  by_cases hb0 : b = 0
  · subst hb0
    go_enter Try.func5, Try.ntmps5
    go_wp2_with fail
    refine (wakeL_any _).mono ?_
    rintro e w1 ⟨rfl, hb1⟩
    go_wp2_with fail
    refine (wakeL_any _).mono ?_
    rintro e w2 ⟨rfl, hb2⟩
    go_wp2
    go_ret
    exact ⟨rfl, hb1.trans (hb2.mono hb1.size)⟩
  · have q1 : IntKind.u64.wrap (a : Int) = (a : Int) := by rw [IntKind.wrap_u64]; omega
    have q2 : IntKind.u64.wrap (b : Int) = (b : Int) := by rw [IntKind.wrap_u64]; omega
    have q3 : IntKind.u64.wrap ((a : Int) + (b : Int)) = (a : Int) + (b : Int) := by rw [IntKind.wrap_u64]; omega
    go_enter Try.func5, Try.ntmps5
    go_wp2_with fail
    refine (wakeL_any _).mono ?_
    rintro e w1 ⟨rfl, hb1⟩
    have hr : Rk .u64 (w1.alloc (.cells #[.int .u64 ((a : Int) + (b : Int))] 33)) (some ⟨w1.heap.size, 0, none⟩) 1 1 [a + b] := rk_one .u64 33 w1 _ (a + b) (by omega)
    have hN := new_any _ 1 1 [a + b] _ hr (by intro x hx; simp at hx; omega)
    have hbA := hb1.alloc hb1.size (.cells #[.int .u64 ((a : Int) + (b : Int))] 33)
    have hkA := KB.new w1 33 #[.int .u64 ((a : Int) + (b : Int))]
    have HN := Lib.hid hN
    have HBA := Lib.hid hbA
    have HKA := Lib.hid hkA
    clear hN hbA hkA hr
    go_wp2_with fail
    generalize hW : (w1.alloc (.cells #[.int .u64 ((a : Int) + (b : Int))] 33)) = W at HN HBA HKA ⊢
    have hWs : W.heap.size = w1.heap.size + 1 := by rw [← hW]; simp
    clear hW
    refine HN.out.mono ?_
    rintro e w2 ⟨hb2, ⟨h1, _⟩ | ⟨_, h1, _⟩ | ⟨_, _, s, rfl, hab, hg⟩⟩
    · simp at h1
    · simp [tot] at h1; omega
    · have hla : LA TP W.heap.size w2 s.L (newB [a + b]) := ⟨s, rfl, hab, hg⟩
      have hok0 : (newB [a + b]).ok := newB_ok (by simp [tot]; omega) (by simp)
      generalize s.L = L at hla ⊢
      clear hab hg s
      have hB2 := HBA.out.trans (hb2.mono (by have := hb1.size; omega))
      have hk2 := HKA.out.below hb2 HKA.out.lt
      have hbo := bondL hla hok0 0 b (by omega)
      rw [keeps_bond] at hbo
      have hok1 := (bond_good hok0 0 b).1
      rw [keeps_bond] at hok1
      dsimp only at hbo hok1
      have HBO := Lib.hid hbo
      have HB2 := Lib.hid hB2
      clear hbo hB2 HBA HN HKA hb2
      go_wp2_with fail
      refine HBO.out.mono ?_
      rintro e w3 ⟨rfl, ⟨hla3, hb3, _⟩⟩
      have hub := unbL hla3 hok1 0 b (by omega) era
      have hok2 := (unb_good hok1 0 b era hwf).1
      rw [keeps_unb a b era (by omega)] at hub hok2
      dsimp only at hub hok2
      have HUB := Lib.hid hub
      clear hub
      go_wp2_with fail
      refine HUB.out.mono ?_
      rintro e w4 ⟨rfl, ⟨⟨s, hsL, hsA, hg4⟩, hb4, _⟩⟩
      have hk4 := (hk2.below hb3 (by omega)).below hb4 (by omega)
      have hB4 := HB2.out.trans ((hb3.trans hb4).mono (by have := hb1.size; omega))
      have hf0 := hk4.frozen 0
      have hc0 := hk4.cell 0
      simp at hc0
      have hfoot : ¬ s.foot w1.heap.size := fun hf => by have := (hg4.foot_lt hf).1; omega
      have hg5 := hg4.far (p := ⟨w1.heap.size, 0, none⟩) hfoot (.int .u64 0)
      have hB5 := hB4.setCell (p := ⟨w1.heap.size, 0, none⟩) hb1.size (.int .u64 0)
      have HG5 := Lib.hid hg5
      have HB5 := Lib.hid hB5
      clear hg5 hB5 hB4 hk4 hk2 hla3 hla hg4
      go_wp2_with fail
      generalize (w4.setCell ⟨w1.heap.size, 0, none⟩ (.int .u64 0)) = w5 at HG5 HB5 ⊢
      have ha5 := accL_yes (x := ⟨a, 0, 0, [(b, era)]⟩) ⟨s, hsL, hsA, HG5.out⟩ hok2 (i := 0) rfl
      clear hc0 hf0 hfoot
      dsimp only at ha5
      refine ha5.mono ?_
      rintro e w6 ⟨vx, rfl, hox, hb6⟩
      try dsimp only at hox
      obtain ⟨gx, cx, rfl, hgx⟩ : ∃ gx cx, vx = .slice (some ⟨gx, 0, none⟩) 1 cx ∧ w5.heap.size ≤ gx := by
        rcases own_forms hox with ⟨_, h0, _⟩ | ⟨g', cap', e, hb, _⟩
        · simp at h0
        · exact ⟨g', cap', e, hb⟩
      have hg6 := HG5.out.below hb6
      have hB6 := HB5.out.trans (hb6.mono (by have := HB5.out.size; omega))
      have hxX := hox.alloc (.cells #[.int .u64 (a : Nat), .int .u64 0, .int .u64 0, .slice (some ⟨gx, 0, none⟩) 1 cx] 49)
      have cx0 := (hxX.cellAt 0 (by simp)).trans (show (ccs [(b, era)])[0]? = some (.int .u64 (b : Nat)) from rfl)
      have cxf := hxX.frozenAt 0
      have hgX := hg6.alloc (.cells #[.int .u64 (a : Nat), .int .u64 0, .int .u64 0, .slice (some ⟨gx, 0, none⟩) 1 cx] 49)
      have hg7 := hgX.far (p := ⟨gx, 0, none⟩) (fun hf => by have h1 : gx < w5.heap.size := (HG5.out.foot_lt hf).2; omega) (.int .u64 0)
      have hB7 := (hB6.alloc hB6.size (.cells #[.int .u64 (a : Nat), .int .u64 0, .int .u64 0, .slice (some ⟨gx, 0, none⟩) 1 cx] 49)).setCell (p := ⟨gx, 0, none⟩) (by have := HB5.out.size; show w.heap.size ≤ gx; omega) (.int .u64 0)
      have hs7 : ((w6.alloc (.cells #[.int .u64 (a : Nat), .int .u64 0, .int .u64 0, .slice (some ⟨gx, 0, none⟩) 1 cx] 49)).setCell ⟨gx, 0, none⟩ (.int .u64 0)).heap.size = w6.heap.size + 1 := by simp
      have hgl : gx ≠ w6.heap.size := by
        have := (hox.lt gx rfl).2
        omega
      have HG7 := Lib.hid hg7
      have HB7 := Lib.hid hB7
      clear hox hxX hgX hg7 hB7 hB6 hg6
      go_wp2_with fail
      generalize ((w6.alloc (.cells #[.int .u64 (a : Nat), .int .u64 0, .int .u64 0, .slice (some ⟨gx, 0, none⟩) 1 cx] 49)).setCell ⟨gx, 0, none⟩ (.int .u64 0)) = w7 at HG7 HB7 hs7 ⊢
      have ha7 := accL_yes (x := ⟨a, 0, 0, [(b, era)]⟩) ⟨s, hsL, hsA, HG7.out⟩ hok2 (i := 0) rfl
      dsimp only at ha7
      clear cx0 cxf
      refine ha7.mono ?_
      rintro e w8 ⟨vy, rfl, hoy, hb8⟩
      obtain ⟨gy, cy, rfl, hgy⟩ : ∃ gy cy, vy = .slice (some ⟨gy, 0, none⟩) 1 cy ∧ w7.heap.size ≤ gy := by
        rcases own_forms hoy with ⟨_, h0, _⟩ | ⟨g', cap', e, hb, _⟩
        · simp at h0
        · exact ⟨g', cap', e, hb⟩
      have hg8 := HG7.out.below hb8
      have hB8 := HB7.out.trans (hb8.mono HB7.out.size)
      have hoY := hoy.alloc (.cells #[.int .u64 (a : Nat), .int .u64 0, .int .u64 0, .slice (some ⟨gy, 0, none⟩) 1 cy] 49)
      have hkY := KB.new w8 49 #[.int .u64 (a : Nat), .int .u64 0, .int .u64 0, .slice (some ⟨gy, 0, none⟩) 1 cy]
      have hg9 := hg8.alloc (.cells #[.int .u64 (a : Nat), .int .u64 0, .int .u64 0, .slice (some ⟨gy, 0, none⟩) 1 cy] 49)
      have hB9 := hB8.alloc hB8.size (.cells #[.int .u64 (a : Nat), .int .u64 0, .int .u64 0, .slice (some ⟨gy, 0, none⟩) 1 cy] 49)
      have hwd := wdr_any hg9 (by rw [hsA]; exact hok2) 0 era
      rw [hsA, hsL, keeps_wdr] at hwd
      have hok3 := (wdr_good hok2 0 era).1
      rw [keeps_wdr] at hok3
      dsimp only at hwd hok3
      have hs8 := hb8.size
      have hlo : ∀ bb, s.foot bb → bb < w7.heap.size := fun bb hf => (HG7.out.foot_lt hf).2
      have HWD := Lib.hid hwd
      have HOY := Lib.hid hoY
      have HKY := Lib.hid hkY
      have HB9 := Lib.hid hB9
      have HLO := Lib.hid hlo
      have HG9 := Lib.hid hg9
      clear hwd hoY hkY hB9 hB8 hg8 hg9 hoy hlo
      go_wp2_with fail
      generalize (w8.alloc (.cells #[.int .u64 (a : Nat), .int .u64 0, .int .u64 0, .slice (some ⟨gy, 0, none⟩) 1 cy] 49)) = w9 at HWD HOY HKY HB9 HG9 ⊢
      refine HWD.out.mono ?_
      rintro e w10 ⟨rfl, h10⟩
      have hT := h10.la HG9.out
      obtain ⟨s', hL', hA', hg10, ht10⟩ := h10
      have kY := HKY.out.turns ht10 (fun hf => by have := HLO.out _ hf; omega)
      have y3 := kY.cell 3
      simp at y3
      have hoy2 := own_keep HOY.out (w' := w10) (fun g' e => ht10.block g' (HOY.out.lt g' e).2 (fun hf => by
        have h1 := HLO.out _ hf
        have h2 := (HOY.out.lt g' e).1
        omega))
      have c0 := (hoy2.cellAt 0 (by simp)).trans (show (ccs [(b, era)])[0]? = some (.int .u64 (b : Nat)) from rfl)
      have hI := issL (L := L) ⟨s', hL'.trans hsL, hA', hg10⟩ hok3
      have htt : (⟨[⟨a + b, 0, 0, []⟩], 0, 0⟩ : Ab).tot = a + b := by simp [Ab.tot, acT, tot, Ac.all, cht]
      rw [htt] at hI
      push_cast at hI
      have HI := Lib.hid hI
      have hB10 := HB9.out.trans (hT.bel.mono (by have := hb1.size; omega))
      have HB10 := Lib.hid hB10
      clear hI hB10 hoy2 kY hT hg10 ht10 htt
      go_wp2_with fail
      refine HI.out.mono ?_
      rintro e w11 ⟨rfl, hb11⟩
      go_wp2
      go_ret
      exact ⟨by simp, HB10.out.trans (hb11.mono HB10.out.size)⟩
end Go.Proofs.Ytahleoidbnlllaa
