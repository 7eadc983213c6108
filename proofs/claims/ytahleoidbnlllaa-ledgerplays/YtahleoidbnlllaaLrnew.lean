/-
  New of the reference's ledger, for every row of balances. The conditions stand in each theorem.
-/
import Derived.Test.YtahleoidbnlllaaLnew
import Derived.Deep.LoopGhost
import Derived.Deep.RegionLaw
namespace Go.Proofs.Ytahleoidbnlllaa
open Go.RowKit
set_option linter.unusedVariables false

theorem racInfo : (Try.prog.info? 70).map (fun i => (i.zero, i.size, i.bytes)) = some (some (.agg #[.int .u64 0, .int .u64 0, .int .u64 0, .slice none 0 0]), 4, 48) := by kernel_rfl
theorem sr_acc (w : World) (t : TypeId) (y : Nat) : Sr 4 (w.alloc (.cells #[.int .u64 (y : Nat), .int .u64 0, .int .u64 0, .slice none 0 0] t)) (some ⟨w.heap.size, 0, none⟩) 1 1 (acs [mkA y]) := by
  have := Sr.new (sz := 4) w t #[.int .u64 (y : Nat), .int .u64 0, .int .u64 0, .slice none 0 0] rfl
  simpa [acs, mkA] using this
theorem acs_one_mk (y : Nat) : ∀ u ∈ acs [mkA y], u.oneCell' = true := by
  intro u hu
  simp [acs, mkA] at hu
  rcases hu with rfl | rfl | rfl <;> rfl
set_option maxRecDepth 100000 in
set_option maxHeartbeats 3200000 in
theorem rnew_any (A : Option Addr) (n c : Nat) (xs : List Nat) (w : World) (h : Rk .u64 w A n c xs) (hX : Bl 18446744073709551616 xs) :
    Calls Try.prog 10 #[.slice A n c] w (NewTo TR w xs) := by
  have hlen := h.len
  have hcap := h.cap
  have hmax := h.max
  by_cases h32 : 32 < n
  · go_enter Try.func10, Try.ntmps10
    go_wp2
    go_ret2
    exact ⟨Below.refl _ _, .inl ⟨by omega, rfl⟩⟩
  · have hs := xsum_any A n c xs w h hX
    by_cases ht : tot xs < 18446744073709551616
    · rw [show sumM xs = (tot xs, 0) from if_pos ht] at hs
      have HL := Lib.hid hlen
      have HX := Lib.hid hX
      have HR := Lib.hid h
      have hb0 : Below w.heap.size w (w.alloc (.cells #[.slice none 0 0, .int .u64 0, .int .u64 0] 67)) := (Below.refl _ w).alloc (Nat.le_refl _) _
      have hk0 := KB.new w 67 #[.slice none 0 0, .int .u64 0, .int .u64 0]
      have HB0 := Lib.hid hb0
      have HK0 := Lib.hid hk0
      clear h hX hlen hb0 hk0
      go_enter Try.func10, Try.ntmps10
      go_wp2_with fail
      refine hs.mono ?_
      rintro e w' ⟨rfl, rfl⟩
      go_wp2_with fail
      clear hs
      generalize (w.alloc (.cells #[.slice none 0 0, .int .u64 0, .int .u64 0] 67)) = w0 at HB0 HK0 ⊢
      go_loopg [23] n (fun gk tv wr => ∃ (k : Nat) (P : Option Addr) (r : Nat), k + gk = n ∧ tv = .int .i64 (k : Int) ∧ KB wr w.heap.size 67 #[.slice P k r, .int .u64 0, .int .u64 0] ∧ wr.ownsRow w.heap.size 70 4 (.slice P k r) k (acs ((xs.take k).map mkA)) ∧ Below w.heap.size w wr)
      case atStart => exact ⟨0, none, 0, by omega, rfl, HK0.out, by simpa [acs] using World.ownsRow_nil w0 w.heap.size _ 4, HB0.out⟩
      case round =>
        obtain ⟨k, P, r, hk, rfl, hkb, hown, hb⟩ := hrel
        by_cases hlt : k < n
        · obtain ⟨b, o, hAe, hbb, hcc⟩ := HR.out.at_ (by omega)
          subst hAe
          have hcell := (hb.cell (p := ⟨b, o + k, none⟩) hbb).trans (hcc k hlt)
          have hel : el xs k < 18446744073709551616 := by rw [el_get xs k (by rw [HL.out]; exact hlt)]; exact HX.out _ (List.getElem_mem _)
          have hT : xs.take (k + 1) = xs.take k ++ [el xs k] := by
            rw [List.take_succ_eq_append_getElem (by rw [HL.out]; exact hlt), el_get xs k (by rw [HL.out]; exact hlt)]
          have HT := Lib.hid hT
          clear hcc hT
          generalize el xs k = y at hcell hel HT
          have c0 := hkb.cell 0
          simp at c0
          have hls : w.heap.size < wr.heap.size := hkb.lt
          have hln : ¬ w.heap.size = wr.heap.size := by omega
          have hlt' : (k : Int) < (n : Int) := by omega
          have b1 : Below wr.heap.size wr (wr.drew.alloc (.cells #[.int .u64 (y : Nat), .int .u64 0, .int .u64 0, .slice none 0 0] 70)) := ((Below.refl _ _).drew).alloc (Nat.le_refl _) _
          have own1 := own_below hown b1 (fun g' e => (hown.lt g' e).2)
          have hsr := sr_acc wr.drew 70 y
          have hb2 := hb.trans (b1.mono hb.size)
          have hs2 := hb2.size
          have kb1 := hkb.below b1 hkb.lt
          have hnf : ¬ (Value.slice P k r).ownBlock = some w.heap.size := fun e => by
            obtain ⟨cur, hk'⟩ := own_kb hown e
            exact hk'.ne hkb (by decide) rfl
          have c0a := kb1.cell 0
          simp only [List.getElem?_toArray, List.getElem?_cons_zero] at c0a
          have HOWN := Lib.hid own1
          have HSR := Lib.hid hsr
          have HB2 := Lib.hid hb2
          have HKB := Lib.hid kb1
          have HNF := Lib.hid hnf
          clear own1 hsr hb2 b1 hown kb1 hnf hkb
          go_wp2_with fail
          go_region_law (refine step_appS _ 4 48 _ 70 rfl (.tmp 30) (.tmp 36) 65 rfl w.heap.size Try.underlying65 racInfo rfl (by decide) P (some ⟨wr.heap.size, 0, none⟩) k r 1 1 (acs ((xs.take k).map mkA)) (acs [mkA y]) (by simp [Act.eval]) (by simp [Act.eval]) HOWN.out HSR.out (acs_one_mk y) (by unfold maxLen; omega) (by omega) hs2 ?_; intro A1 d1 w1 o1 t1 b1'; have k1 := HKB.out.turns t1 HNF.out; have z0 := k1.cell 0; have zf := k1.frozen 0; simp at z0; have k2 := k1.set 0 (.slice A1 (k + 1) d1); have O1 := Lib.hid o1; have K2 := Lib.hid k2; have B1 := Lib.hid b1'; clear o1 b1' t1 k1 k2)
          all_goals
            go_wp2_with fail
            go_roundg (n - (k + 1))
            case measure => omega
            case rel =>
              refine ⟨k + 1, A1, d1, by omega, by go_num, by simpa using K2.out, ?_, ?_⟩
              · rw [HT.out, List.map_append, acs_append]
                exact own_keep O1.out (fun g' e => Below.heap_setCell _ _ _ g' (fun e' => by
                  obtain ⟨cur, hk'⟩ := own_kb O1.out e
                  have hk2 := K2.out
                  subst e'
                  have hk3 : KB (w1.setCell ⟨w.heap.size, 0, none⟩ (.slice A1 (k + 1) d1)) w.heap.size 70 (cur.set! 0 (.slice A1 (k + 1) d1)) := hk'.set 0 _
                  exact hk3.ne hk2 (by decide) rfl))
              · exact (HB2.out.trans B1.out).setCell (Nat.le_refl _) _
        · obtain rfl : k = n := by omega
          go_wp2
          go_ret2
          refine ⟨hb, .inr (.inr ⟨by have := HL.out; omega, ht, ⟨w.heap.size, .slice P k r, xs.map mkA, 0, 0⟩, rfl, ?_, ?_⟩)⟩
          · simp [Lm.ab, newB, mkA_ac]
          · have e1 : xs.take k = xs := List.take_of_length_le (by rw [HL.out]; exact Nat.le_refl _)
            rw [e1] at hown
            refine lg_new TR (by decide) _ _ _ _ _ _ _ hkb ?_ (fun x hx => ?_) (Nat.le_refl _)
            · rw [List.length_map, HL.out]; exact hown
            · obtain ⟨f, _, rfl⟩ := List.mem_map.1 hx
              exact ⟨f, rfl⟩
    · rw [show sumM xs = (0, 3) from if_neg ht] at hs
      go_enter Try.func10, Try.ntmps10
      go_wp2_with fail
      refine hs.mono ?_
      rintro e w' ⟨rfl, rfl⟩
      go_wp2
      go_ret2
      exact ⟨Below.refl _ _, .inr (.inl ⟨by omega, by omega, rfl⟩)⟩
end Go.Proofs.Ytahleoidbnlllaa
