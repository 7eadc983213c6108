/-
  The walk of the law LimbForms: for every slice that can be read and every number the call returns true and writes nothing that was there.
-/
import Derived.Test.YtggfkcdogjebcaaAwake
import Derived.Test.YtggfkcdogjebcaaCmp
import Derived.OpenShut
namespace Go.Proofs.Ytggfkcdogjebcaa
open Go.RowKit

/-- A slice of integers that came in reads as limbs. -/
theorem rd_of_row {w : World} {a : Option Addr} {len cap : Nat} {zs : List Int} (h : (a = none ∧ len = 0 ∧ cap = 0 ∧ zs = []) ∨
    ∃ x, a = some x ∧ len ≤ cap ∧ cap ≤ maxLen ∧ zs.length = cap ∧ (∀ i, i < zs.length → w.cell? (x.add i) = some (.int .u32 (zs.getD i 0))) ∧ ∀ n ∈ zs, (Lit.int .u32 n).wf = true) : ∃ xs, Rd w a len cap xs := by
  rcases h with ⟨rfl, rfl, rfl, rfl⟩ | ⟨x, rfl, hl, hm, hz, hc, hw⟩
  · exact ⟨[], Rd.nil w⟩
  · have hb : ∀ n ∈ zs, 0 ≤ n ∧ n < 4294967296 := fun n hn => by
      have := bounds_u32 (hw n hn)
      omega
    refine ⟨(zs.take len).map Int.toNat, ?_, hl, by unfold maxLen at hm; exact hm, ?_, fun hn => ?_⟩
    · rw [List.length_map, List.length_take, hz]; omega
    · intro y hy
      rw [List.mem_map] at hy
      obtain ⟨z, hz1, rfl⟩ := hy
      have := hb z (List.mem_of_mem_take hz1)
      omega
    · obtain ⟨b, o, sp⟩ := x
      have h0 := hc 0 (by omega)
      have hsp : sp = none := by simpa [Addr.add] using World.cell?_spot h0
      subst hsp
      refine ⟨b, o, rfl, ?_, fun j hj => ?_⟩
      · rcases Nat.lt_or_ge b w.heap.size with hlt | hge
        · exact hlt
        · exfalso
          simp [Addr.add, World.cell?, Array.getElem?_eq_none hge] at h0
      · have h1 := hc j (by omega)
        have e1 : (Addr.add ⟨b, o, none⟩ j) = ⟨b, o + j, none⟩ := by
          unfold Addr.add
          by_cases h0 : j = 0
          · subst h0; simp
          · simp [h0]
        rw [e1] at h1
        rw [h1]
        have hjz : j < zs.length := by omega
        have e2 : el ((zs.take len).map Int.toNat) j = (zs[j]).toNat := by
          rw [el_get _ _ (by rw [List.length_map, List.length_take]; omega)]
          simp
        rw [e2, List.getD_eq_getElem?_getD, List.getElem?_eq_getElem hjz]
        have := hb zs[j] (List.getElem_mem hjz)
        simp only [Option.getD_some]
        congr 2
        omega

set_option maxHeartbeats 800000 in
theorem forms_walk (A : Option Addr) (n c N : Nat) (xs : List Nat) (w : World) (h : Rd w A n c xs) (hN : N < 18446744073709551616) :
    Calls Try.prog 3 #[.slice A n c, .int .u64 N] w fun e w' => e = .returned (.bool true) ∧ Below w.heap.size w w' := by
  have hcap := h.cap
  have hmax := h.max
  by_cases h4 : n ≤ 410
  · go_enter Try.func3, Try.ntmps3
    go_wp2_with fail
    refine (awake_any _).mono ?_
    rintro e w1 ⟨rfl, hb1⟩
    go_wp2_with fail
    refine (few1_yes A n c w1 h4).mono ?_
    rintro e w2 ⟨rfl, hb2⟩
    have HB := Lib.hid (hb1.trans (hb2.mono hb1.size))
    clear hb1 hb2
    have h2 := h.below HB.out
    go_wp2_with fail
    refine (Low_any _ _ _ xs _ h2).mono ?_
    rintro e w' ⟨rfl, rfl⟩
    go_wp2_with fail
    refine (rLow_any _ _ _ xs _ h2).mono ?_
    rintro e w' ⟨rfl, rfl⟩
    go_wp2_with fail
    refine (formed_any _ _ _ xs _ h2).mono ?_
    rintro e w' ⟨rfl, rfl⟩
    go_wp2_with fail
    refine (rformed_any _ _ _ xs _ h2).mono ?_
    rintro e w' ⟨rfl, rfl⟩
    go_wp2_with fail
    refine (of_any N _ hN).mono ?_
    rintro e w3 ⟨R, k, cr, rfl, hR, hb3⟩
    go_wp2_with fail
    refine (rof_any N _ hN).mono ?_
    rintro e w4 ⟨S, l, cs, rfl, hS, hb4⟩
    go_wp2_with fail
    refine (same_yes _ _ _ _ _ _ (digs N) _ (hR.1.below hb4) hS.1).mono ?_
    rintro e w' ⟨rfl, q, rfl⟩
    have HC := Lib.hid (below_drewN' ((HB.out.trans (hb3.mono HB.out.size)).trans (hb4.mono (Nat.le_trans HB.out.size hb3.size))) q)
    clear hb3 hb4 hR hS
    go_wp2
    go_ret
    exact ⟨rfl, HC.out⟩
  · go_enter Try.func3, Try.ntmps3
    go_wp2_with fail
    refine (awake_any _).mono ?_
    rintro e w1 ⟨rfl, hb1⟩
    go_wp2_with fail
    refine (few1_no A n c w1 (by omega) (by omega)).mono ?_
    rintro e w2 ⟨rfl, hb2⟩
    have HB := Lib.hid (hb1.trans (hb2.mono hb1.size))
    clear hb1 hb2
    go_wp2_with fail
    refine (awake_any _).mono ?_
    rintro e w3 ⟨rfl, hb3⟩
    have HC := Lib.hid (HB.out.trans (hb3.mono HB.out.size))
    clear hb3
    go_wp2
    go_ret
    exact ⟨rfl, HC.out⟩
end Go.Proofs.Ytggfkcdogjebcaa
