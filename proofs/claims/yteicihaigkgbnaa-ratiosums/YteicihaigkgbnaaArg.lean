/-
  A slice of 32-bit numbers that came in reads as a list of limbs. For every slice that can be read.
-/
import Derived.Test.YteicihaigkgbnaaMem
import Derived.OpenShut
namespace Go.Proofs.Yteicihaigkgbnaa
open Go.RowKit

/-- A slice of integers that came in reads as limbs. -/
theorem rd_of_row {w : World} {a : Option Addr} {len cap : Nat} {zs : List Int} (h : (a = none ∧ len = 0 ∧ cap = 0 ∧ zs = []) ∨
    ∃ x, a = some x ∧ len ≤ cap ∧ cap ≤ maxLen ∧ zs.length = cap ∧ (∀ i, i < zs.length → w.cell? (x.add i) = some (.int .u32 (zs.getD i 0))) ∧ ∀ n ∈ zs, (Lit.int .u32 n).wf = true) : ∃ xs, Rd w a len cap xs := by
  rcases h with ⟨rfl, rfl, rfl, rfl⟩ | ⟨x, rfl, hl, hm, hz, hc, hw⟩
  · exact ⟨[], Rd.nil w⟩
  · have hb : ∀ n ∈ zs, 0 ≤ n ∧ n < 4294967296 := fun n hn => by
      have := bounds_u32 (hw n hn)
      omega
    refine ⟨(zs.take len).map Int.toNat, ?_, hl, by unfold maxLen at hm; exact hm, ?_, fun hn => ?_⟩
    · rw [List.length_map, List.length_take, hz]; omega
    · intro y hy
      rw [List.mem_map] at hy
      obtain ⟨z, hz1, rfl⟩ := hy
      have := hb z (List.mem_of_mem_take hz1)
      omega
    · obtain ⟨b, o, sp⟩ := x
      have h0 := hc 0 (by omega)
      have hsp : sp = none := by simpa [Addr.add] using World.cell?_spot h0
      subst hsp
      refine ⟨b, o, rfl, ?_, fun j hj => ?_⟩
      · rcases Nat.lt_or_ge b w.heap.size with hlt | hge
        · exact hlt
        · exfalso
          simp [Addr.add, World.cell?, Array.getElem?_eq_none hge] at h0
      · have h1 := hc j (by omega)
        have e1 : (Addr.add ⟨b, o, none⟩ j) = ⟨b, o + j, none⟩ := by
          unfold Addr.add
          by_cases h0 : j = 0
          · subst h0; simp
          · simp [h0]
        rw [e1] at h1
        rw [h1]
        have hjz : j < zs.length := by omega
        have e2 : el ((zs.take len).map Int.toNat) j = (zs[j]).toNat := by
          rw [el_get _ _ (by rw [List.length_map, List.length_take]; omega)]
          simp
        rw [e2, List.getD_eq_getElem?_getD, List.getElem?_eq_getElem hjz]
        have := hb zs[j] (List.getElem_mem hjz)
        simp only [Option.getD_some]
        congr 2
        omega

end Go.Proofs.Yteicihaigkgbnaa
