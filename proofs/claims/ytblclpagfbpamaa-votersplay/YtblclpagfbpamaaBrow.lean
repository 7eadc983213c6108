/-
  A slice of integers that came in reads as a list of numbers below their kind's bound. For every slice that can be read.
-/
import Derived.Test.YtblclpagfbpamaaBmem
import Derived.OpenShut
namespace Go.Proofs.Ytblclpagfbpamaa
open Go.RowKit

def IsRowK (k : IntKind) (w : World) (a : Option Addr) (len cap : Nat) (zs : List Int) : Prop :=
  (a = none ∧ len = 0 ∧ cap = 0 ∧ zs = []) ∨
  ∃ x, a = some x ∧ len ≤ cap ∧ cap ≤ maxLen ∧ zs.length = cap ∧ (∀ i, i < zs.length → w.cell? (x.add i) = some (.int k (zs.getD i 0))) ∧ ∀ n ∈ zs, (Lit.int k n).wf = true
theorem rk_of_row {k : IntKind} {M : Nat} (hk : ∀ n : Int, (Lit.int k n).wf = true → 0 ≤ n ∧ n < (M : Int)) {w : World} {a : Option Addr} {len cap : Nat} {zs : List Int} (h : IsRowK k w a len cap zs) : ∃ xs, Rk k w a len cap xs ∧ Bl M xs := by
  rcases h with ⟨rfl, rfl, rfl, rfl⟩ | ⟨x, rfl, hl, hm, hz, hc, hw⟩
  · exact ⟨[], Rk.nil k w, Bl_nil _⟩
  · refine ⟨(zs.take len).map Int.toNat, ⟨?_, hl, by unfold maxLen at hm; exact hm, fun hn => ?_⟩, ?_⟩
    · rw [List.length_map, List.length_take, hz]; omega
    · obtain ⟨b, o, sp⟩ := x
      have h0 := hc 0 (by omega)
      have hsp : sp = none := by simpa [Addr.add] using World.cell?_spot h0
      subst hsp
      refine ⟨b, o, rfl, ?_, fun j hj => ?_⟩
      · rcases Nat.lt_or_ge b w.heap.size with hlt | hge
        · exact hlt
        · exfalso
          simp [Addr.add, World.cell?, Array.getElem?_eq_none hge] at h0
      · have h1 := hc j (by omega)
        have e1 : (Addr.add ⟨b, o, none⟩ j) = ⟨b, o + j, none⟩ := by
          unfold Addr.add
          by_cases h0 : j = 0
          · subst h0; simp
          · simp [h0]
        rw [e1] at h1
        rw [h1]
        have hjz : j < zs.length := by omega
        have e2 : el ((zs.take len).map Int.toNat) j = (zs[j]).toNat := by
          rw [el_get _ _ (by rw [List.length_map, List.length_take]; omega)]
          simp
        rw [e2, List.getD_eq_getElem?_getD, List.getElem?_eq_getElem hjz]
        have := hk zs[j] (hw _ (List.getElem_mem hjz))
        simp only [Option.getD_some]
        congr 2
        omega
    · intro y hy
      rw [List.mem_map] at hy
      obtain ⟨z, hz1, rfl⟩ := hy
      have := hk z (hw z (List.mem_of_mem_take hz1))
      omega
theorem rk_bytes {w : World} {a : Option Addr} {len cap : Nat} {zs : List Int} (h : IsRowK .u8 w a len cap zs) : ∃ xs, Rk .u8 w a len cap xs ∧ Bl 256 xs :=
  rk_of_row (M := 256) (fun n hn => by have := bounds_u8 hn; omega) h
theorem rk_words {w : World} {a : Option Addr} {len cap : Nat} {zs : List Int} (h : IsRowK .u64 w a len cap zs) : ∃ xs, Rk .u64 w a len cap xs ∧ Bl 18446744073709551616 xs :=
  rk_of_row (M := 18446744073709551616) (fun n hn => by have := bounds_u64 hn; omega) h
theorem row_cap {k : IntKind} {w : World} {a : Option Addr} {len cap : Nat} {zs : List Int} (h : IsRowK k w a len cap zs) : zs.length = cap := by
  rcases h with ⟨rfl, rfl, rfl, rfl⟩ | ⟨x, rfl, hl, hm, hz, hc, hw⟩
  · rfl
  · exact hz
end Go.Proofs.Ytblclpagfbpamaa
