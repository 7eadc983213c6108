/-
  The law's 'all': what all accounts have, and the treasury, and the pot. The conditions stand in each theorem.
-/
import Derived.Test.YtahleoidbnlllaaLla
namespace Go.Proofs.Ytahleoidbnlllaa
open Go.RowKit
set_option linter.unusedVariables false
variable {base : Nat} {w : World} {L : Nat} {A : Ab}
set_option maxRecDepth 100000 in
set_option maxHeartbeats 3200000 in
theorem all_any (h : LA TP base w L A) (hok : A.ok) :
    Calls Try.prog 25 #[.pointer (some ⟨L, 0, none⟩)] w fun e w' => e = .returned (.int .u64 (A.tot : Nat)) ∧ Below w.heap.size w w' := by
  have hbk := hok.tot
  have hl := hok.len
  have htt : A.tot = A.t + A.p + acT A.a := rfl
  have HT := Lib.hid htt
  have h1 := treL h
  have h2 := potL h
  have h3 := accsL h
  have hw0 : IntKind.u64.wrap ((A.t : Int) + (A.p : Int)) = ((A.t + A.p : Nat) : Int) := by rw [IntKind.wrap_u64]; omega
  obtain ⟨N, hN⟩ : ∃ N, N = A.a.length := ⟨_, rfl⟩
  have HN := Lib.hid hN
  rw [← hN] at hl h3
  have H := Lib.hid h
  have HK := Lib.hid hok
  clear htt hN h hok
  go_enter Try.func25, Try.ntmps25
  go_wp2_with fail
  refine h1.mono ?_
  rintro e w1 ⟨rfl, rfl⟩
  go_wp2_with fail
  refine h2.mono ?_
  rintro e w1 ⟨rfl, rfl⟩
  go_wp2_with fail
  refine h3.mono ?_
  rintro e w1 ⟨rfl, rfl⟩
  go_wp2_with fail
  clear h1 h2 h3
  go_loopw [3, 15] (fun sv tv wr => ∃ k S : Nat, k ≤ N ∧ S = A.t + A.p + acT (A.a.take k) ∧ sv = .int .u64 (S : Int) ∧ tv = .int .i64 (k : Int) ∧ Below w.heap.size w wr) (fun _ tv _ => N - (intOf tv).toNat)
  case atStart => exact ⟨0, A.t + A.p, Nat.zero_le _, by simp [acT, tot], by go_num, rfl, Below.refl _ _⟩
  case round =>
    obtain ⟨k, S, hk, hS, rfl, rfl, hb⟩ := hrel
    have hSl : S < 18446744073709551616 := by have := acT_take_le A.a k; have := HT.out; omega
    have HS := Lib.hid hS
    clear hS
    by_cases hlt : k < N
    · obtain ⟨x, hx⟩ : ∃ x, A.a[k]? = some x := ⟨_, List.getElem?_eq_getElem (by rw [← HN.out]; exact hlt)⟩
      have hla := H.out.below hb
      have hac := accL_yes hla HK.out (i := (k : Int)) (x := x) (by rw [Ab.ac_nat]; exact hx)
      have hx8 : x.ch.length ≤ 8 := (HK.out.ch x (List.mem_of_getElem? hx)).len
      have hT := acT_take_succ hx
      have hall : x.all = x.f + x.b + x.d + cht x.ch := rfl
      have hsum : S + (x.f + x.b + x.d + cht x.ch) < 18446744073709551616 := by have := acT_take_le A.a (k + 1); have := HS.out; have := HT.out; omega
      have HTT := Lib.hid hT
      have HALL := Lib.hid hall
      have HAC := Lib.hid hac
      have q1 : IntKind.u64.wrap ((S : Int) + (x.f : Int)) = (S : Int) + (x.f : Int) := by rw [IntKind.wrap_u64]; omega
      have q2 : IntKind.u64.wrap ((S : Int) + (x.f : Int) + (x.b : Int)) = (S : Int) + (x.f : Int) + (x.b : Int) := by rw [IntKind.wrap_u64]; omega
      have q3 : IntKind.u64.wrap ((S : Int) + (x.f : Int) + (x.b : Int) + (x.d : Int)) = ((S + x.f + x.b + x.d : Nat) : Int) := by rw [IntKind.wrap_u64]; omega
      clear hT hall hla hac hx
      go_wp2_with fail
      refine HAC.out.mono ?_
      rintro e w6 ⟨va, rfl, hoa, hb6⟩
      obtain ⟨PA, ca, rfl, hsa⟩ := own_sc hoa (by omega)
      have kA := KB.new w6 49 #[.int .u64 (x.f : Nat), .int .u64 (x.b : Nat), .int .u64 (x.d : Nat), .slice PA x.ch.length ca]
      have b7 : Below w6.heap.size w6 (w6.alloc (.cells #[.int .u64 (x.f : Nat), .int .u64 (x.b : Nat), .int .u64 (x.d : Nat), .slice PA x.ch.length ca] 49)) := (Below.refl _ _).alloc (Nat.le_refl _) _
      have hB6 := hb.trans (hb6.mono hb.size)
      have hB7 := hB6.trans (b7.mono hB6.size)
      have hsa7 := hsa.below b7
      have HSA := Lib.hid hsa7
      have HB7 := Lib.hid hB7
      have HKA := Lib.hid kA
      clear kA b7 hB6 hB7 hsa7 hsa hoa hb6
      obtain ⟨M, hM⟩ : ∃ M, M = x.ch.length := ⟨_, rfl⟩
      have HM := Lib.hid hM
      have hac2 := HSA.out.2.1
      rw [← hM] at HKA HSA HB7 hac2 hx8 ⊢
      clear hM
      go_wp2_with fail
      generalize (w6.alloc (.cells #[.int .u64 (x.f : Nat), .int .u64 (x.b : Nat), .int .u64 (x.d : Nat), .slice PA M ca] 49)) = w7 at HB7 HSA HKA ⊢
      have a3 := HKA.out.cell 3
      simp at a3
      go_loopw [3, 37] (fun sv tv wr => ∃ j X : Nat, j ≤ M ∧ X = S + x.f + x.b + x.d + cht (x.ch.take j) ∧ sv = .int .u64 (X : Int) ∧ tv = .int .i64 (j : Int) ∧ w7 = wr) (fun _ tv _ => M - (intOf tv).toNat)
      case atStart => exact ⟨0, S + x.f + x.b + x.d, Nat.zero_le _, by simp [cht, tot], by go_num, rfl, rfl⟩
      case round =>
        obtain ⟨j, X, hj, hX, rfl, rfl, rfl⟩ := hrel
        have hXl : X < 18446744073709551616 := by have := cht_take_le x.ch j; omega
        have HX := Lib.hid hX
        clear hX
        by_cases hlt3 : j < M
        · obtain ⟨_, _, _, h4⟩ := HSA.out
          obtain ⟨g, o, rfl, hg, hc⟩ := h4 (by omega)
          obtain ⟨y, hy⟩ : ∃ y, x.ch[j]? = some y := ⟨_, List.getElem?_eq_getElem (by rw [← HM.out]; exact hlt3)⟩
          obtain ⟨c0, c1⟩ := hc j y hy
          have hT := cht_take_succ hy
          have hsum2 : X + y.1 < 18446744073709551616 := by have := cht_take_le x.ch (j + 1); have := HX.out; omega
          have HT2 := Lib.hid hT
          clear hT hc hy h4
          obtain ⟨x1, x2⟩ := y
          dsimp only at c0 c1 hsum2 HT2
          have hw : IntKind.u64.wrap ((X : Int) + (x1 : Int)) = ((X + x1 : Nat) : Int) := by rw [IntKind.wrap_u64]; omega
          go_wp2_with fail
          go_roundw
          case rel => exact ⟨j + 1, X + x1, by omega, by rw [HT2.out, HX.out]; omega, by go_num, by go_num, by first | rfl | trivial⟩
          case measure => simp [intOf]; omega
        · have hlt3' : ¬ ((j : Int) < (M : Int)) := by omega
          have hXe : X = S + (x.f + x.b + x.d + cht x.ch) := by rw [HX.out, List.take_of_length_le (by rw [← HM.out]; omega)]; omega
          have HXE := Lib.hid hXe
          clear HX hXe
          go_wp2_with fail
          go_roundw
          case rel => exact ⟨k + 1, X, by omega, by rw [HTT.out, HALL.out, HXE.out, HS.out]; omega, rfl, by go_num, HB7.out⟩
          case measure => simp [intOf]; omega
    · have hlt' : ¬ ((k : Int) < (N : Int)) := by omega
      have : S = A.tot := by
        rw [HS.out, HT.out, List.take_of_length_le (by rw [← HN.out]; omega)]
      subst this
      go_wp2
      go_ret
      exact ⟨rfl, hb⟩
end Go.Proofs.Ytahleoidbnlllaa
