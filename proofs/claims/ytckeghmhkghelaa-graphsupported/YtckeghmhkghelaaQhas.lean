/-
  Whether a list has a number: slices.BinarySearch, graph.has and graph.backs over ascending lists; slices.Index, slices.Contains and the reference's Has over any. For slices of ints that can be read.
-/
import Derived.Test.YtckeghmhkghelaaQmem
namespace Go.Proofs.Ytckeghmhkghelaa
open Go.RowKit
set_option linter.unusedVariables false

theorem inan_no (a : Int) (w : World) : Calls Try.prog 42 #[.int .i64 a] w fun e w' => e = .returned (.bool false) ∧ w = w' := by
  go_enter Try.func42, Try.ntmps42
  go_wp2
  go_ret
  exact ⟨by simp, rfl⟩
theorem isnan_no (a : Int) (w : World) : Calls Try.prog 31 #[.int .i64 a] w fun e w' => e = .returned (.bool false) ∧ w = w' := by
  go_enter Try.func31, Try.ntmps31
  go_wp2
  go_ret
  exact ⟨by simp, rfl⟩
theorem iless_any (a b : Int) (w : World) : Calls Try.prog 30 #[.int .i64 a, .int .i64 b] w fun e w' => e = .returned (.bool (decide (a < b))) ∧ w = w' := by
  go_enter Try.func30, Try.ntmps30
  go_wp2_with fail
  refine (inan_no a w).mono ?_
  rintro e w' ⟨rfl, rfl⟩
  go_wp2
  go_ret
  exact ⟨by simp, rfl⟩
/-- Some place and a bool are answered, and nothing is done. -/
def OutPb (w : World) (b : Bool) : Ending → World → Prop := fun e w' => (∃ i : Int, e = .returned (.tuple #[.int .i64 i, .bool b])) ∧ w = w'
set_option maxHeartbeats 1600000 in
theorem ibin_any (A : Option Addr) (n c : Nat) (zs : List Int) (most s : Int) (w : World) (h : Ri w A n c zs) (hup : Asc most zs) (hn100 : n ≤ 4611686018427387904) :
    Calls Try.prog 26 #[.slice A n c, .int .i64 s] w (OutPb w (decide (s ∈ zs))) := by
  have HU := Lib.hid hup
  have HL := Lib.hid h.len
  have hcap := h.cap
  have hmax := h.max
  obtain ⟨r, hr⟩ : ∃ r, decide (s ∈ zs) = r := ⟨_, rfl⟩
  rw [hr]
  have HRR := Lib.hid hr
  clear hup hr
  go_enter Try.func26, Try.ntmps26
  go_wp2_with fail
  go_loop [7, 8] (fun iv jv => ∃ i j : Nat, i ≤ j ∧ j ≤ n ∧ iv = .int .i64 (i : Int) ∧ jv = .int .i64 (j : Int) ∧ (∀ m : Nat, m < i → zl zs m < s) ∧ (∀ m : Nat, j ≤ m → m < n → s ≤ zl zs m)) (fun iv jv => (intOf jv).toNat - (intOf iv).toNat)
  case atStart => exact ⟨0, n, Nat.zero_le _, Nat.le_refl _, rfl, rfl, fun m hm => by omega, fun m hm hx => by omega⟩
  case round =>
    obtain ⟨i, j, hij, hjn, rfl, rfl, hlo, hhi⟩ := hrel
    have HLO := Lib.hid hlo
    have HHI := Lib.hid hhi
    clear hlo hhi
    by_cases hlt : i < j
    · obtain ⟨g, o, rfl, hg, hc⟩ := h.at_ (by omega)
      obtain ⟨k, hk⟩ : ∃ k : Nat, k = (i + j) / 2 := ⟨_, rfl⟩
      have hk1 : k < n := by omega
      have hcell := hc k hk1
      have hw1 : IntKind.i64.wrap ((i : Int) + (j : Int)) = (i : Int) + (j : Int) := by rw [IntKind.wrap_i64]; omega
      have HK := Lib.hid hk
      have hq : ((i : Int) + (j : Int)) / 2 = (k : Int) := by omega
      have hki : i ≤ k ∧ k < j := by omega
      clear hc hk
      obtain ⟨x, hx⟩ : ∃ x, zl zs k = x := ⟨_, rfl⟩
      rw [hx] at hcell
      have HX := Lib.hid hx
      clear hx
      go_wp2_with fail
      refine (iless_any x s _).mono ?_
      rintro e w1 ⟨rfl, rfl⟩
      have hw2 : IntKind.i64.wrap ((k : Int) + 1) = (k : Int) + 1 := by rw [IntKind.wrap_i64]; omega
      by_cases hx2 : x < s
      · go_wp2_with fail
        go_round
        case rel =>
          refine ⟨k + 1, j, by omega, hjn, by simp, rfl, fun m hm => ?_, HHI.out⟩
          rcases Nat.lt_or_ge m k with hmk | hmk
          · have := HU.out.lt hmk (by rw [HL.out]; omega)
            have := HX.out
            omega
          · obtain rfl : m = k := by omega
            rw [HX.out]
            exact hx2
        case measure => simp [intOf]; omega
      · go_wp2_with fail
        go_round
        case rel =>
          refine ⟨i, k, by omega, by omega, rfl, rfl, HLO.out, fun m hm hmn => ?_⟩
          rcases Nat.lt_or_ge k m with hmk | hmk
          · have := HU.out.lt hmk (by rw [HL.out]; omega)
            have := HX.out
            omega
          · obtain rfl : m = k := by omega
            rw [HX.out]
            omega
        case measure => simp [intOf]; omega
    · obtain rfl : i = j := by omega
      by_cases hin : i < n
      · obtain ⟨g, o, rfl, hg, hc⟩ := h.at_ (by omega)
        have hcell := hc i hin
        obtain ⟨x, hx⟩ : ∃ x, zl zs i = x := ⟨_, rfl⟩
        rw [hx] at hcell
        have HX := Lib.hid hx
        clear hc hx
        by_cases hxs : x = s
        · subst hxs
          have hm : x ∈ zs := mem_zl.2 ⟨i, by rw [HL.out]; exact hin, HX.out⟩
          go_wp2
          go_ret2
          refine ⟨⟨(i : Int), ?_⟩, rfl⟩
          rw [← HRR.out, decide_eq_true hm]
          rfl
        · have hb : ((x : Int) == (s : Int)) = false := by simp; omega
          have hm : ¬ s ∈ zs := fun hs => by
            obtain ⟨j, hj, e⟩ := mem_zl.1 hs
            rcases Nat.lt_trichotomy j i with h1 | h1 | h1
            · have := HLO.out j h1; omega
            · subst h1; exact hxs (HX.out.symm.trans e)
            · have h2 := HU.out.lt h1 hj
              have h3 := HHI.out i (Nat.le_refl _) hin
              omega
          go_wp2_with fail
          refine (isnan_no x _).mono ?_
          rintro e w1 ⟨rfl, rfl⟩
          go_wp2
          go_ret2
          refine ⟨⟨(i : Int), ?_⟩, rfl⟩
          rw [← HRR.out, decide_eq_false hm]
          rfl
      · have hm : ¬ s ∈ zs := fun hs => by
          obtain ⟨j, hj, e⟩ := mem_zl.1 hs
          have := HLO.out j (by rw [HL.out] at hj; omega)
          omega
        go_wp2
        go_ret2
        refine ⟨⟨(i : Int), ?_⟩, rfl⟩
        rw [← HRR.out, decide_eq_false hm]
        rfl
theorem has_any (A : Option Addr) (n c : Nat) (zs : List Int) (most s : Int) (w : World) (h : Ri w A n c zs) (hup : Asc most zs) (hn100 : n ≤ 4611686018427387904) :
    Calls Try.prog 21 #[.slice A n c, .int .i64 s] w fun e w' => e = .returned (.bool (decide (s ∈ zs))) ∧ w = w' := by
  have hB := ibin_any A n c zs most s w h hup hn100
  generalize decide (s ∈ zs) = r at *
  go_enter Try.func21, Try.ntmps21
  go_wp2_with fail
  refine hB.mono ?_
  rintro e w1 ⟨⟨i, rfl⟩, rfl⟩
  go_wp2
  go_ret
  exact ⟨rfl, rfl⟩
set_option maxHeartbeats 800000 in
/-- A voter with a stake that picks it backs it. -/
theorem backs_any (v : Vr) (most s : Int) (w : World) (h : Ri w v.a v.n v.c v.ps) (hup : Asc most v.ps) (hm : v.n ≤ 4611686018427387904) :
    Calls Try.prog 19 #[v.val, .int .i64 s] w (OutF w (decide (0 < v.st ∧ s ∈ v.ps))) := by
  obtain ⟨vi, vst, va, vn, vc, vp⟩ := v
  unfold Vr.val
  dsimp only at h hup hm ⊢
  have hb : Below w.heap.size w (w.alloc (.cells #[.int .i64 vi, .int .u64 (vst : Int), .slice va vn vc] 31)) := (Below.refl _ _).alloc (Nat.le_refl _) _
  have hH := has_any va vn vc vp most s _ (h.below hb (Nat.le_refl _)) hup hm
  have HB := Lib.hid hb
  clear hb h
  by_cases h0 : 0 < vst
  · have h0' : (0 : Int) < (vst : Int) := by omega
    obtain ⟨r, hr⟩ : ∃ r, decide (s ∈ vp) = r := ⟨_, rfl⟩
    rw [show decide (0 < vst ∧ s ∈ vp) = r by rw [← hr]; simp [h0]]
    rw [hr] at hH
    clear hr
    go_enter Try.func19, Try.ntmps19
    go_wp2_with fail
    refine hH.mono ?_
    rintro e w1 ⟨rfl, rfl⟩
    go_wp2
    go_ret
    exact ⟨rfl, HB.out⟩
  · have h0' : ¬ (0 : Int) < (vst : Int) := by omega
    rw [show decide (0 < vst ∧ s ∈ vp) = false by simp [h0]]
    go_enter Try.func19, Try.ntmps19
    go_wp2
    go_ret
    exact ⟨rfl, HB.out⟩
/-- A place is answered, not negative just if it is there, and nothing is done. -/
def OutIx (w : World) (b : Bool) : Ending → World → Prop := fun e w' => (∃ i : Int, e = .returned (.int .i64 i) ∧ decide (0 ≤ i) = b) ∧ w = w'
set_option maxHeartbeats 800000 in
theorem iindex_any (A : Option Addr) (n c : Nat) (zs : List Int) (s : Int) (w : World) (h : Ri w A n c zs) :
    Calls Try.prog 25 #[.slice A n c, .int .i64 s] w (OutIx w (decide (s ∈ zs))) := by
  have HL := Lib.hid h.len
  have hcap := h.cap
  have hmax := h.max
  obtain ⟨r, hr⟩ : ∃ r, decide (s ∈ zs) = r := ⟨_, rfl⟩
  rw [hr]
  have HRR := Lib.hid hr
  clear hr
  go_enter Try.func25, Try.ntmps25
  go_wp2_with fail
  go_loopw [8] (fun tv wr => ∃ k : Nat, k ≤ n ∧ tv = .int .i64 (k : Int) ∧ wr = w ∧ ∀ j, j < k → zl zs j ≠ s) (fun tv _ => n - (intOf tv).toNat)
  case atStart => exact ⟨0, by omega, rfl, rfl, fun j hj => by omega⟩
  case round =>
    obtain ⟨k, hk, rfl, rfl, hno⟩ := hrel
    have HN := Lib.hid hno
    clear hno
    by_cases hlt : k < n
    · obtain ⟨b, o, rfl, hb, hc⟩ := h.at_ (by omega)
      have hcell := hc k hlt
      obtain ⟨x, hx⟩ : ∃ x, zl zs k = x := ⟨_, rfl⟩
      rw [hx] at hcell
      have HX := Lib.hid hx
      clear hx hc
      by_cases hxs : s = x
      · subst hxs
        have hm : s ∈ zs := mem_zl.2 ⟨k, by rw [HL.out]; exact hlt, HX.out⟩
        go_wp2
        go_ret
        exact ⟨⟨_, rfl, by rw [← HRR.out, decide_eq_true hm]; simp⟩, rfl⟩
      · have he : (s == x) = false := by simp; omega
        go_wp2
        go_roundw
        case rel => exact ⟨k + 1, by omega, by go_num, trivial, fun j hj => by
          rcases Nat.lt_or_ge j k with h1 | h1
          · exact HN.out j h1
          · obtain rfl : j = k := by omega
            rw [HX.out]; omega⟩
        case measure => simp [intOf]; omega
    · have hm : ¬ s ∈ zs := fun hs => by
        obtain ⟨j, hj, e⟩ := mem_zl.1 hs
        exact HN.out j (by rw [HL.out] at hj; omega) e
      go_wp2
      go_ret
      exact ⟨⟨_, rfl, by rw [← HRR.out, decide_eq_false hm]; simp⟩, rfl⟩
theorem contains_any (A : Option Addr) (n c : Nat) (zs : List Int) (s : Int) (w : World) (h : Ri w A n c zs) :
    Calls Try.prog 20 #[.slice A n c, .int .i64 s] w fun e w' => e = .returned (.bool (decide (s ∈ zs))) ∧ w = w' := by
  have hB := iindex_any A n c zs s w h
  obtain ⟨r, hr⟩ : ∃ r, decide (s ∈ zs) = r := ⟨_, rfl⟩
  rw [hr] at hB ⊢
  clear hr
  go_enter Try.func20, Try.ntmps20
  go_wp2_with fail
  refine hB.mono ?_
  rintro e w1 ⟨⟨i, rfl, hi⟩, rfl⟩
  have HI := Lib.hid hi
  clear hi
  go_wp2
  go_ret
  exact ⟨by rw [← HI.out]; rfl, rfl⟩
set_option maxHeartbeats 800000 in
theorem rhas_any (A : Option Addr) (n c : Nat) (zs : List Int) (s : Int) (w : World) (h : Ri w A n c zs) :
    Calls Try.prog 9 #[.slice A n c, .int .i64 s] w fun e w' => e = .returned (.bool (decide (s ∈ zs))) ∧ w = w' := by
  have HL := Lib.hid h.len
  have hcap := h.cap
  have hmax := h.max
  obtain ⟨r, hr⟩ : ∃ r, decide (s ∈ zs) = r := ⟨_, rfl⟩
  rw [hr]
  have HRR := Lib.hid hr
  clear hr
  go_enter Try.func9, Try.ntmps9
  go_wp2_with fail
  go_loopw [8] (fun tv wr => ∃ k : Nat, k ≤ n ∧ tv = .int .i64 (k : Int) ∧ wr = w ∧ ∀ j, j < k → zl zs j ≠ s) (fun tv _ => n - (intOf tv).toNat)
  case atStart => exact ⟨0, by omega, rfl, rfl, fun j hj => by omega⟩
  case round =>
    obtain ⟨k, hk, rfl, rfl, hno⟩ := hrel
    have HN := Lib.hid hno
    clear hno
    by_cases hlt : k < n
    · obtain ⟨b, o, rfl, hb, hc⟩ := h.at_ (by omega)
      have hcell := hc k hlt
      obtain ⟨x, hx⟩ : ∃ x, zl zs k = x := ⟨_, rfl⟩
      rw [hx] at hcell
      have HX := Lib.hid hx
      clear hx hc
      by_cases hxs : x = s
      · subst hxs
        have hm : x ∈ zs := mem_zl.2 ⟨k, by rw [HL.out]; exact hlt, HX.out⟩
        go_wp2
        go_ret
        exact ⟨by rw [← HRR.out, decide_eq_true hm]; rfl, rfl⟩
      · have he : (x == s) = false := by simp; omega
        go_wp2
        go_roundw
        case rel => exact ⟨k + 1, by omega, by go_num, trivial, fun j hj => by
          rcases Nat.lt_or_ge j k with h1 | h1
          · exact HN.out j h1
          · obtain rfl : j = k := by omega
            rw [HX.out]; omega⟩
        case measure => simp [intOf]; omega
    · have hm : ¬ s ∈ zs := fun hs => by
        obtain ⟨j, hj, e⟩ := mem_zl.1 hs
        exact HN.out j (by rw [HL.out] at hj; omega) e
      go_wp2
      go_ret
      exact ⟨by rw [← HRR.out, decide_eq_false hm]; rfl, rfl⟩
end Go.Proofs.Ytckeghmhkghelaa
