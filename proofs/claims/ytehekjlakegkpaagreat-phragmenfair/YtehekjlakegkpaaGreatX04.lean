/-
  Whether a list has a number: slices.BinarySearch, graph.has and graph.backs over ascending lists; slices.Index, slices.Contains and the reference's Has over any. For slices of ints that can be read.
  graph.Approvers and graph.Approves: the numbers of those that approve a candidate. For every snapshot that can be read.
-/
import Derived.Test.YtehekjlakegkpaaGreatX03
section
namespace Go.Proofs.YtehekjlakegkpaaGreat
open Go.RowKit
set_option linter.unusedVariables false

theorem inan_no (a : Int) (w : World) : Calls Tryz.prog 147 #[.int .i64 a] w fun e w' => e = .returned (.bool false) ∧ w = w' := by
  go_enter Tryz.func147, Tryz.ntmps147
  go_wp2
  go_ret
  exact ⟨by simp, rfl⟩
theorem isnan_no (a : Int) (w : World) : Calls Tryz.prog 227 #[.int .i64 a] w fun e w' => e = .returned (.bool false) ∧ w = w' := by
  go_enter Tryz.func227, Tryz.ntmps227
  go_wp2
  go_ret
  exact ⟨by simp, rfl⟩
theorem iless_any (a b : Int) (w : World) : Calls Tryz.prog 202 #[.int .i64 a, .int .i64 b] w fun e w' => e = .returned (.bool (decide (a < b))) ∧ w = w' := by
  go_enter Tryz.func202, Tryz.ntmps202
  go_wp2_with fail
  refine (inan_no a w).mono ?_
  rintro e w' ⟨rfl, rfl⟩
  go_wp2
  go_ret
  exact ⟨by simp, rfl⟩
/-- Some place and a bool are answered, and nothing is done. -/
def OutPb (w : World) (b : Bool) : Ending → World → Prop := fun e w' => (∃ i : Int, e = .returned (.tuple #[.int .i64 i, .bool b])) ∧ w = w'
set_option maxHeartbeats 1600000 in
theorem ibin_any (A : Option Addr) (n c : Nat) (zs : List Int) (most s : Int) (w : World) (h : Ri w A n c zs) (hup : Asc most zs) (hn100 : n ≤ 4611686018427387904) :
    Calls Tryz.prog 207 #[.slice A n c, .int .i64 s] w (OutPb w (decide (s ∈ zs))) := by
  have HU := Lib.hid hup
  have HL := Lib.hid h.len
  have hcap := h.cap
  have hmax := h.max
  obtain ⟨r, hr⟩ : ∃ r, decide (s ∈ zs) = r := ⟨_, rfl⟩
  rw [hr]
  have HRR := Lib.hid hr
  clear hup hr
  go_enter Tryz.func207, Tryz.ntmps207
  go_wp2_with fail
  go_loop [7, 8] (fun iv jv => ∃ i j : Nat, i ≤ j ∧ j ≤ n ∧ iv = .int .i64 (i : Int) ∧ jv = .int .i64 (j : Int) ∧ (∀ m : Nat, m < i → zl zs m < s) ∧ (∀ m : Nat, j ≤ m → m < n → s ≤ zl zs m)) (fun iv jv => (intOf jv).toNat - (intOf iv).toNat)
  case atStart => exact ⟨0, n, Nat.zero_le _, Nat.le_refl _, rfl, rfl, fun m hm => by omega, fun m hm hx => by omega⟩
  case round =>
    obtain ⟨i, j, hij, hjn, rfl, rfl, hlo, hhi⟩ := hrel
    have HLO := Lib.hid hlo
    have HHI := Lib.hid hhi
    clear hlo hhi
    by_cases hlt : i < j
    · obtain ⟨g, o, rfl, hg, hc⟩ := h.at_ (by omega)
      obtain ⟨k, hk⟩ : ∃ k : Nat, k = (i + j) / 2 := ⟨_, rfl⟩
      have hk1 : k < n := by omega
      have hcell := hc k hk1
      have hw1 : IntKind.i64.wrap ((i : Int) + (j : Int)) = (i : Int) + (j : Int) := by rw [IntKind.wrap_i64]; omega
      have HK := Lib.hid hk
      have hq : ((i : Int) + (j : Int)) / 2 = (k : Int) := by omega
      have hki : i ≤ k ∧ k < j := by omega
      clear hc hk
      obtain ⟨x, hx⟩ : ∃ x, zl zs k = x := ⟨_, rfl⟩
      rw [hx] at hcell
      have HX := Lib.hid hx
      clear hx
      go_wp2_with fail
      refine (iless_any x s _).mono ?_
      rintro e w1 ⟨rfl, rfl⟩
      have hw2 : IntKind.i64.wrap ((k : Int) + 1) = (k : Int) + 1 := by rw [IntKind.wrap_i64]; omega
      by_cases hx2 : x < s
      · go_wp2_with fail
        go_round
        case rel =>
          refine ⟨k + 1, j, by omega, hjn, by simp, rfl, fun m hm => ?_, HHI.out⟩
          rcases Nat.lt_or_ge m k with hmk | hmk
          · have := HU.out.lt hmk (by rw [HL.out]; omega)
            have := HX.out
            omega
          · obtain rfl : m = k := by omega
            rw [HX.out]
            exact hx2
        case measure => simp [intOf]; omega
      · go_wp2_with fail
        go_round
        case rel =>
          refine ⟨i, k, by omega, by omega, rfl, rfl, HLO.out, fun m hm hmn => ?_⟩
          rcases Nat.lt_or_ge k m with hmk | hmk
          · have := HU.out.lt hmk (by rw [HL.out]; omega)
            have := HX.out
            omega
          · obtain rfl : m = k := by omega
            rw [HX.out]
            omega
        case measure => simp [intOf]; omega
    · obtain rfl : i = j := by omega
      by_cases hin : i < n
      · obtain ⟨g, o, rfl, hg, hc⟩ := h.at_ (by omega)
        have hcell := hc i hin
        obtain ⟨x, hx⟩ : ∃ x, zl zs i = x := ⟨_, rfl⟩
        rw [hx] at hcell
        have HX := Lib.hid hx
        clear hc hx
        by_cases hxs : x = s
        · subst hxs
          have hm : x ∈ zs := mem_zl.2 ⟨i, by rw [HL.out]; exact hin, HX.out⟩
          go_wp2
          go_ret2
          refine ⟨⟨(i : Int), ?_⟩, rfl⟩
          rw [← HRR.out, decide_eq_true hm]
          rfl
        · have hb : ((x : Int) == (s : Int)) = false := by simp; omega
          have hm : ¬ s ∈ zs := fun hs => by
            obtain ⟨j, hj, e⟩ := mem_zl.1 hs
            rcases Nat.lt_trichotomy j i with h1 | h1 | h1
            · have := HLO.out j h1; omega
            · subst h1; exact hxs (HX.out.symm.trans e)
            · have h2 := HU.out.lt h1 hj
              have h3 := HHI.out i (Nat.le_refl _) hin
              omega
          go_wp2_with fail
          refine (isnan_no x _).mono ?_
          rintro e w1 ⟨rfl, rfl⟩
          go_wp2
          go_ret2
          refine ⟨⟨(i : Int), ?_⟩, rfl⟩
          rw [← HRR.out, decide_eq_false hm]
          rfl
      · have hm : ¬ s ∈ zs := fun hs => by
          obtain ⟨j, hj, e⟩ := mem_zl.1 hs
          have := HLO.out j (by rw [HL.out] at hj; omega)
          omega
        go_wp2
        go_ret2
        refine ⟨⟨(i : Int), ?_⟩, rfl⟩
        rw [← HRR.out, decide_eq_false hm]
        rfl
theorem has_any (A : Option Addr) (n c : Nat) (zs : List Int) (most s : Int) (w : World) (h : Ri w A n c zs) (hup : Asc most zs) (hn100 : n ≤ 4611686018427387904) :
    Calls Tryz.prog 168 #[.slice A n c, .int .i64 s] w fun e w' => e = .returned (.bool (decide (s ∈ zs))) ∧ w = w' := by
  have hB := ibin_any A n c zs most s w h hup hn100
  generalize decide (s ∈ zs) = r at *
  go_enter Tryz.func168, Tryz.ntmps168
  go_wp2_with fail
  refine hB.mono ?_
  rintro e w1 ⟨⟨i, rfl⟩, rfl⟩
  go_wp2
  go_ret
  exact ⟨rfl, rfl⟩
set_option maxHeartbeats 800000 in
/-- A voter with a stake that picks it backs it. -/
theorem backs_any (v : Vr) (most s : Int) (w : World) (h : Ri w v.a v.n v.c v.ps) (hup : Asc most v.ps) (hm : v.n ≤ 4611686018427387904) :
    Calls Tryz.prog 141 #[v.val, .int .i64 s] w (OutF w (decide (0 < v.st ∧ s ∈ v.ps))) := by
  obtain ⟨vi, vst, va, vn, vc, vp⟩ := v
  unfold Vr.val
  dsimp only at h hup hm ⊢
  have hb : Below w.heap.size w (w.alloc (.cells #[.int .i64 vi, .int .u64 (vst : Int), .slice va vn vc] 43)) := (Below.refl _ _).alloc (Nat.le_refl _) _
  have hH := has_any va vn vc vp most s _ (h.below hb (Nat.le_refl _)) hup hm
  have HB := Lib.hid hb
  clear hb h
  by_cases h0 : 0 < vst
  · have h0' : (0 : Int) < (vst : Int) := by omega
    obtain ⟨r, hr⟩ : ∃ r, decide (s ∈ vp) = r := ⟨_, rfl⟩
    rw [show decide (0 < vst ∧ s ∈ vp) = r by rw [← hr]; simp [h0]]
    rw [hr] at hH
    clear hr
    go_enter Tryz.func141, Tryz.ntmps141
    go_wp2_with fail
    refine hH.mono ?_
    rintro e w1 ⟨rfl, rfl⟩
    go_wp2
    go_ret
    exact ⟨rfl, HB.out⟩
  · have h0' : ¬ (0 : Int) < (vst : Int) := by omega
    rw [show decide (0 < vst ∧ s ∈ vp) = false by simp [h0]]
    go_enter Tryz.func141, Tryz.ntmps141
    go_wp2
    go_ret
    exact ⟨rfl, HB.out⟩
/-- A place is answered, not negative just if it is there, and nothing is done. -/
def OutIx (w : World) (b : Bool) : Ending → World → Prop := fun e w' => (∃ i : Int, e = .returned (.int .i64 i) ∧ decide (0 ≤ i) = b) ∧ w = w'
set_option maxHeartbeats 800000 in
theorem iindex_any (A : Option Addr) (n c : Nat) (zs : List Int) (s : Int) (w : World) (h : Ri w A n c zs) :
    Calls Tryz.prog 160 #[.slice A n c, .int .i64 s] w (OutIx w (decide (s ∈ zs))) := by
  have HL := Lib.hid h.len
  have hcap := h.cap
  have hmax := h.max
  obtain ⟨r, hr⟩ : ∃ r, decide (s ∈ zs) = r := ⟨_, rfl⟩
  rw [hr]
  have HRR := Lib.hid hr
  clear hr
  go_enter Tryz.func160, Tryz.ntmps160
  go_wp2_with fail
  go_loopw [8] (fun tv wr => ∃ k : Nat, k ≤ n ∧ tv = .int .i64 (k : Int) ∧ wr = w ∧ ∀ j, j < k → zl zs j ≠ s) (fun tv _ => n - (intOf tv).toNat)
  case atStart => exact ⟨0, by omega, rfl, rfl, fun j hj => by omega⟩
  case round =>
    obtain ⟨k, hk, rfl, rfl, hno⟩ := hrel
    have HN := Lib.hid hno
    clear hno
    by_cases hlt : k < n
    · obtain ⟨b, o, rfl, hb, hc⟩ := h.at_ (by omega)
      have hcell := hc k hlt
      obtain ⟨x, hx⟩ : ∃ x, zl zs k = x := ⟨_, rfl⟩
      rw [hx] at hcell
      have HX := Lib.hid hx
      clear hx hc
      by_cases hxs : s = x
      · subst hxs
        have hm : s ∈ zs := mem_zl.2 ⟨k, by rw [HL.out]; exact hlt, HX.out⟩
        go_wp2
        go_ret
        exact ⟨⟨_, rfl, by rw [← HRR.out, decide_eq_true hm]; simp⟩, rfl⟩
      · have he : (s == x) = false := by simp; omega
        go_wp2
        go_roundw
        case rel => exact ⟨k + 1, by omega, by go_num, trivial, fun j hj => by
          rcases Nat.lt_or_ge j k with h1 | h1
          · exact HN.out j h1
          · obtain rfl : j = k := by omega
            rw [HX.out]; omega⟩
        case measure => simp [intOf]; omega
    · have hm : ¬ s ∈ zs := fun hs => by
        obtain ⟨j, hj, e⟩ := mem_zl.1 hs
        exact HN.out j (by rw [HL.out] at hj; omega) e
      go_wp2
      go_ret
      exact ⟨⟨_, rfl, by rw [← HRR.out, decide_eq_false hm]; simp⟩, rfl⟩
theorem contains_any (A : Option Addr) (n c : Nat) (zs : List Int) (s : Int) (w : World) (h : Ri w A n c zs) :
    Calls Tryz.prog 129 #[.slice A n c, .int .i64 s] w fun e w' => e = .returned (.bool (decide (s ∈ zs))) ∧ w = w' := by
  have hB := iindex_any A n c zs s w h
  obtain ⟨r, hr⟩ : ∃ r, decide (s ∈ zs) = r := ⟨_, rfl⟩
  rw [hr] at hB ⊢
  clear hr
  go_enter Tryz.func129, Tryz.ntmps129
  go_wp2_with fail
  refine hB.mono ?_
  rintro e w1 ⟨⟨i, rfl, hi⟩, rfl⟩
  have HI := Lib.hid hi
  clear hi
  go_wp2
  go_ret
  exact ⟨by rw [← HI.out]; rfl, rfl⟩
set_option maxHeartbeats 800000 in
theorem rhas_any (A : Option Addr) (n c : Nat) (zs : List Int) (s : Int) (w : World) (h : Ri w A n c zs) :
    Calls Tryz.prog 27 #[.slice A n c, .int .i64 s] w fun e w' => e = .returned (.bool (decide (s ∈ zs))) ∧ w = w' := by
  have HL := Lib.hid h.len
  have hcap := h.cap
  have hmax := h.max
  obtain ⟨r, hr⟩ : ∃ r, decide (s ∈ zs) = r := ⟨_, rfl⟩
  rw [hr]
  have HRR := Lib.hid hr
  clear hr
  go_enter Tryz.func27, Tryz.ntmps27
  go_wp2_with fail
  go_loopw [8] (fun tv wr => ∃ k : Nat, k ≤ n ∧ tv = .int .i64 (k : Int) ∧ wr = w ∧ ∀ j, j < k → zl zs j ≠ s) (fun tv _ => n - (intOf tv).toNat)
  case atStart => exact ⟨0, by omega, rfl, rfl, fun j hj => by omega⟩
  case round =>
    obtain ⟨k, hk, rfl, rfl, hno⟩ := hrel
    have HN := Lib.hid hno
    clear hno
    by_cases hlt : k < n
    · obtain ⟨b, o, rfl, hb, hc⟩ := h.at_ (by omega)
      have hcell := hc k hlt
      obtain ⟨x, hx⟩ : ∃ x, zl zs k = x := ⟨_, rfl⟩
      rw [hx] at hcell
      have HX := Lib.hid hx
      clear hx hc
      by_cases hxs : x = s
      · subst hxs
        have hm : x ∈ zs := mem_zl.2 ⟨k, by rw [HL.out]; exact hlt, HX.out⟩
        go_wp2
        go_ret
        exact ⟨by rw [← HRR.out, decide_eq_true hm]; rfl, rfl⟩
      · have he : (x == s) = false := by simp; omega
        go_wp2
        go_roundw
        case rel => exact ⟨k + 1, by omega, by go_num, trivial, fun j hj => by
          rcases Nat.lt_or_ge j k with h1 | h1
          · exact HN.out j h1
          · obtain rfl : j = k := by omega
            rw [HX.out]; omega⟩
        case measure => simp [intOf]; omega
    · have hm : ¬ s ∈ zs := fun hs => by
        obtain ⟨j, hj, e⟩ := mem_zl.1 hs
        exact HN.out j (by rw [HL.out] at hj; omega) e
      go_wp2
      go_ret
      exact ⟨by rw [← HRR.out, decide_eq_false hm]; rfl, rfl⟩
end Go.Proofs.YtehekjlakegkpaaGreat
end
section
namespace Go.Proofs.YtehekjlakegkpaaGreat
open Go.RowKit
set_option linter.unusedVariables false

/-- A voter approves what it picks, if it has a stake. -/
def apv (v : Vr) (x : Int) : Bool := decide (0 < v.st ∧ x ∈ v.ps)
/-- The numbers of those that approve it. -/
def apN (vs : List Vr) (x : Int) : List Nat := (vs.filter fun v => apv v x).map fun v => v.id.toNat
theorem apN_append (us vs : List Vr) (x : Int) : apN (us ++ vs) x = apN us x ++ apN vs x := by simp [apN]
theorem apN_one (v : Vr) (x : Int) : apN [v] x = if apv v x = true then [v.id.toNat] else [] := by
  unfold apN
  by_cases h : apv v x = true
  · rw [if_pos h]; simp [h]
  · rw [if_neg h]; simp [h]
theorem apN_len (vs : List Vr) (x : Int) : (apN vs x).length ≤ vs.length := by
  unfold apN; rw [List.length_map]; exact List.length_filter_le _ _
theorem apN_bl {vs : List Vr} {cs : List Int} (h : Fd vs cs) (x : Int) : Bl 9223372036854775808 (apN vs x) := fun y hy => by
  obtain ⟨v, hv, rfl⟩ := List.mem_map.1 hy
  have := h.2.2.2.2.1 v (List.mem_filter.1 hv).1
  omega
/-- What approvers are told. -/
def apM (vs : List Vr) (cs : List Int) (x : Int) : List Nat := if Fd vs cs ∧ x ∈ cs then apN vs x else []
/-- A list of naturals in new memory is answered, and what was there is as it was. -/
def OutN_ (w : World) (xs : List Nat) : Ending → World → Prop := fun e w' => ∃ A n c, e = .returned (.slice A n c) ∧ Owk .i64 3 w' w.heap.size A n c xs ∧ Below w.heap.size w w'

theorem Ri.small {w : World} {A : Option Addr} {n c : Nat} {zs : List Int} (h : Ri w A n c zs) {most : Int} (ha : Asc most zs) (hm : most ≤ 4611686018427387904) : n ≤ 4611686018427387904 := by
  have := ha.1
  have := h.len
  omega
set_option maxHeartbeats 3200000 in
theorem approvers_any (s : Sn) (x : Int) (w : World) (h : s.In w) : Calls Tryz.prog 142 #[s.val, .int .i64 x] w (OutN_ w (apM s.vs s.cs x)) := by
  obtain ⟨A, n, c, B, m, d, vs, cs⟩ := s
  have hb1 : Below w.heap.size w (w.alloc (.cells #[.slice A n c, .slice B m d] 25)) := (Below.refl _ _).alloc (Nat.le_refl _) _
  have hk1 := KB.new w 25 #[.slice A n c, .slice B m d]
  have hF := formedG_any ⟨A, n, c, B, m, d, vs, cs⟩ _ (h.below hb1 (Nat.le_refl _))
  obtain ⟨hv, hc⟩ := h
  unfold Sn.val at hF ⊢
  dsimp only at hv hc hF ⊢
  have HL := Lib.hid hv.len
  have HV := Lib.hid hv
  have HC := Lib.hid hc
  have hcap := hv.cap
  have hmax := hv.max
  have HB1 := Lib.hid hb1
  have HK1 := Lib.hid hk1
  clear hv hc hb1 hk1
  by_cases hfd : Fd vs cs
  · rw [decide_eq_true hfd] at hF
    have h32 : n ≤ 32 := by have := hfd.1; have := HL.out; omega
    go_enter Tryz.func142, Tryz.ntmps142
    go_wp2_with fail
    refine hF.mono ?_
    rintro e w2 ⟨rfl, hb2⟩
    have hB2 := HB1.out.trans (hb2.mono HB1.out.size)
    have hK2 := HK1.out.below hb2 HK1.out.lt
    have hH := has_any B m d cs 32 x w2 (HC.out.below hB2 (Nat.le_refl _)) hfd.2.1 (HC.out.small hfd.2.1 (by omega))
    have x0 := hK2.cell 0
    have x1 := hK2.cell 1
    simp at x0 x1
    have HB2 := Lib.hid hB2
    clear hb2 hB2 hK2 HK1 HB1 hF
    by_cases hx : x ∈ cs
    · rw [decide_eq_true hx] at hH
      have HM := Lib.hid (show apM vs cs x = apN vs x from if_pos ⟨hfd, hx⟩)
      go_wp2_with fail
      refine hH.mono ?_
      rintro e w3 ⟨rfl, rfl⟩
      go_wp2_with fail
      clear x0 x1
      go_loopw [5, 21] (fun lv tv wr => ∃ (k m' c' : Nat) (A' : Option Addr), k ≤ n ∧ m' ≤ k ∧ tv = .int .i64 (k : Int) ∧ lv = .slice A' m' c' ∧ Owk .i64 3 wr w.heap.size A' m' c' (apN (vs.take k) x) ∧ Below w.heap.size w wr) (fun _ tv _ => n - (intOf tv).toNat)
      case atStart => exact ⟨0, 0, 0, none, by omega, by omega, rfl, rfl, Owk.nil _ _ _ _, HB2.out⟩
      case round =>
        obtain ⟨k, m', c', A', hk, hmk, rfl, rfl, hO, hb⟩ := hrel
        clear HB2 hH
        by_cases hlt : k < n
        · obtain ⟨b, o, v, rfl, hbb, hve, ok, ri, c0, c1, c2⟩ := HV.out.at_ hlt
          have d0 := (hb.cell (p := ⟨b, o + k * 3, none⟩) hbb).trans c0
          have d1 := (hb.cell (p := ⟨b, o + k * 3 + 1, none⟩) hbb).trans c1
          have d2 := (hb.cell (p := ⟨b, o + k * 3 + 2, none⟩) hbb).trans c2
          have hri := ri.below hb (Nat.le_refl _)
          have hup := hfd.2.2.1 v (List.mem_of_getElem? hve)
          have hid := hfd.2.2.2.2.1 v (List.mem_of_getElem? hve)
          have hT : apN (vs.take (k + 1)) x = apN (vs.take k) x ++ if apv v x = true then [v.id.toNat] else [] := by
            rw [List.take_add_one, hve, apN_append, ← apN_one]; rfl
          have hv8 : v.n ≤ 4611686018427387904 := ri.small hup (by omega)
          clear c0 c1 c2 hve ok ri
          have hb7' : Below wr.heap.size wr (wr.alloc (.cells #[.int .i64 v.id, .int .u64 (v.st : Int), .slice v.a v.n v.c] 43)) := (Below.refl _ _).alloc (Nat.le_refl _) _
          have hK7 := KB.new wr 43 #[.int .i64 v.id, .int .u64 (v.st : Int), .slice v.a v.n v.c]
          have hBk := backs_any v 8 x _ (hri.below hb7' (Nat.le_refl _)) hup hv8
          rw [show decide (0 < v.st ∧ x ∈ v.ps) = apv v x from rfl] at hBk
          unfold Vr.val at hBk
          have hO7 := hO.below hb7'
          have HB7 := Lib.hid (hb.trans (hb7'.mono hb.size))
          have hz7 := hb.size
          obtain ⟨vi, vst, va, vn, vc, vp⟩ := v
          dsimp only at d0 d1 d2 hid hT hBk HB7 hK7 hO7 hb7'
          obtain ⟨N, rfl⟩ := Int.eq_ofNat_of_zero_le hid.1
          rw [Int.toNat_natCast] at hT
          have HT := Lib.hid hT
          clear hb7' hri hup hb hT
          generalize apv ⟨(N : Int), vst, va, vn, vc, vp⟩ x = r at *
          go_upto_region 7 with (fail)
          generalize (wr.alloc (.cells #[.int .i64 (N : Int), .int .u64 (vst : Int), .slice va vn vc] 43)) = w7 at *
          have y0 := hK7.cell 0
          have y1 := hK7.cell 1
          have y2 := hK7.cell 2
          simp at y0 y1 y2
          clear d0 d1 d2
          go_wp2_with fail
          refine hBk.mono ?_
          rintro e w8 ⟨rfl, hb8⟩
          have hB8 := HB7.out.trans (hb8.mono HB7.out.size)
          have hO8 := hO7.below hb8
          have z0 := (hK7.below hb8 hK7.lt).cell 0
          have hs8 := hB8.size
          simp at z0
          have HB8 := Lib.hid hB8
          clear hb8 hO7 hO hK7 y0 y1 y2 HB7 hBk hB8
          cases r with
          | false =>
            go_wp2
            go_roundw
            case rel => exact ⟨k + 1, m', c', A', by omega, by omega, by go_num, rfl, by rw [HT.out, if_neg (by simp), List.append_nil]; exact hO8, HB8.out⟩
            case measure => simp [intOf]; omega
          | true =>
            go_wp2_with (at_builtin; refine wpList_appk _ .i64 3 8 rfl (.tmp 28) (.tmp 31) 23 rfl w.heap.size Tryz.underlying23 infoI' _ _ _ _ 1 1 (apN (vs.take k) x) [N] rfl rfl (hO8.alloc _) (rk_one _ _ _ _ _ (by omega)) (by unfold maxLen; omega) (by omega) (by simp; omega) ?_; intro A1 c1 w1 hO1 hb1)
            go_roundw
            case rel => exact ⟨k + 1, m' + 1, c1, A1, by omega, by omega, by go_num, rfl, by rw [HT.out]; simpa using hO1, (HB8.out.alloc HB8.out.size _).trans hb1⟩
            case measure => simp [intOf]; omega
        · obtain rfl : k = n := by omega
          have hl : apN (vs.take k) x = apM vs cs x := by rw [HM.out, List.take_of_length_le (by rw [HL.out]; exact Nat.le_refl _)]
          rw [hl] at hO
          go_wp2
          go_ret
          exact ⟨_, _, _, rfl, hO, hb⟩
    · rw [decide_eq_false hx] at hH
      have HE := Lib.hid (show apM vs cs x = [] from if_neg fun hh => hx hh.2)
      go_wp2_with fail
      refine hH.mono ?_
      rintro e w3 ⟨rfl, rfl⟩
      go_wp2
      go_ret
      exact ⟨_, _, _, rfl, by rw [HE.out]; exact Owk.nil _ _ _ _, HB2.out⟩
  · rw [decide_eq_false hfd] at hF
    rw [show apM vs cs x = [] from if_neg fun hh => hfd hh.1]
    go_enter Tryz.func142, Tryz.ntmps142
    go_wp2_with fail
    refine hF.mono ?_
    rintro e w2 ⟨rfl, hb2⟩
    go_wp2
    go_ret
    exact ⟨_, _, _, rfl, Owk.nil _ _ _ _, HB1.out.trans (hb2.mono HB1.out.size)⟩
theorem apM_bl (vs : List Vr) (cs : List Int) (x : Int) : Bl 9223372036854775808 (apM vs cs x) := by
  unfold apM
  split
  · rename_i h; exact apN_bl h.1 x
  · exact Bl_nil _
theorem approves_any (s : Sn) (i x : Int) (w : World) (h : s.In w) : Calls Tryz.prog 89 #[s.val, .int .i64 i, .int .i64 x] w (OutF w (decide (i ∈ ints (apM s.vs s.cs x)))) := by
  obtain ⟨A, n, c, B, m, d, vs, cs⟩ := s
  have hb1 : Below w.heap.size w (w.alloc (.cells #[.slice A n c, .slice B m d] 25)) := (Below.refl _ _).alloc (Nat.le_refl _) _
  have hA := approvers_any ⟨A, n, c, B, m, d, vs, cs⟩ x _ (h.below hb1 (Nat.le_refl _))
  have HX := Lib.hid (apM_bl vs cs x)
  unfold Sn.val at hA ⊢
  dsimp only at hA ⊢
  generalize apM vs cs x = xs at *
  have HB1 := Lib.hid hb1
  clear hb1 h
  go_enter Tryz.func89, Tryz.ntmps89
  go_wp2_with fail
  refine hA.mono ?_
  rintro e w2 ⟨A2, n2, c2, rfl, hO, hb2⟩
  have hC := contains_any A2 n2 c2 (ints xs) i w2 (ri_of_rk hO.rk HX.out)
  have HB2 := Lib.hid (HB1.out.trans (hb2.mono HB1.out.size))
  generalize decide (i ∈ ints xs) = r at *
  clear hO hb2
  go_wp2_with fail
  refine hC.mono ?_
  rintro e w3 ⟨rfl, rfl⟩
  go_wp2
  go_ret
  exact ⟨rfl, HB2.out⟩
end Go.Proofs.YtehekjlakegkpaaGreat
end
