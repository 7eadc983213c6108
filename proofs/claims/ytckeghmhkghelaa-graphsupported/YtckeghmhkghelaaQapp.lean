/-
  graph.Approvers and graph.Approves: the numbers of those that approve a candidate. For every snapshot that can be read.
-/
import Derived.Test.YtckeghmhkghelaaQform
import Derived.Test.YtckeghmhkghelaaQhas
namespace Go.Proofs.Ytckeghmhkghelaa
open Go.RowKit
set_option linter.unusedVariables false

/-- A voter approves what it picks, if it has a stake. -/
def apv (v : Vr) (x : Int) : Bool := decide (0 < v.st ∧ x ∈ v.ps)
/-- The numbers of those that approve it. -/
def apN (vs : List Vr) (x : Int) : List Nat := (vs.filter fun v => apv v x).map fun v => v.id.toNat
theorem apN_append (us vs : List Vr) (x : Int) : apN (us ++ vs) x = apN us x ++ apN vs x := by simp [apN]
theorem apN_one (v : Vr) (x : Int) : apN [v] x = if apv v x = true then [v.id.toNat] else [] := by
  unfold apN
  by_cases h : apv v x = true
  · rw [if_pos h]; simp [h]
  · rw [if_neg h]; simp [h]
theorem apN_len (vs : List Vr) (x : Int) : (apN vs x).length ≤ vs.length := by
  unfold apN; rw [List.length_map]; exact List.length_filter_le _ _
theorem apN_bl {vs : List Vr} {cs : List Int} (h : Fd vs cs) (x : Int) : Bl 9223372036854775808 (apN vs x) := fun y hy => by
  obtain ⟨v, hv, rfl⟩ := List.mem_map.1 hy
  have := h.2.2.2.2.1 v (List.mem_filter.1 hv).1
  omega
/-- What approvers are told. -/
def apM (vs : List Vr) (cs : List Int) (x : Int) : List Nat := if Fd vs cs ∧ x ∈ cs then apN vs x else []
/-- A list of naturals in new memory is answered, and what was there is as it was. -/
def OutN_ (w : World) (xs : List Nat) : Ending → World → Prop := fun e w' => ∃ A n c, e = .returned (.slice A n c) ∧ Owk .i64 3 w' w.heap.size A n c xs ∧ Below w.heap.size w w'

theorem Ri.small {w : World} {A : Option Addr} {n c : Nat} {zs : List Int} (h : Ri w A n c zs) {most : Int} (ha : Asc most zs) (hm : most ≤ 4611686018427387904) : n ≤ 4611686018427387904 := by
  have := ha.1
  have := h.len
  omega
set_option maxHeartbeats 3200000 in
theorem approvers_any (s : Sn) (x : Int) (w : World) (h : s.In w) : Calls Try.prog 10 #[s.val, .int .i64 x] w (OutN_ w (apM s.vs s.cs x)) := by
  obtain ⟨A, n, c, B, m, d, vs, cs⟩ := s
  have hb1 : Below w.heap.size w (w.alloc (.cells #[.slice A n c, .slice B m d] 25)) := (Below.refl _ _).alloc (Nat.le_refl _) _
  have hk1 := KB.new w 25 #[.slice A n c, .slice B m d]
  have hF := formedG_any ⟨A, n, c, B, m, d, vs, cs⟩ _ (h.below hb1 (Nat.le_refl _))
  obtain ⟨hv, hc⟩ := h
  unfold Sn.val at hF ⊢
  dsimp only at hv hc hF ⊢
  have HL := Lib.hid hv.len
  have HV := Lib.hid hv
  have HC := Lib.hid hc
  have hcap := hv.cap
  have hmax := hv.max
  have HB1 := Lib.hid hb1
  have HK1 := Lib.hid hk1
  clear hv hc hb1 hk1
  by_cases hfd : Fd vs cs
  · rw [decide_eq_true hfd] at hF
    have h32 : n ≤ 32 := by have := hfd.1; have := HL.out; omega
    go_enter Try.func10, Try.ntmps10
    go_wp2_with fail
    refine hF.mono ?_
    rintro e w2 ⟨rfl, hb2⟩
    have hB2 := HB1.out.trans (hb2.mono HB1.out.size)
    have hK2 := HK1.out.below hb2 HK1.out.lt
    have hH := has_any B m d cs 32 x w2 (HC.out.below hB2 (Nat.le_refl _)) hfd.2.1 (HC.out.small hfd.2.1 (by omega))
    have x0 := hK2.cell 0
    have x1 := hK2.cell 1
    simp at x0 x1
    have HB2 := Lib.hid hB2
    clear hb2 hB2 hK2 HK1 HB1 hF
    by_cases hx : x ∈ cs
    · rw [decide_eq_true hx] at hH
      have HM := Lib.hid (show apM vs cs x = apN vs x from if_pos ⟨hfd, hx⟩)
      go_wp2_with fail
      refine hH.mono ?_
      rintro e w3 ⟨rfl, rfl⟩
      go_wp2_with fail
      clear x0 x1
      go_loopw [5, 21] (fun lv tv wr => ∃ (k m' c' : Nat) (A' : Option Addr), k ≤ n ∧ m' ≤ k ∧ tv = .int .i64 (k : Int) ∧ lv = .slice A' m' c' ∧ Owk .i64 3 wr w.heap.size A' m' c' (apN (vs.take k) x) ∧ Below w.heap.size w wr) (fun _ tv _ => n - (intOf tv).toNat)
      case atStart => exact ⟨0, 0, 0, none, by omega, by omega, rfl, rfl, Owk.nil _ _ _ _, HB2.out⟩
      case round =>
        obtain ⟨k, m', c', A', hk, hmk, rfl, rfl, hO, hb⟩ := hrel
        clear HB2 hH
        by_cases hlt : k < n
        · obtain ⟨b, o, v, rfl, hbb, hve, ok, ri, c0, c1, c2⟩ := HV.out.at_ hlt
          have d0 := (hb.cell (p := ⟨b, o + k * 3, none⟩) hbb).trans c0
          have d1 := (hb.cell (p := ⟨b, o + k * 3 + 1, none⟩) hbb).trans c1
          have d2 := (hb.cell (p := ⟨b, o + k * 3 + 2, none⟩) hbb).trans c2
          have hri := ri.below hb (Nat.le_refl _)
          have hup := hfd.2.2.1 v (List.mem_of_getElem? hve)
          have hid := hfd.2.2.2.2.1 v (List.mem_of_getElem? hve)
          have hT : apN (vs.take (k + 1)) x = apN (vs.take k) x ++ if apv v x = true then [v.id.toNat] else [] := by
            rw [List.take_add_one, hve, apN_append, ← apN_one]; rfl
          have hv8 : v.n ≤ 4611686018427387904 := ri.small hup (by omega)
          clear c0 c1 c2 hve ok ri
          have hb7' : Below wr.heap.size wr (wr.alloc (.cells #[.int .i64 v.id, .int .u64 (v.st : Int), .slice v.a v.n v.c] 31)) := (Below.refl _ _).alloc (Nat.le_refl _) _
          have hK7 := KB.new wr 31 #[.int .i64 v.id, .int .u64 (v.st : Int), .slice v.a v.n v.c]
          have hBk := backs_any v 8 x _ (hri.below hb7' (Nat.le_refl _)) hup hv8
          rw [show decide (0 < v.st ∧ x ∈ v.ps) = apv v x from rfl] at hBk
          unfold Vr.val at hBk
          have hO7 := hO.below hb7'
          have HB7 := Lib.hid (hb.trans (hb7'.mono hb.size))
          have hz7 := hb.size
          obtain ⟨vi, vst, va, vn, vc, vp⟩ := v
          dsimp only at d0 d1 d2 hid hT hBk HB7 hK7 hO7 hb7'
          obtain ⟨N, rfl⟩ := Int.eq_ofNat_of_zero_le hid.1
          rw [Int.toNat_natCast] at hT
          have HT := Lib.hid hT
          clear hb7' hri hup hb hT
          generalize apv ⟨(N : Int), vst, va, vn, vc, vp⟩ x = r at *
          go_upto_region 7 with (fail)
          generalize (wr.alloc (.cells #[.int .i64 (N : Int), .int .u64 (vst : Int), .slice va vn vc] 31)) = w7 at *
          have y0 := hK7.cell 0
          have y1 := hK7.cell 1
          have y2 := hK7.cell 2
          simp at y0 y1 y2
          clear d0 d1 d2
          go_wp2_with fail
          refine hBk.mono ?_
          rintro e w8 ⟨rfl, hb8⟩
          have hB8 := HB7.out.trans (hb8.mono HB7.out.size)
          have hO8 := hO7.below hb8
          have z0 := (hK7.below hb8 hK7.lt).cell 0
          have hs8 := hB8.size
          simp at z0
          have HB8 := Lib.hid hB8
          clear hb8 hO7 hO hK7 y0 y1 y2 HB7 hBk hB8
          cases r with
          | false =>
            go_wp2
            go_roundw
            case rel => exact ⟨k + 1, m', c', A', by omega, by omega, by go_num, rfl, by rw [HT.out, if_neg (by simp), List.append_nil]; exact hO8, HB8.out⟩
            case measure => simp [intOf]; omega
          | true =>
            go_wp2_with (at_builtin; refine wpList_appk _ .i64 3 8 rfl (.tmp 28) (.tmp 31) 23 rfl w.heap.size Try.underlying23 infoI' _ _ _ _ 1 1 (apN (vs.take k) x) [N] rfl rfl (hO8.alloc _) (rk_one _ _ _ _ _ (by omega)) (by unfold maxLen; omega) (by omega) (by simp; omega) ?_; intro A1 c1 w1 hO1 hb1)
            go_roundw
            case rel => exact ⟨k + 1, m' + 1, c1, A1, by omega, by omega, by go_num, rfl, by rw [HT.out]; simpa using hO1, (HB8.out.alloc HB8.out.size _).trans hb1⟩
            case measure => simp [intOf]; omega
        · obtain rfl : k = n := by omega
          have hl : apN (vs.take k) x = apM vs cs x := by rw [HM.out, List.take_of_length_le (by rw [HL.out]; exact Nat.le_refl _)]
          rw [hl] at hO
          go_wp2
          go_ret
          exact ⟨_, _, _, rfl, hO, hb⟩
    · rw [decide_eq_false hx] at hH
      have HE := Lib.hid (show apM vs cs x = [] from if_neg fun hh => hx hh.2)
      go_wp2_with fail
      refine hH.mono ?_
      rintro e w3 ⟨rfl, rfl⟩
      go_wp2
      go_ret
      exact ⟨_, _, _, rfl, by rw [HE.out]; exact Owk.nil _ _ _ _, HB2.out⟩
  · rw [decide_eq_false hfd] at hF
    rw [show apM vs cs x = [] from if_neg fun hh => hfd hh.1]
    go_enter Try.func10, Try.ntmps10
    go_wp2_with fail
    refine hF.mono ?_
    rintro e w2 ⟨rfl, hb2⟩
    go_wp2
    go_ret
    exact ⟨_, _, _, rfl, Owk.nil _ _ _ _, HB1.out.trans (hb2.mono HB1.out.size)⟩
theorem apM_bl (vs : List Vr) (cs : List Int) (x : Int) : Bl 9223372036854775808 (apM vs cs x) := by
  unfold apM
  split
  · rename_i h; exact apN_bl h.1 x
  · exact Bl_nil _
theorem approves_any (s : Sn) (i x : Int) (w : World) (h : s.In w) : Calls Try.prog 8 #[s.val, .int .i64 i, .int .i64 x] w (OutF w (decide (i ∈ ints (apM s.vs s.cs x)))) := by
  obtain ⟨A, n, c, B, m, d, vs, cs⟩ := s
  have hb1 : Below w.heap.size w (w.alloc (.cells #[.slice A n c, .slice B m d] 25)) := (Below.refl _ _).alloc (Nat.le_refl _) _
  have hA := approvers_any ⟨A, n, c, B, m, d, vs, cs⟩ x _ (h.below hb1 (Nat.le_refl _))
  have HX := Lib.hid (apM_bl vs cs x)
  unfold Sn.val at hA ⊢
  dsimp only at hA ⊢
  generalize apM vs cs x = xs at *
  have HB1 := Lib.hid hb1
  clear hb1 h
  go_enter Try.func8, Try.ntmps8
  go_wp2_with fail
  refine hA.mono ?_
  rintro e w2 ⟨A2, n2, c2, rfl, hO, hb2⟩
  have hC := contains_any A2 n2 c2 (ints xs) i w2 (ri_of_rk hO.rk HX.out)
  have HB2 := Lib.hid (HB1.out.trans (hb2.mono HB1.out.size))
  generalize decide (i ∈ ints xs) = r at *
  clear hO hb2
  go_wp2_with fail
  refine hC.mono ?_
  rintro e w3 ⟨rfl, rfl⟩
  go_wp2
  go_ret
  exact ⟨rfl, HB2.out⟩
end Go.Proofs.Ytckeghmhkghelaa
