/-
  graph.Supported: the candidates that a voter approves; Seats and Total. For every snapshot that can be read.
-/
import Derived.Test.YtckeghmhkghelaaQapp
namespace Go.Proofs.Ytckeghmhkghelaa
open Go.RowKit
set_option linter.unusedVariables false

theorem supf_any (b : Nat) (v : Vr) (x : Int) (w : World) (h : Ri w v.a v.n v.c v.ps) (hup : Asc 8 v.ps) (hx : w.cell? ⟨b, 0, none⟩ = some (.int .i64 x)) (hb : b < w.heap.size) :
    Calls Try.prog 18 #[v.val, .pointer (some ⟨b, 0, none⟩)] w (OutF w (apv v x)) := by
  have hb1 : Below w.heap.size w (w.alloc (.cells #[.int .i64 v.id, .int .u64 (v.st : Int), .slice v.a v.n v.c] 31)) := (Below.refl _ _).alloc (Nat.le_refl _) _
  have hB := backs_any v 8 x _ (h.below hb1 (Nat.le_refl _)) hup (h.small hup (by omega))
  have hx1 := (hb1.cell (p := ⟨b, 0, none⟩) hb).trans hx
  rw [show decide (0 < v.st ∧ x ∈ v.ps) = apv v x from rfl] at hB
  generalize apv v x = r at *
  obtain ⟨vi, vst, va, vn, vc, vp⟩ := v
  unfold Vr.val at hB ⊢
  dsimp only at hB hb1 hx1 ⊢
  have HB1 := Lib.hid hb1
  clear hb1 h hx
  go_enter Try.func18, Try.ntmps18
  go_wp2_with fail
  refine hB.mono ?_
  rintro e w2 ⟨rfl, hb2⟩
  go_wp2
  go_ret
  exact ⟨rfl, HB1.out.trans (hb2.mono HB1.out.size)⟩

/-- A place is answered, not negative just if there is one. -/
def OutIb (w : World) (b : Bool) : Ending → World → Prop := fun e w' => (∃ i : Int, e = .returned (.int .i64 i) ∧ decide (0 ≤ i) = b) ∧ Below w.heap.size w w'
set_option maxHeartbeats 1600000 in
theorem ixf_any (A : Option Addr) (n c b : Nat) (vs : List Vr) (x : Int) (w : World) (h : Rv w A n c vs) (hup : ∀ v ∈ vs, Asc 8 v.ps) (hx : w.cell? ⟨b, 0, none⟩ = some (.int .i64 x)) (hb : b < w.heap.size) :
    Calls Try.prog 24 #[.slice A n c, .func (.func 18) #[] #[.pointer (some ⟨b, 0, none⟩)]] w (OutIb w (vs.any fun v => apv v x)) := by
  have HV := Lib.hid h
  have HL := Lib.hid h.len
  have HU := Lib.hid hup
  have hcap := h.cap
  have hmax := h.max
  obtain ⟨r, hr⟩ : ∃ r, (vs.any fun v => apv v x) = r := ⟨_, rfl⟩
  rw [hr]
  have HRR := Lib.hid hr
  have HX := Lib.hid hx
  clear h hup hr hx
  go_enter Try.func24, Try.ntmps24
  go_wp2_with fail
  go_loopw [8] (fun tv wr => ∃ (k : Nat), k ≤ n ∧ tv = .int .i64 (k : Int) ∧ (∀ v ∈ vs.take k, apv v x = false) ∧ Below w.heap.size w wr) (fun tv _ => n - (intOf tv).toNat)
  case atStart => exact ⟨0, by omega, rfl, fun v hv => by simp at hv, Below.refl _ _⟩
  case round =>
    obtain ⟨k, hk, rfl, hno, hbw⟩ := hrel
    have HN := Lib.hid hno
    have HB := Lib.hid hbw
    clear hno
    by_cases hlt : k < n
    · obtain ⟨b', o, v, rfl, hbb, hve, ok, ri, c0, c1, c2⟩ := HV.out.at_ hlt
      have d0 := (hbw.cell (p := ⟨b', o + k * 3, none⟩) hbb).trans c0
      have d1 := (hbw.cell (p := ⟨b', o + k * 3 + 1, none⟩) hbb).trans c1
      have d2 := (hbw.cell (p := ⟨b', o + k * 3 + 2, none⟩) hbb).trans c2
      have hF := supf_any b v x wr (ri.below hbw (Nat.le_refl _)) (HU.out v (List.mem_of_getElem? hve)) ((hbw.cell (p := ⟨b, 0, none⟩) hb).trans HX.out) (Nat.lt_of_lt_of_le hb hbw.size)
      have HS := Lib.hid hve
      have HA := Lib.hid (show apv v x = apv v x from rfl)
      clear c0 c1 c2 hve ok ri hbw
      unfold Vr.val at hF
      obtain ⟨q, hq⟩ : ∃ q, apv v x = q := ⟨_, rfl⟩
      rw [hq] at hF
      have HQ := Lib.hid hq
      clear hq HA
      cases q with
      | false =>
        go_wp2_with fail
        refine hF.mono ?_
        rintro e w2 ⟨rfl, hb2⟩
        go_wp2
        go_roundw
        case rel => exact ⟨k + 1, by omega, by go_num, fun u hu => by
          rw [List.take_add_one, HS.out] at hu
          rcases List.mem_append.1 hu with hu | hu
          · exact HN.out u hu
          · simp at hu; subst hu; exact HQ.out, HB.out.trans (hb2.mono HB.out.size)⟩
        case measure => simp [intOf]; omega
      | true =>
        have hT : (vs.any fun v => apv v x) = true := List.any_eq_true.2 ⟨v, List.mem_of_getElem? HS.out, HQ.out⟩
        have HT := Lib.hid hT
        clear hT
        go_wp2_with fail
        refine hF.mono ?_
        rintro e w2 ⟨rfl, hb2⟩
        go_wp2
        go_ret
        exact ⟨⟨_, rfl, by rw [← HRR.out, HT.out]; simp⟩, HB.out.trans (hb2.mono HB.out.size)⟩
    · have hT : (vs.any fun v => apv v x) = false := by
        rw [List.any_eq_false]
        intro v hv
        rw [HN.out v (by rw [List.take_of_length_le (by rw [HL.out]; omega)]; exact hv)]
        simp
      have HT := Lib.hid hT
      clear hT
      go_wp2
      go_ret
      exact ⟨⟨_, rfl, by rw [← HRR.out, HT.out]; simp⟩, HB.out⟩
theorem conf_any (A : Option Addr) (n c b : Nat) (vs : List Vr) (x : Int) (w : World) (h : Rv w A n c vs) (hup : ∀ v ∈ vs, Asc 8 v.ps) (hx : w.cell? ⟨b, 0, none⟩ = some (.int .i64 x)) (hb : b < w.heap.size) :
    Calls Try.prog 17 #[.slice A n c, .func (.func 18) #[] #[.pointer (some ⟨b, 0, none⟩)]] w (OutF w (vs.any fun v => apv v x)) := by
  have hI := ixf_any A n c b vs x w h hup hx hb
  generalize (vs.any fun v => apv v x) = r at *
  clear h hx
  go_enter Try.func17, Try.ntmps17
  go_wp2_with fail
  refine hI.mono ?_
  rintro e w1 ⟨⟨i, rfl, hi⟩, hb1⟩
  have HI := Lib.hid hi
  clear hi
  go_wp2
  go_ret
  exact ⟨by rw [← HI.out]; rfl, hb1⟩

theorem Owk.low {k : IntKind} {T : TypeId} {w : World} {base lo n c : Nat} {A : Option Addr} {xs : List Nat} (h : Owk k T w base A n c xs) (hl : lo ≤ base) : Owk k T w lo A n c xs :=
  ⟨h.1, by
    rcases h.2 with h0 | ⟨g, cap, cur, hv, hbg, hr⟩
    · exact .inl h0
    · exact .inr ⟨g, cap, cur, hv, Nat.le_trans hl hbg, hr⟩⟩
/-- The candidates that a voter approves. -/
def supN (vs : List Vr) (cs : List Int) : List Nat := (cs.filter fun x => vs.any fun v => apv v x).map Int.toNat
theorem supN_append (vs : List Vr) (cs ds : List Int) : supN vs (cs ++ ds) = supN vs cs ++ supN vs ds := by simp [supN]
theorem supN_one (vs : List Vr) (x : Int) : supN vs [x] = if (vs.any fun v => apv v x) = true then [x.toNat] else [] := by
  unfold supN
  by_cases h : (vs.any fun v => apv v x) = true
  · rw [if_pos h]; simp [h]
  · rw [if_neg h]; simp [h]
theorem supN_len (vs : List Vr) (cs : List Int) : (supN vs cs).length ≤ cs.length := by
  unfold supN; rw [List.length_map]; exact List.length_filter_le _ _
def supM (vs : List Vr) (cs : List Int) : List Nat := if Fd vs cs then supN vs cs else []
theorem supM_bl (vs : List Vr) (cs : List Int) : Bl 9223372036854775808 (supM vs cs) := by
  unfold supM
  split
  · rename_i h
    intro y hy
    obtain ⟨x, hx, rfl⟩ := List.mem_map.1 hy
    obtain ⟨j, hj, rfl⟩ := mem_zl.1 (List.mem_filter.1 hx).1
    have := h.2.1.le j hj
    omega
  · exact Bl_nil _
theorem supM_len (vs : List Vr) (cs : List Int) : (supM vs cs).length ≤ 32 := by
  unfold supM
  split
  · rename_i h
    have := supN_len vs cs
    have := h.2.1.1
    omega
  · simp

set_option maxHeartbeats 3200000 in
theorem supported_any (s : Sn) (w : World) (h : s.In w) : Calls Try.prog 7 #[s.val] w (OutN_ w (supM s.vs s.cs)) := by
  obtain ⟨A, n, c, B, m, d, vs, cs⟩ := s
  have hb1 : Below w.heap.size w (w.alloc (.cells #[.slice A n c, .slice B m d] 25)) := (Below.refl _ _).alloc (Nat.le_refl _) _
  have hk1 := KB.new w 25 #[.slice A n c, .slice B m d]
  have hF := formedG_any ⟨A, n, c, B, m, d, vs, cs⟩ _ (h.below hb1 (Nat.le_refl _))
  obtain ⟨hv, hc⟩ := h
  unfold Sn.val at hF ⊢
  dsimp only at hv hc hF ⊢
  have HL := Lib.hid hc.len
  have HV := Lib.hid hv
  have HC := Lib.hid hc
  have hcap := hv.cap
  have hmax := hv.max
  have hcap2 := hc.cap
  have hmax2 := hc.max
  have HB1 := Lib.hid hb1
  have HK1 := Lib.hid hk1
  clear hv hc hb1 hk1
  by_cases hfd : Fd vs cs
  · rw [decide_eq_true hfd] at hF
    have h32 : m ≤ 32 := by have := hfd.2.1.1; have := HL.out; omega
    have HM := Lib.hid (show supM vs cs = supN vs cs from if_pos hfd)
    go_enter Try.func7, Try.ntmps7
    go_wp2_with fail
    refine hF.mono ?_
    rintro e w2 ⟨rfl, hb2⟩
    have hB2 := HB1.out.trans (hb2.mono HB1.out.size)
    have hK2 := HK1.out.below hb2 HK1.out.lt
    have x0 := hK2.cell 0
    have x1 := hK2.cell 1
    simp at x0 x1
    have HB2 := Lib.hid hB2
    have HK2 := Lib.hid hK2
    clear hb2 hB2 hK2 HK1 HB1 hF
    go_wp2_with fail
    clear x0 x1
    go_loopw [3, 12] (fun lv tv wr => ∃ (k m' c' : Nat) (A' : Option Addr), k ≤ m ∧ m' ≤ k ∧ tv = .int .i64 (k : Int) ∧ lv = .slice A' m' c' ∧ Owk .i64 3 wr (w.heap.size + 1) A' m' c' (supN vs (cs.take k)) ∧ KB wr w.heap.size 25 #[.slice A n c, .slice B m d] ∧ Below w.heap.size w wr) (fun _ tv _ => m - (intOf tv).toNat)
    case atStart => exact ⟨0, 0, 0, none, by omega, by omega, rfl, rfl, Owk.nil _ _ _ _, HK2.out, HB2.out⟩
    case round =>
      obtain ⟨k, m', c', A', hk, hmk, rfl, rfl, hO, hkb, hb⟩ := hrel
      clear HB2 HK2
      by_cases hlt : k < m
      · obtain ⟨b, o, rfl, hbb, hcc⟩ := HC.out.at_ (by omega)
        have d0 := (hb.cell (p := ⟨b, o + k, none⟩) hbb).trans (hcc k hlt)
        have hge := hfd.2.1.ge k (by rw [HL.out]; exact hlt)
        have hle := hfd.2.1.le k (by rw [HL.out]; exact hlt)
        have hT : supN vs (cs.take (k + 1)) = supN vs (cs.take k) ++ if (vs.any fun v => apv v (zl cs k)) = true then [(zl cs k).toNat] else [] := by
          rw [List.take_add_one, List.getElem?_eq_getElem (show k < cs.length by rw [HL.out]; exact hlt), supN_append, ← supN_one, zl_get cs k (by rw [HL.out]; exact hlt)]; rfl
        clear hcc
        obtain ⟨x, hx⟩ : ∃ x, zl cs k = x := ⟨_, rfl⟩
        rw [hx] at d0 hT hge hle
        obtain ⟨N, rfl⟩ := Int.eq_ofNat_of_zero_le hge
        rw [Int.toNat_natCast] at hT
        have HT := Lib.hid hT
        have hb7' : Below wr.heap.size wr (wr.alloc (.cells #[.int .i64 (N : Int)] 3)) := (Below.refl _ _).alloc (Nat.le_refl _) _
        have hK7 := KB.new wr 3 #[.int .i64 (N : Int)]
        have hO7 := hO.below hb7'
        have hkb7 := hkb.below hb7' hkb.lt
        have hsz := hkb.lt
        have hz7 := hb.size
        have HB7 := Lib.hid (hb.trans (hb7'.mono hb.size))
        have HV7 := Lib.hid (HV.out.below HB7.out (Nat.le_refl _))
        clear hb7' hT hx hb hO hkb
        obtain ⟨r, hr⟩ : ∃ r, (vs.any fun v => apv v (N : Int)) = r := ⟨_, rfl⟩
        go_upto_region 7 with (fail)
        generalize hw7 : (wr.alloc (.cells #[.int .i64 (N : Int)] 3)) = w7 at *
        have y0 := hK7.cell 0
        simp at y0
        have hCF := conf_any A n c wr.heap.size vs N w7 HV7.out hfd.2.2.1 y0 hK7.lt
        rw [hr] at hCF HT
        have z0 := hkb7.cell 0
        simp at z0
        clear d0 hw7 hr
        go_wp2_with fail
        refine hCF.mono ?_
        rintro e w8 ⟨rfl, hb8⟩
        have hB8 := HB7.out.trans (hb8.mono HB7.out.size)
        have hO8 := hO7.below hb8
        have hkb8 := hkb7.below hb8 hkb7.lt
        have y8 := (hK7.below hb8 hK7.lt).cell 0
        have hs8 := hB8.size
        simp at y8
        have HB8 := Lib.hid hB8
        have HK8 := Lib.hid hkb8
        clear hb8 hO7 hK7 y0 z0 HB7 hCF hB8 hkb7 hkb8
        cases r with
        | false =>
          go_wp2
          go_roundw
          case rel => exact ⟨k + 1, m', c', A', by omega, by omega, by go_num, rfl, by rw [HT.out, if_neg (by simp), List.append_nil]; exact hO8, HK8.out, HB8.out⟩
          case measure => simp [intOf]; omega
        | true =>
          have hsz8 := HK8.out.lt
          go_wp2_with (at_builtin; refine wpList_appk _ .i64 3 8 rfl (.tmp 20) (.tmp 22) 23 rfl (w.heap.size + 1) Try.underlying23 infoI' _ _ _ _ 1 1 (supN vs (cs.take k)) [N] rfl rfl (hO8.alloc _) (rk_one _ _ _ _ _ (by omega)) (by unfold maxLen; omega) (by omega) (by simp; omega) ?_; intro A1 c1 w1 hO1 hb1)
          go_roundw
          case rel => exact ⟨k + 1, m' + 1, c1, A1, by omega, by omega, by go_num, rfl, by rw [HT.out]; simpa using hO1, (HK8.out.alloc _).below hb1 (by omega), (HB8.out.alloc HB8.out.size _).trans (hb1.mono (by omega))⟩
          case measure => simp [intOf]; omega
      · obtain rfl : k = m := by omega
        have hl : supN vs (cs.take k) = supM vs cs := by rw [HM.out, List.take_of_length_le (by rw [HL.out]; exact Nat.le_refl _)]
        rw [hl] at hO
        go_wp2
        go_ret
        exact ⟨_, _, _, rfl, hO.low (by omega), hb⟩
  · rw [decide_eq_false hfd] at hF
    have HE := Lib.hid (show supM vs cs = [] from if_neg hfd)
    go_enter Try.func7, Try.ntmps7
    go_wp2_with fail
    refine hF.mono ?_
    rintro e w2 ⟨rfl, hb2⟩
    go_wp2
    go_ret
    exact ⟨_, _, _, rfl, by rw [HE.out]; exact Owk.nil _ _ _ _, HB1.out.trans (hb2.mono HB1.out.size)⟩
end Go.Proofs.Ytckeghmhkghelaa
