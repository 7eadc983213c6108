/-
  graph.stakes and graph.numbered: the voters' stakes in a row of its own; whether their numbers are from 0 to 2^31 - 1 and all different. For snapshots of at most 32 voters that can be read.
-/
import Derived.Test.YtckeghmhkghelaaQsort
import Derived.Test.YtckeghmhkghelaaQasc
namespace Go.Proofs.Ytckeghmhkghelaa
open Go.RowKit
set_option linter.unusedVariables false

theorem infoQ' : (Try.prog.info? 29).map (fun i => (i.zero, i.size, i.bytes)) = some (some (.int .u64 0), 1, 8) := by kernel_rfl
theorem infoI' : (Try.prog.info? 3).map (fun i => (i.zero, i.size, i.bytes)) = some (some (.int .i64 0), 1, 8) := by kernel_rfl
theorem mkQ' (n : Nat) (hc : n ≤ 200) (W : World) :
    (Instr.makeSlice 40 (.int .i64 (n : Int)) (.int .i64 (n : Int))).run Try.prog W = .ok (.slice (some ⟨W.heap.size, 0, none⟩) n n) (W.alloc (.cells (litsK .u64 (zeros n)).toArray 29)) := by
  obtain ⟨i0, hi, hz0, hz1, hz2⟩ := info_parts infoQ'
  have h := run_make_rowK (P := Try.prog) 40 29 i0 (.int .u64 0) Try.underlying40 hi hz0 .i64 .i64 n n (Nat.le_refl _) (by rw [hz2]; omega) (by omega) W
  rw [hz1, Nat.mul_one, litsK_made] at h
  exact h
/-- So many zeros. -/
def zeroI (n : Nat) : List Int := List.replicate n 0
theorem mkI' (n : Nat) (hc : n ≤ 200) (W : World) :
    (Instr.makeSlice 23 (.int .i64 (n : Int)) (.int .i64 (n : Int))).run Try.prog W = .ok (.slice (some ⟨W.heap.size, 0, none⟩) n n) (W.alloc (.cells (litsI (zeroI n)) 3)) := by
  obtain ⟨i0, hi, hz0, hz1, hz2⟩ := info_parts infoI'
  have h := run_make_rowK (P := Try.prog) 23 3 i0 (.int .i64 0) Try.underlying23 hi hz0 .i64 .i64 n n (Nat.le_refl _) (by rw [hz2]; omega) (by omega) W
  rw [hz1, Nat.mul_one] at h
  have e : madeCells (Value.int .i64 0).cells n = litsI (zeroI n) := by
    apply Array.ext'
    show (madeCells #[.int .i64 0] n).toList = _
    rw [toList_madeCells_one]; simp [litsI, zeroI]
  rw [e] at h
  exact h
theorem litsI_set (zs : List Int) (j : Nat) (x : Int) : (litsI zs).setIfInBounds j (.int .i64 x) = litsI (zs.set j x) := by
  apply Array.toList_inj.1
  simp [litsI, List.map_set]
theorem zl_set_same (zs : List Int) (i : Nat) (x : Int) (h : i < zs.length) : zl (zs.set i x) i = x := by
  rw [zl_get _ _ (by simpa using h)]; simp
theorem zl_set_other (zs : List Int) (i j : Nat) (x : Int) (h : i ≠ j) : zl (zs.set i x) j = zl zs j := by
  unfold zl; rw [List.getD_eq_getElem?_getD, List.getD_eq_getElem?_getD, List.getElem?_set]; simp [h]
theorem ext_zl {xs ys : List Int} (hl : xs.length = ys.length) (h : ∀ j, j < xs.length → zl xs j = zl ys j) : xs = ys := by
  refine List.ext_getElem hl fun j h1 h2 => ?_
  have := h j h1
  rwa [zl_get xs j h1, zl_get ys j h2] at this

/-- The voters' stakes, and their numbers. -/
def stk (vs : List Vr) : List Nat := vs.map Vr.st
def idl (vs : List Vr) : List Int := vs.map Vr.id
theorem stk_len (vs : List Vr) : (stk vs).length = vs.length := by simp [stk]
theorem idl_len (vs : List Vr) : (idl vs).length = vs.length := by simp [idl]
theorem stk_at {vs : List Vr} {j : Nat} {v : Vr} (h : vs[j]? = some v) : el (stk vs) j = v.st := by
  unfold el stk; rw [List.getD_eq_getElem?_getD, List.getElem?_map, h]; rfl
theorem idl_at {vs : List Vr} {j : Nat} {v : Vr} (h : vs[j]? = some v) : zl (idl vs) j = v.id := by
  unfold zl idl; rw [List.getD_eq_getElem?_getD, List.getElem?_map, h]; rfl
/-- A slice of amounts is answered, and what was there is as it was. -/
def OutQs (w : World) (xs : List Nat) : Ending → World → Prop := fun e w' => ∃ A n c, e = .returned (.slice A n c) ∧ Rk .u64 w' A n c xs ∧ Below w.heap.size w w'
theorem Rv.mem {w : World} {A : Option Addr} {n c : Nat} {vs : List Vr} (h : Rv w A n c vs) {v : Vr} (hv : v ∈ vs) : v.ok ∧ Ri w v.a v.n v.c v.ps := h.2.2.2.1 v hv
theorem stk_bl {w : World} {A : Option Addr} {n c : Nat} {vs : List Vr} (h : Rv w A n c vs) : Bl 18446744073709551616 (stk vs) := fun x hx => by
  obtain ⟨v, hv, rfl⟩ := List.mem_map.1 hx
  exact (h.mem hv).1.1

set_option maxHeartbeats 1600000 in
theorem stakes_any (s : Sn) (w : World) (h : s.In w) (hn : s.n ≤ 32) : Calls Try.prog 15 #[s.val] w (OutQs w (stk s.vs)) := by
  obtain ⟨A, n, c, B, m, d, vs, cs⟩ := s
  unfold Sn.val
  obtain ⟨hv, _⟩ := h
  dsimp only at hv hn ⊢
  have HL := Lib.hid hv.len
  have HV := Lib.hid hv
  have hcap := hv.cap
  have hmax := hv.max
  have hmk := mkQ' n (by omega)
  clear hv
  go_enter Try.func15, Try.ntmps15
  go_wp2_with fail
  go_loopw [13] (fun tv wr => ∃ (k : Nat) (rs : List Nat), k ≤ n ∧ tv = .int .i64 (k : Int) ∧ Bkk .u64 29 wr (w.heap.size + 1) rs ∧ rs.length = n ∧ (∀ j, j < k → el rs j = el (stk vs) j) ∧ Below w.heap.size w wr) (fun tv _ => n - (intOf tv).toNat)
  case atStart => exact ⟨0, zeros n, by omega, rfl, (show (w.alloc (.cells #[.slice A n c, .slice B m d] 25)).heap.size = w.heap.size + 1 by simp) ▸ Bkk.new _ _ (w.alloc (.cells #[.slice A n c, .slice B m d] 25)) _, zeros_len _, fun j hj => by omega, ((Below.refl _ _).alloc (Nat.le_refl _) _).alloc (by simp) _⟩
  case round =>
    obtain ⟨k, rs, hk, rfl, hB, hrl, hel, hb⟩ := hrel
    have HE := Lib.hid hel
    have HR := Lib.hid hrl
    have hsz := hB.lt
    clear hmk hel hrl
    by_cases hlt : k < n
    · obtain ⟨b, o, v, rfl, hbb, hve, ok, ri, c0, c1, c2⟩ := HV.out.at_ hlt
      have d0 := (hb.cell (p := ⟨b, o + k * 3, none⟩) hbb).trans c0
      have d1 := (hb.cell (p := ⟨b, o + k * 3 + 1, none⟩) hbb).trans c1
      have d2 := (hb.cell (p := ⟨b, o + k * 3 + 2, none⟩) hbb).trans c2
      have HS := Lib.hid (stk_at hve)
      clear c0 c1 c2 hve ok ri
      obtain ⟨vi, vst, va, vn, vc, vp⟩ := v
      dsimp only at d0 d1 d2 HS
      have hb7 := hb.alloc (by omega) (.cells #[.int .i64 vi, .int .u64 (vst : Int), .slice va vn vc] 31)
      have hB7 : Bkk .u64 29 (wr.alloc (.cells #[.int .i64 vi, .int .u64 (vst : Int), .slice va vn vc] 31)) (w.heap.size + 1) rs := (Below.heap_alloc wr _ _ hsz).trans hB
      have hK := KB.new wr 31 #[.int .i64 vi, .int .u64 (vst : Int), .slice va vn vc]
      go_upto_region 5 with (fail)
      generalize (wr.alloc (.cells #[.int .i64 vi, .int .u64 (vst : Int), .slice va vn vc] 31)) = w7 at *
      have x1 := hK.cell 1
      have hf := hB7.frozen k
      have hc := hB7.cell (i := k) (by rw [HR.out]; exact hlt)
      have HB := Lib.hid (hB7.set_ k vst)
      have HW := Lib.hid (hb7.setCell (p := ⟨w.heap.size + 1, k, none⟩) (by show w.heap.size ≤ w.heap.size + 1; omega) (.int .u64 (vst : Int)))
      simp at x1
      clear hB hb hB7 hb7 hK d0 d1 d2
      go_wp2
      go_roundw
      case rel =>
        refine ⟨k + 1, rs.set k vst, by omega, by go_num, HB.out, by rw [List.length_set]; exact HR.out, fun j hj => ?_, HW.out⟩
        by_cases hjk : j = k
        · subst hjk; rw [el_set_same _ _ _ (by rw [HR.out]; exact hlt), HS.out]
        · rw [el_set_other _ _ _ _ (by omega), HE.out j (by omega)]
      case measure => simp [intOf]; omega
    · obtain rfl : k = n := by omega
      have hrs : rs = stk vs := ext_el (by rw [HR.out, stk_len, HL.out]) fun j hj => HE.out j (by rw [HR.out] at hj; exact hj)
      subst hrs
      have hrk := hB.rk HR.out (by omega)
      go_wp2
      go_ret
      exact ⟨_, _, _, rfl, hrk, hb⟩

/-- The voters' numbers are from 0 to 2^31 - 1, and all different. -/
def Numb (vs : List Vr) : Prop := (∀ v ∈ vs, 0 ≤ v.id ∧ v.id ≤ 2147483647) ∧ (idl vs).Nodup
instance (vs : List Vr) : Decidable (Numb vs) := by unfold Numb; infer_instance
theorem numb_iff (vs : List Vr) : Asc (vs.length : Int) (srt (idl vs)) ↔ Numb vs := by
  have hp := srt_perm (idl vs)
  have hl := srt_len (idl vs)
  rw [idl_len] at hl
  constructor
  · intro h
    have hin : ∀ z ∈ idl vs, 0 ≤ z ∧ z ≤ 2147483647 := fun z hz => by
      obtain ⟨j, hj, rfl⟩ := mem_zl.1 (hp.mem_iff.2 hz)
      exact ⟨h.ge j hj, h.le j hj⟩
    refine ⟨fun v hv => hin _ (List.mem_map.2 ⟨v, hv, rfl⟩), ?_⟩
    exact hp.nodup_iff.1 (h.pair.imp (fun h => by omega))
  · rintro ⟨h1, h2⟩
    have hnd := hp.nodup_iff.2 h2
    refine asc_of_pair (by omega) ?_ fun z hz => ?_
    · exact (srt_pair _).imp₂ (fun a b h1 h2 => by omega) hnd
    · obtain ⟨v, hv, rfl⟩ := List.mem_map.1 (hp.mem_iff.1 hz)
      exact h1 v hv
theorem idl_bd {w : World} {A : Option Addr} {n c : Nat} {vs : List Vr} (h : Rv w A n c vs) : ∀ z ∈ idl vs, -9223372036854775808 ≤ z ∧ z ≤ 9223372036854775807 := fun z hz => by
  obtain ⟨v, hv, rfl⟩ := List.mem_map.1 hz
  exact (h.mem hv).1.2
set_option maxHeartbeats 1600000 in
theorem numb_any (A : Option Addr) (n c : Nat) (vs : List Vr) (w : World) (h : Rv w A n c vs) (hn : n ≤ 32) : Calls Try.prog 16 #[.slice A n c] w (OutF w (decide (Numb vs))) := by
  have HL := Lib.hid h.len
  have HV := Lib.hid h
  have hcap := h.cap
  have hmax := h.max
  have hmk := mkI' n (by omega)
  have HBD := Lib.hid (idl_bd h)
  obtain ⟨r, hr⟩ : ∃ r, decide (Numb vs) = r := ⟨_, rfl⟩
  rw [hr]
  have HRR := Lib.hid hr
  clear h hr
  go_enter Try.func16, Try.ntmps16
  go_wp2_with fail
  go_loopw [11] (fun tv wr => ∃ (k : Nat) (rs : List Int), k ≤ n ∧ tv = .int .i64 (k : Int) ∧ KB wr w.heap.size 3 (litsI rs) ∧ rs.length = n ∧ (∀ j, j < k → zl rs j = zl (idl vs) j) ∧ Below w.heap.size w wr) (fun tv _ => n - (intOf tv).toNat)
  case atStart => exact ⟨0, zeroI n, by omega, rfl, KB.new _ _ _, by simp [zeroI], fun j hj => by omega, (Below.refl _ _).alloc (Nat.le_refl _) _⟩
  case round =>
    obtain ⟨k, rs, hk, rfl, hB, hrl, hel, hb⟩ := hrel
    have HE := Lib.hid hel
    have HR := Lib.hid hrl
    have hsz := hB.lt
    clear hmk hel hrl
    by_cases hlt : k < n
    · obtain ⟨b, o, v, rfl, hbb, hve, ok, ri, c0, c1, c2⟩ := HV.out.at_ hlt
      have d0 := (hb.cell (p := ⟨b, o + k * 3, none⟩) hbb).trans c0
      have d1 := (hb.cell (p := ⟨b, o + k * 3 + 1, none⟩) hbb).trans c1
      have d2 := (hb.cell (p := ⟨b, o + k * 3 + 2, none⟩) hbb).trans c2
      have HS := Lib.hid (idl_at hve)
      clear c0 c1 c2 hve ok ri
      obtain ⟨vi, vst, va, vn, vc, vp⟩ := v
      dsimp only at d0 d1 d2 HS
      have hb7 := hb.alloc (by omega) (.cells #[.int .i64 vi, .int .u64 (vst : Int), .slice va vn vc] 31)
      have hB7 := hB.alloc (.cells #[.int .i64 vi, .int .u64 (vst : Int), .slice va vn vc] 31)
      have hK := KB.new wr 31 #[.int .i64 vi, .int .u64 (vst : Int), .slice va vn vc]
      go_upto_region 5 with (fail)
      generalize (wr.alloc (.cells #[.int .i64 vi, .int .u64 (vst : Int), .slice va vn vc] 31)) = w7 at *
      have x0 := hK.cell 0
      have hf := hB7.frozen k
      have hc := (hB7.cell k).trans (litsI_at rs k (by rw [HR.out]; exact hlt))
      have hset := hB7.set k (.int .i64 vi)
      rw [litsI_set] at hset
      have HB := Lib.hid hset
      have HW := Lib.hid (hb7.setCell (p := ⟨w.heap.size, k, none⟩) (Nat.le_refl _) (.int .i64 vi))
      simp at x0
      clear hB hb hB7 hb7 hK d0 d1 d2 hset
      go_wp2
      go_roundw
      case rel =>
        refine ⟨k + 1, rs.set k vi, by omega, by go_num, HB.out, by rw [List.length_set]; exact HR.out, fun j hj => ?_, HW.out⟩
        by_cases hjk : j = k
        · subst hjk; rw [zl_set_same _ _ _ (by rw [HR.out]; exact hlt), HS.out]
        · rw [zl_set_other _ _ _ _ (by omega), HE.out j (by omega)]
      case measure => simp [intOf]; omega
    · obtain rfl : k = n := by omega
      have hrs : rs = idl vs := ext_zl (by rw [HR.out, idl_len, HL.out]) fun j hj => HE.out j (by rw [HR.out] at hj; exact hj)
      subst hrs
      have hS := sort_any w.heap.size (idl vs) k w.heap.size wr hB HR.out (by omega) (Nat.le_refl _)
      go_wp2_with fail
      refine hS.mono ?_
      rintro e w1 ⟨rfl, hk1, hb1⟩
      have hri := ri_of_kb hk1 (n := k) (by rw [srt_len]; exact HR.out) (by omega) (fun z hz => HBD.out z ((srt_perm _).mem_iff.1 hz))
      go_wp2_with fail
      refine (asc_any _ k k _ (k : Int) w1 hri).mono ?_
      rintro e w2 ⟨rfl, rfl⟩
      go_wp2
      go_ret
      refine ⟨?_, hb.trans hb1⟩
      have := numb_iff vs
      rw [HL.out] at this
      rw [← HRR.out, ← decide_eq_decide.2 this]
      rfl
end Go.Proofs.Ytckeghmhkghelaa
