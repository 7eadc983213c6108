/-
  What Bytes, strays, Of and Set of package marks do. The conditions stand in each theorem.
-/
import Derived.Test.YtgdmmcjhbpklhaaMcalls
namespace Go.Proofs.Ytgdmmcjhbpklhaa
open Go.RowKit
set_option linter.unusedVariables false

theorem bytes_nil (w : World) : Calls Try.prog 16 #[.pointer none] w fun e w' => e = .returned (.slice none 0 0) ∧ w = w' := by
  go_enter Try.func16, Try.ntmps16
  go_wp2
  go_ret
  exact ⟨rfl, rfl⟩
set_option maxHeartbeats 800000 in
/-- Bytes. -/
theorem bytes_any (base p size : Nat) (f : Nat → Bool) (w : World) (h : Mk w base p size f) :
    Calls Try.prog 16 #[.pointer (some ⟨p, 0, none⟩)] w (OutM w (mbs f (wid size))) := by
  obtain ⟨hs, _, _, A, c, hk, ho⟩ := h
  have c1 := hk.cell 1
  simp at c1
  have HC := Lib.hid (clone_any A (wid size) c _ w ho.rk (by unfold wid; omega))
  clear hk ho
  go_enter Try.func16, Try.ntmps16
  go_wp2_with fail
  refine HC.out.mono ?_
  rintro e w1 ⟨A1, n1, c1, rfl, hO, hb⟩
  go_wp2
  go_ret
  exact ⟨_, _, _, rfl, hO, hb⟩
set_option maxHeartbeats 800000 in
/-- strays. -/
theorem strays_any (A : Option Addr) (c size : Nat) (bs : List Nat) (w : World) (h : Rk .u8 w A (wid size) c bs) (hB : Bl 256 bs) (hs : size ≤ 4096) :
    Calls Try.prog 21 #[.int .i64 size, .slice A (wid size) c] w fun e w' => e = .returned (.bool (stray size bs)) ∧ ∃ q, w' = w.drewN q := by
  by_cases h8 : size % 8 = 0
  · have HV := Lib.hid (show false = stray size bs by unfold stray; rw [decide_eq_false (by simpa using h8), Bool.false_and])
    have h8' : ((size : Int) % 8) = 0 := by omega
    clear h8
    go_enter Try.func21, Try.ntmps21
    go_wp2
    go_ret
    exact ⟨mretB HV.out, 0, rfl⟩
  · have hn : 0 < wid size := by unfold wid; omega
    have HV := Lib.hid (show decide ((2 : Int) ^ (size % 8) ≤ ((el bs (wid size - 1) : Nat) : Int)) = stray size bs by
      unfold stray
      rw [decide_eq_true h8, Bool.true_and, h.len, two_cast]
      simp [-Int.natCast_pow])
    have h8' : (((size : Int) % 8) == 0) = false := by simp; omega
    obtain ⟨b, o, rfl, hb, hc⟩ := h.at_ hn
    have hcell := hc (wid size - 1) (by omega)
    have hcap := h.cap
    have hmx := h.max
    have hbt := Lib.hid (fun W => bit_any size W (by omega))
    have hwd : wid size ≤ 512 := by unfold wid; omega
    clear hc h h8
    generalize wid size = n at *
    obtain ⟨m, rfl⟩ : ∃ m, n = m + 1 := ⟨n - 1, by omega⟩
    rw [Nat.add_sub_cancel] at hcell HV
    have e1 : ((m + 1 : Nat) : Int) - 1 = (m : Int) := by omega
    have hw1 : IntKind.i64.wrap (((m + 1 : Nat) : Int) - 1) = (m : Int) := by rw [e1]; exact IntWalk.i64_in _ ⟨by omega, by omega⟩
    go_enter Try.func21, Try.ntmps21
    go_wp2
    go_quiet (first | (go_at_call 20; exact mquiet (hbt.out _)))
    go_wp2
    go_ret
    exact ⟨mretB HV.out, _, rfl⟩
theorem mof_arg (x : Int) (bv : Value) (w : World) (hx : x < 0 ∨ 4096 < x) :
    Calls Try.prog 12 #[.int .i64 x, bv] w fun e w' => e = .returned (.tuple #[.pointer none, .int .i64 1]) ∧ w = w' := by
  rcases hx with h | h
  · go_enter Try.func12, Try.ntmps12
    go_wp2
    go_ret2
    exact ⟨rfl, rfl⟩
  · have h0 : decide (x < 0) = false := by simp; omega
    go_enter Try.func12, Try.ntmps12
    go_wp2
    go_ret2
    exact ⟨rfl, rfl⟩
/-- The ending of Of with an error. -/
def OfNo (w : World) (er : Nat) (e : Ending) (w' : World) : Prop := e = .returned (.tuple #[.pointer none, .int .i64 er]) ∧ ∃ q, w' = w.drewN q
set_option maxHeartbeats 800000 in
theorem mof_form (size n c : Nat) (A : Option Addr) (bs : List Nat) (w : World) (h : Rk .u8 w A n c bs) (hB : Bl 256 bs) (hs : size ≤ 4096) (hn : n ≤ 100000) (hf : ¬ fits size bs) :
    Calls Try.prog 12 #[.int .i64 size, .slice A n c] w (OfNo w 2) := by
  have h0 : decide ((size : Int) < 0) = false := by simp
  have h1 : decide ((4096 : Int) < (size : Int)) = false := by simp; omega
  have HW := Lib.hid (width_any size w hs)
  by_cases he : n = wid size
  · subst he
    have hst : stray size bs = true := by
      rcases Bool.eq_false_or_eq_true (stray size bs) with h' | h'
      · exact h'
      · exact absurd ⟨h.len, h'⟩ hf
    have HS := Lib.hid (strays_any A c size bs w h hB hs)
    rw [hst] at HS
    clear hf hst
    go_enter Try.func12, Try.ntmps12
    go_wp2_with fail
    refine HW.out.mono ?_
    rintro e w' ⟨rfl, rfl⟩
    have hq : (((wid size : Nat) : Int) != ((wid size : Nat) : Int)) = false := by simp
    go_wp2_with fail
    refine HS.out.mono ?_
    rintro e w' ⟨rfl, q, rfl⟩
    go_wp2
    go_ret2
    exact ⟨rfl, q, rfl⟩
  · have hq : ((n : Int) != ((wid size : Nat) : Int)) = true := by simp; omega
    clear hf he
    go_enter Try.func12, Try.ntmps12
    go_wp2_with fail
    refine HW.out.mono ?_
    rintro e w' ⟨rfl, rfl⟩
    go_wp2
    go_ret2
    exact ⟨rfl, 0, rfl⟩
/-- The ending of Of with marks. -/
def OfYes (w : World) (size : Nat) (f : Nat → Bool) (e : Ending) (w' : World) : Prop :=
  ∃ p, e = .returned (.tuple #[.pointer (some ⟨p, 0, none⟩), .int .i64 0]) ∧ Mk w' w.heap.size p size f ∧ Below w.heap.size w w'
theorem fits_none {size : Nat} {bs : List Nat} (hb : Bl 256 bs) (h : fits size bs) : ∀ i, size ≤ i → fb bs i = false := fun i hi => by
  rw [fits_low hb h, low_ge _ hi]
set_option maxHeartbeats 800000 in
theorem mof_yes (size n c : Nat) (A : Option Addr) (bs : List Nat) (w : World) (h : Rk .u8 w A n c bs) (hB : Bl 256 bs) (hs : size ≤ 4096) (hf : fits size bs) :
    Calls Try.prog 12 #[.int .i64 size, .slice A n c] w (OfYes w size (fb bs)) := by
  have h0 : decide ((size : Int) < 0) = false := by simp
  have h1 : decide ((4096 : Int) < (size : Int)) = false := by simp; omega
  obtain rfl : n = wid size := by rw [← h.len, hf.1]
  have HW := Lib.hid (width_any size w hs)
  have HS := Lib.hid (strays_any A c size bs w h hB hs)
  rw [hf.2] at HS
  have HF := Lib.hid (fits_none hB hf)
  have HL := Lib.hid (show mbs (fb bs) (wid size) = bs by rw [← hf.1]; exact mbs_fb hB)
  have HC := Lib.hid (fun q => clone_any A (wid size) c bs (w.drewN q) (h.drewN q) (by unfold wid; omega))
  clear hf h
  go_enter Try.func12, Try.ntmps12
  go_wp2_with fail
  refine HW.out.mono ?_
  rintro e w' ⟨rfl, rfl⟩
  have hq : (((wid size : Nat) : Int) != ((wid size : Nat) : Int)) = false := by simp
  go_wp2_with fail
  refine HS.out.mono ?_
  rintro e w' ⟨rfl, q, rfl⟩
  go_wp2_with fail
  refine (HC.out q).mono ?_
  rintro e w1 ⟨A1, n1, c1, rfl, hO, hb⟩
  obtain rfl : n1 = wid size := by rw [← hO.len, ← HL.out, mbs_len]
  clear hq
  have hsz : w.heap.size ≤ w1.heap.size := hb.size
  have HM := Lib.hid (show Mk (w1.alloc (.cells #[.int .i64 size, .slice A1 (wid size) c1] 45)) w.heap.size w1.heap.size size (fb bs) from
    ⟨hs, HF.out, hsz, A1, c1, KB.new _ _ _, by rw [HL.out]; exact hO.alloc _⟩)
  have HB := Lib.hid (show Below w.heap.size w w1 from ⟨hb.os, hb.tape, hb.output, hb.size, hb.block⟩)
  clear hO hb
  go_wp2
  go_ret2
  exact ⟨_, rfl, HM.out, HB.out.alloc hsz _⟩

theorem set_nil (x : Int) (w : World) : Calls Try.prog 9 #[.pointer none, .int .i64 x] w fun e w' => e = .returned (.int .i64 1) ∧ w = w' := by
  go_enter Try.func9, Try.ntmps9
  go_wp2
  go_ret
  exact ⟨rfl, rfl⟩
theorem set_out (base p size : Nat) (x : Int) (f : Nat → Bool) (w : World) (h : Mk w base p size f) (hx : x < 0 ∨ (size : Int) ≤ x) :
    Calls Try.prog 9 #[.pointer (some ⟨p, 0, none⟩), .int .i64 x] w fun e w' => e = .returned (.int .i64 5) ∧ w = w' := by
  go_enter Try.func9, Try.ntmps9
  go_wp2_with fail
  refine (holds_no _ size x w (msize_any base p size f w h) hx).mono ?_
  rintro e w' ⟨rfl, rfl⟩
  go_wp2
  go_ret
  exact ⟨rfl, rfl⟩
theorem set_dup (base p size i : Nat) (f : Nat → Bool) (w : World) (h : Mk w base p size f) (hi : i < size) (hf : f i = true) :
    Calls Try.prog 9 #[.pointer (some ⟨p, 0, none⟩), .int .i64 i] w fun e w' => e = .returned (.int .i64 6) ∧ ∃ q, w' = w.drewN q := by
  have hH := has_in base p size i f w h hi
  rw [hf] at hH
  clear hf
  go_enter Try.func9, Try.ntmps9
  go_wp2_with fail
  refine (holds_yes base p size i f w h hi).mono ?_
  rintro e w' ⟨rfl, rfl⟩
  go_wp2_with fail
  refine hH.mono ?_
  rintro e w' ⟨rfl, q, rfl⟩
  go_wp2
  go_ret
  exact ⟨rfl, q, rfl⟩
/-- A block of bytes, from base on. -/
def TB (base : Nat) (w : World) (b : Nat) : Prop := base ≤ b ∧ ∃ cs z, w.heap[b]? = some (.cells cs 5 z)
def SetTo (w : World) (base p size : Nat) (f : Nat → Bool) (e : Ending) (w' : World) : Prop := e = .returned (.int .i64 0) ∧ Mk w' base p size f ∧ Turns (TB base w) w w'
theorem Mk.set {w : World} {base p size g c i : Nat} {f : Nat → Bool} (h : Mk w base p size f) (hi : i < size) (hk : KB w p 45 #[.int .i64 size, .slice (some ⟨g, 0, none⟩) (wid size) c])
    (ho : Owk .u8 5 w base (some ⟨g, 0, none⟩) (wid size) c (mbs f (wid size))) :
    Mk (w.setCell ⟨g, i / 8, none⟩ (.int .u8 ((mb f (i / 8) ||| 2 ^ (i % 8) : Nat) : Int))) base p size (put f i) ∧ Turns (TB base w) w (w.setCell ⟨g, i / 8, none⟩ (.int .u8 ((mb f (i / 8) ||| 2 ^ (i % 8) : Nat) : Int))) := by
  have hl : i / 8 < wid size := by unfold wid; omega
  have hT : base ≤ g ∧ ∃ cs, w.heap[g]? = some (.cells cs 5 (0, 0)) := by
    rcases ho.2 with ⟨hv, h0⟩ | ⟨g', cap, cur, hv, hb, hg, _⟩
    · cases hv
    · injection hv with h1 h2 h3
      injection h1 with h1
      injection h1 with h1
      subst h1
      exact ⟨hb, _, hg⟩
  refine ⟨⟨h.1, fun k hk => ?_, h.2.2.1, some ⟨g, 0, none⟩, c, ?_, ?_⟩, Turns.setCell _ _ _ ⟨hT.1, _, _, hT.2.choose_spec⟩⟩
  · unfold put; rw [if_neg (by omega)]; exact h.2.1 k hk
  · refine hk.far (fun e => ?_) _
    obtain ⟨_, cs, hg⟩ := hT
    unfold KB at hk
    rw [show p = g from e, hg] at hk
    injection hk with hk
    injection hk with _ hk
    exact absurd hk (by decide)
  · rw [mbs_put _ _ _ hl]; exact ho.store _ _
set_option maxHeartbeats 1600000 in
theorem set_new (base p size i : Nat) (f : Nat → Bool) (w : World) (h : Mk w base p size f) (hi : i < size) (hf : f i = false) :
    Calls Try.prog 9 #[.pointer (some ⟨p, 0, none⟩), .int .i64 i] w (SetTo w base p size (put f i)) := by
  have hs := h.1
  have hH := has_in base p size i f w h hi
  rw [hf] at hH
  have HH := Lib.hid hH
  have HO := Lib.hid (holds_yes base p size i f w h hi)
  obtain ⟨g, c, hb, hg, hk, ho, hc, hz⟩ := h.byte hi
  have HS := Lib.hid (h.set hi hk ho)
  have c1 := hk.cell 1
  simp at c1
  have hw : (i : Int) / 8 < (wid size : Nat) := by unfold wid; omega
  have h0 : (0 : Int) ≤ (i : Int) / 8 := by omega
  have ht : ((i : Int) / 8).toNat = i / 8 := by omega
  have hor := or_u8 (mb f (i / 8)) (i % 8) (mb_lt _ _) (Nat.mod_lt _ (by omega))
  have htd : Int.tdiv (i : Int) 8 = (i : Int) / 8 := Int.tdiv_eq_ediv_of_nonneg (by omega)
  have hwr : IntKind.i64.wrap ((i : Int) / 8) = (i : Int) / 8 := IntWalk.i64_in _ ⟨by omega, by omega⟩
  clear hf hH h hk ho
  go_enter Try.func9, Try.ntmps9
  go_wp2_with fail
  refine HO.out.mono ?_
  rintro e w' ⟨rfl, rfl⟩
  go_wp2_with fail
  refine HH.out.mono ?_
  rintro e w' ⟨rfl, q, rfl⟩
  go_wp2_with fail
  go_region_with (go_at_call 20; refine (bit_any i _ (by omega)).mono ?_; rintro e w' ⟨rfl, rfl⟩)
  all_goals
    go_wp2
    go_ret
    exact ⟨rfl, HS.out.1, ⟨HS.out.2.os, HS.out.2.tape, HS.out.2.output, HS.out.2.size, HS.out.2.block⟩⟩
end Go.Proofs.Ytgdmmcjhbpklhaa
