/-
  Marks in memory, and what the smallest functions of package marks do: width, bit, OnesCount8, Size, holds, Has, Count. The conditions stand in each theorem.
-/
import Derived.Test.YtgdmmcjhbpklhaaMbits
import Derived.Test.YtgdmmcjhbpklhaaMmap
import Derived.Test.YtgdmmcjhbpklhaaBmem
import Derived.Test.YtgdmmcjhbpklhaaKmem
import Derived.Handy
import Derived.Lib.Hide
import Derived.Deep.QuietTactic
import Derived.BigQuiet
namespace Go.Proofs.Ytgdmmcjhbpklhaa
open Go.RowKit
set_option linter.unusedVariables false

theorem infoM : (Try.prog.info? 5).map (fun i => (i.zero, i.size, i.bytes)) = some (some (.int .u8 0), 1, 1) := by kernel_rfl
theorem mretI {a b : Int} (h : a = b) : Ending.returned (.int .i64 a) = .returned (.int .i64 b) := by rw [h]
theorem mretU8 {a b : Int} (h : a = b) : Ending.returned (.int .u8 a) = .returned (.int .u8 b) := by rw [h]
theorem mretB {a b : Bool} (h : a = b) : Ending.returned (.bool a) = .returned (.bool b) := by rw [h]

/-- Marks of that size at block p, those of f set; their bytes in a row of their own. -/
def Mk (w : World) (base p size : Nat) (f : Nat → Bool) : Prop :=
  size ≤ 4096 ∧ (∀ i, size ≤ i → f i = false) ∧ base ≤ p ∧
    ∃ A c, KB w p 45 #[.int .i64 size, .slice A (wid size) c] ∧ Owk .u8 5 w base A (wid size) c (mbs f (wid size))
theorem Mk.drewN {w : World} {base p size : Nat} {f : Nat → Bool} (h : Mk w base p size f) (q : Nat) : Mk (w.drewN q) base p size f := h
theorem Mk.keep {w w' : World} {base p size : Nat} {f : Nat → Bool} (h : Mk w base p size f) (hb : Below w.heap.size w w') : Mk w' base p size f := by
  obtain ⟨h1, h2, h3, A, c, hk, ho⟩ := h
  exact ⟨h1, h2, h3, A, c, hk.below hb hk.lt, ho.below hb⟩
/-- In a region that draws: the call at whatever world that has drawn. -/
theorem mquiet {P : Program} {f : FuncId} {args : Array Value} {w : World} {n : Nat} {v : Value}
    (h : Calls P f args (w.drewN n) fun e w' => e = .returned v ∧ w.drewN n = w') : Calls P f args (w.drewN n) fun e w'' => e = .returned v ∧ ∃ m, w'' = w.drewN m :=
  h.mono fun _ _ ⟨he, hm⟩ => ⟨he, n, hm.symm⟩
theorem mquiet2 {P : Program} {f : FuncId} {args : Array Value} {w : World} {a n : Nat} {v : Value}
    (h : Calls P f args (w.drewN (a + n)) fun e w' => e = .returned v ∧ w.drewN (a + n) = w') :
    Calls P f args (w.drewN (a + n)) fun e w'' => e = .returned v ∧ ∃ m, w'' = w.drewN (a + m) :=
  h.mono fun _ _ ⟨he, hm⟩ => ⟨he, n, hm.symm⟩
/-- A set as a function of whatever integer. -/
def fi (f : Nat → Bool) (x : Int) : Bool := decide (0 ≤ x) && f x.toNat
theorem fi_nat (f : Nat → Bool) (i : Nat) : fi f (i : Int) = f i := by simp [fi]
theorem fi_neg (f : Nat → Bool) {x : Int} (h : x < 0) : fi f x = false := by simp [fi]; omega

theorem two_cast (k : Nat) : (2 : Int) ^ k = ((2 ^ k : Nat) : Int) := by rw [Int.natCast_pow]; rfl
theorem width_any (s : Nat) (w : World) (hs : s ≤ 4096) :
    Calls Try.prog 18 #[.int .i64 s] w fun e w' => e = .returned (.int .i64 (wid s : Nat)) ∧ w = w' := by
  have HV := Lib.hid (show ((s : Int) + 7) / 8 = (wid s : Nat) by unfold wid; omega)
  go_enter Try.func18, Try.ntmps18
  go_wp2
  go_ret
  exact ⟨mretI HV.out, rfl⟩
theorem bit_any (i : Nat) (w : World) (hs : i ≤ 8000) :
    Calls Try.prog 20 #[.int .i64 i] w fun e w' => e = .returned (.int .u8 ((2 : Int) ^ (i % 8))) ∧ w = w' := by
  go_enter Try.func20, Try.ntmps20
  go_wp2
  go_ret
  refine ⟨mretU8 ?_, rfl⟩
  have h2 := two_lt (show i % 8 < 8 from Nat.mod_lt _ (by omega))
  rw [two_cast]
  generalize 2 ^ (i % 8) = z at h2
  omega
theorem ones_any (x : Nat) (w : World) (h : x < 256) :
    Calls Try.prog 23 #[.int .u8 x] w fun e w' => e = .returned (.int .i64 (Lib.onesCount x : Nat)) ∧ w = w' := by
  have h1 : (x : Int) ≤ 255 := by omega
  go_enter Try.func23, Try.ntmps23
  go_wp2
  go_ret
  refine ⟨mretI ?_, rfl⟩
  have e := Lib.pop8_eq ⟨x, h⟩
  have l := Lib.onesCount_le8 ⟨x, h⟩
  simp only at e l
  rw [e]
  exact IntWalk.wrap64_in _ ⟨by omega, by omega⟩
theorem size_nil (w : World) : Calls Try.prog 14 #[.pointer none] w fun e w' => e = .returned (.int .i64 0) ∧ w = w' := by
  go_enter Try.func14, Try.ntmps14
  go_wp2
  go_ret
  exact ⟨rfl, rfl⟩
theorem msize_any (base p size : Nat) (f : Nat → Bool) (w : World) (h : Mk w base p size f) :
    Calls Try.prog 14 #[.pointer (some ⟨p, 0, none⟩)] w fun e w' => e = .returned (.int .i64 size) ∧ w = w' := by
  obtain ⟨_, _, _, A, c, hk, _⟩ := h
  have c0 := hk.cell 0
  simp at c0
  clear hk
  go_enter Try.func14, Try.ntmps14
  go_wp2
  go_ret
  exact ⟨rfl, rfl⟩
theorem holds_no (pv : Value) (size : Nat) (x : Int) (w : World) (hsz : Calls Try.prog 14 #[pv] w fun e w' => e = .returned (.int .i64 size) ∧ w = w') (hx : x < 0 ∨ (size : Int) ≤ x) :
    Calls Try.prog 19 #[pv, .int .i64 x] w fun e w' => e = .returned (.bool false) ∧ w = w' := by
  by_cases h0 : 0 ≤ x
  · have h1 : decide (x < (size : Int)) = false := by simp; omega
    go_enter Try.func19, Try.ntmps19
    go_wp2_with fail
    refine hsz.mono ?_
    rintro e w' ⟨rfl, rfl⟩
    go_wp2
    go_ret
    exact ⟨rfl, rfl⟩
  · have h0' : decide (0 ≤ x) = false := by simpa using h0
    go_enter Try.func19, Try.ntmps19
    go_wp2
    go_ret
    exact ⟨rfl, rfl⟩
theorem holds_yes (base p size i : Nat) (f : Nat → Bool) (w : World) (h : Mk w base p size f) (hi : i < size) :
    Calls Try.prog 19 #[.pointer (some ⟨p, 0, none⟩), .int .i64 i] w fun e w' => e = .returned (.bool true) ∧ w = w' := by
  have hi' : (i : Int) < (size : Int) := by omega
  have h0 : (0 : Int) ≤ (i : Int) := by omega
  go_enter Try.func19, Try.ntmps19
  go_wp2_with fail
  refine (msize_any base p size f w h).mono ?_
  rintro e w' ⟨rfl, rfl⟩
  go_wp2
  go_ret
  exact ⟨rfl, rfl⟩

/-- Where the byte of a mark lies. -/
theorem Mk.byte {w : World} {base p size i : Nat} {f : Nat → Bool} (h : Mk w base p size f) (hi : i < size) :
    ∃ g c, base ≤ g ∧ g < w.heap.size ∧ KB w p 45 #[.int .i64 size, .slice (some ⟨g, 0, none⟩) (wid size) c] ∧ Owk .u8 5 w base (some ⟨g, 0, none⟩) (wid size) c (mbs f (wid size)) ∧
      w.cell? ⟨g, i / 8, none⟩ = some (.int .u8 (mb f (i / 8))) ∧ w.frozen? ⟨g, i / 8, none⟩ = false := by
  obtain ⟨hs, _, _, A, c, hk, ho⟩ := h
  have hl : i / 8 < wid size := by unfold wid; omega
  obtain ⟨g, rfl, hb, hg, hc, hf⟩ := ho.addr (by omega)
  refine ⟨g, c, hb, hg, hk, ho, ?_, hf _⟩
  rw [hc _ hl, mbs_el _ _ _ hl]
theorem and_u8 (x k : Nat) (hx : x < 256) (hk : k < 8) : bits .and .u8 (x : Int) ((2 : Int) ^ k) = ((x &&& 2 ^ k : Nat) : Int) := by rw [two_cast]; exact u8_and_nat x (2 ^ k) hx (two_lt hk)
theorem or_u8 (x k : Nat) (hx : x < 256) (hk : k < 8) : bits .or .u8 (x : Int) ((2 : Int) ^ k) = ((x ||| 2 ^ k : Nat) : Int) := by rw [two_cast]; exact u8_or_nat x (2 ^ k) hx (two_lt hk)
theorem and_ne (x k : Nat) : (((x &&& 2 ^ k : Nat) : Int) != 0) = x.testBit k := by
  rw [← and_bit]
  rw [Bool.eq_iff_iff]
  simp
set_option maxHeartbeats 800000 in
/-- Has, of a mark that there is. -/
theorem has_in (base p size i : Nat) (f : Nat → Bool) (w : World) (h : Mk w base p size f) (hi : i < size) :
    Calls Try.prog 11 #[.pointer (some ⟨p, 0, none⟩), .int .i64 i] w fun e w' => e = .returned (.bool (f i)) ∧ ∃ q, w' = w.drewN q := by
  have hs := h.1
  obtain ⟨g, c, hb, hg, hk, ho, hc, _⟩ := h.byte hi
  have hH := Lib.hid (fun q => holds_yes base p size i f (w.drewN q) (h.drewN q) hi)
  have c1 := hk.cell 1
  simp at c1
  have hw : (i : Int) / 8 < (wid size : Nat) := by unfold wid; omega
  have h0 : (0 : Int) ≤ (i : Int) / 8 := by omega
  have ht : ((i : Int) / 8).toNat = i / 8 := by omega
  have HF := Lib.hid (show (bits .and .u8 (mb f (i / 8) : Int) ((2 : Int) ^ (i % 8)) != 0) = f i by
    rw [and_u8 (mb f (i / 8)) (i % 8) (mb_lt _ _) (Nat.mod_lt _ (by omega)), and_ne, mb_bit _ _ _ (Nat.mod_lt _ (by omega))]; congr 1; omega)
  have hbt := Lib.hid (fun W => bit_any i W (by omega))
  clear hk ho h
  go_enter Try.func11, Try.ntmps11
  go_wp2
  go_quiet (first | (go_at_call 19; exact mquiet (hH.out _)) | (go_at_call 20; exact mquiet (hbt.out _)))
  go_wp2
  go_ret
  exact ⟨mretB HF.out, _, rfl⟩
set_option maxHeartbeats 800000 in
/-- Has, of a mark that there is not. -/
theorem has_out (pv : Value) (size : Nat) (x : Int) (w : World) (hsz : ∀ q, Calls Try.prog 14 #[pv] (w.drewN q) fun e w' => e = .returned (.int .i64 size) ∧ (w.drewN q) = w') (hx : x < 0 ∨ (size : Int) ≤ x) :
    Calls Try.prog 11 #[pv, .int .i64 x] w fun e w' => e = .returned (.bool false) ∧ ∃ q, w' = w.drewN q := by
  have hH := Lib.hid (fun q => holds_no pv size x (w.drewN q) (hsz q) hx)
  clear hsz
  go_enter Try.func11, Try.ntmps11
  go_wp2
  go_quiet (first | (go_at_call 19; exact mquiet (hH.out _)))
  go_wp2
  go_ret
  exact ⟨rfl, _, rfl⟩
/-- Has. -/
theorem has_any (base p size : Nat) (x : Int) (f : Nat → Bool) (w : World) (h : Mk w base p size f) :
    Calls Try.prog 11 #[.pointer (some ⟨p, 0, none⟩), .int .i64 x] w fun e w' => e = .returned (.bool (fi f x)) ∧ ∃ q, w' = w.drewN q := by
  by_cases hx : x < 0 ∨ (size : Int) ≤ x
  · have e : fi f x = false := by
      rcases hx with hx | hx
      · exact fi_neg f hx
      · obtain ⟨i, rfl⟩ : ∃ i : Nat, x = i := ⟨x.toNat, by omega⟩
        rw [fi_nat]; exact h.2.1 i (by omega)
    rw [e]
    exact has_out _ size x w (fun q => msize_any base p size f _ (h.drewN q)) hx
  · obtain ⟨i, rfl⟩ : ∃ i : Nat, x = i := ⟨x.toNat, by omega⟩
    rw [fi_nat]
    exact has_in base p size i f w h (by omega)
theorem has_nil (x : Int) (w : World) :
    Calls Try.prog 11 #[.pointer none, .int .i64 x] w fun e w' => e = .returned (.bool false) ∧ ∃ q, w' = w.drewN q :=
  has_out _ 0 x w (fun q => size_nil _) (by omega)

theorem count_nil (w : World) : Calls Try.prog 15 #[.pointer none] w fun e w' => e = .returned (.int .i64 0) ∧ w = w' := by
  go_enter Try.func15, Try.ntmps15
  go_wp2
  go_ret
  exact ⟨rfl, rfl⟩
set_option maxHeartbeats 800000 in
/-- Count. -/
theorem count_any (base p size : Nat) (f : Nat → Bool) (w : World) (h : Mk w base p size f) :
    Calls Try.prog 15 #[.pointer (some ⟨p, 0, none⟩)] w fun e w' => e = .returned (.int .i64 (cnt f (8 * wid size) : Nat)) ∧ w = w' := by
  obtain ⟨hs, _, _, A, c, hk, ho⟩ := h
  have c1 := hk.cell 1
  simp at c1
  have hr := ho.rk
  have hwd : wid size ≤ 512 := by unfold wid; omega
  generalize wid size = n at *
  clear hk ho
  go_enter Try.func15, Try.ntmps15
  go_wp2
  go_loop [3, 13] (fun a t => ∃ k : Nat, k ≤ n ∧ t = .int .i64 k ∧ a = .int .i64 (cnt f (8 * k) : Nat)) (fun _ t => n - (intOf t).toNat)
  case atStart => exact ⟨0, Nat.zero_le _, rfl, rfl⟩
  case round =>
    obtain ⟨k, hk, rfl, rfl⟩ := hrel
    by_cases hlt : k < n
    · obtain ⟨b, o, rfl, hb, hc⟩ := hr.at_ (by omega)
      have hcell := hc k hlt
      rw [mbs_el _ _ _ hlt] at hcell
      have HS := Lib.hid (cnt_byte f k)
      have h1 := cnt_le f (8 * k)
      have h2 := cnt_le f (8 * (k + 1))
      have h3 : Lib.onesCount (mb f k) ≤ 4104 := by have := HS.out; omega
      have hm := mb_lt f k
      clear hc
      go_wp2_with fail
      refine (ones_any _ _ hm).mono ?_
      rintro e w' ⟨rfl, rfl⟩
      go_wp2
      go_round
      case rel => exact ⟨k + 1, by omega, by go_num, by rw [HS.out]; go_num⟩
      case measure => simp [intOf]; omega
    · obtain rfl : k = n := by omega
      go_wp2
      go_ret
      exact ⟨rfl, rfl⟩
end Go.Proofs.Ytgdmmcjhbpklhaa
