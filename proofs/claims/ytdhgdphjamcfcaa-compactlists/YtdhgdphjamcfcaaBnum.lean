/-
  What the reference's Number does: the bytes of a number in new memory. For all numbers.
-/
import Derived.Test.YtdhgdphjamcfcaaBsize
namespace Go.Proofs.Ytdhgdphjamcfcaa
open Go.RowKit

theorem infoB : (Try.prog.info? 5).map (fun i => (i.zero, i.size, i.bytes)) = some (some (.int .u8 0), 1, 1) := by kernel_rfl
theorem infoQ : (Try.prog.info? 23).map (fun i => (i.zero, i.size, i.bytes)) = some (some (.int .u64 0), 1, 8) := by kernel_rfl
/-- The ending of a call that makes bytes. -/
def OutB (w : World) (bs : List Nat) (e : Ending) (w' : World) : Prop :=
  ∃ A n c, e = .returned (.slice A n c) ∧ Owk .u8 5 w' w.heap.size A n c bs ∧ Below w.heap.size w w'
theorem lits4 (a b c d : Nat) (x y z u : Int) (hx : x = a) (hy : y = b) (hz : z = c) (hu : u = d) : (#[.int .u8 x, .int .u8 y, .int .u8 z, .int .u8 u] : Array Value) = (litsK .u8 [a, b, c, d]).toArray := by subst hx hy hz hu; rfl
theorem lits2 (a b : Nat) (x y : Int) (hx : x = a) (hy : y = b) : (#[.int .u8 x, .int .u8 y] : Array Value) = (litsK .u8 [a, b]).toArray := by subst hx hy; rfl
theorem lits1 (a : Nat) (x : Int) (hx : x = a) : (#[.int .u8 x] : Array Value) = (litsK .u8 [a]).toArray := by subst hx; rfl
theorem outB_new (w : World) (bs : List Nat) (n : Nat) (hn : bs.length = n) (hm : n ≤ 9) (arr : Array Value) (h : arr = (litsK .u8 bs).toArray) : OutB w bs (.returned (.slice (some ⟨w.heap.size, 0, none⟩) n n)) (w.alloc (.cells arr 5)) := by
  subst h
  refine ⟨_, _, _, rfl, ?_, (Below.refl _ _).alloc (Nat.le_refl _) _⟩
  have := (Bkk.new .u8 5 w bs).own (n := n) (c := n) hn (by omega) (Nat.le_refl _) (base := w.heap.size) (Nat.le_refl _)
  rwa [List.take_of_length_le (by omega)] at this
theorem or_low2 (n r : Nat) (h : n < 4611686018427387904) (hr : r < 4) : bits .or .u64 ((n : Int) * 4) (r : Int) = ((4 * n + r : Nat) : Int) := by
  rw [show ((n : Int) * 4) = ((n * 4 : Nat) : Int) by omega, u64_or_nat _ _ (by omega) (by omega), nat_join 2 _ _ (by omega) (by omega)]
  congr 1; omega

def NumRel (w : World) (N : Nat) (nv ov : Value) (wr : World) : Prop :=
  ∃ (k c m : Nat) (A : Option Addr), k ≤ bn N ∧ Hid (N / pb k = m) ∧ nv = .int .u64 (m : Int) ∧ ov = .slice A (k + 1) c ∧ Owk .u8 5 wr w.heap.size A (k + 1) c (0 :: lb k N) ∧ Below w.heap.size w wr

set_option maxHeartbeats 800000 in
/-- The reference's Number. -/
theorem number_any (N : Nat) (w : World) (h : N < 18446744073709551616) :
    Calls Try.prog 11 #[.int .u64 N] w (OutB w (nb N)) := by
  by_cases h1 : N < 64
  · have h1' : (N : Int) < 64 := by omega
    have HV := Lib.hid (show nb N = [4 * N] by unfold nb; rw [if_pos h1])
    go_enter Try.func11, Try.ntmps11
    go_wp2
    go_ret
    rw [HV.out]
    exact outB_new w _ 1 rfl (by omega) _ (lits1 _ _ (by omega))
  · have h1' : ¬ (N : Int) < 64 := by omega
    by_cases h2 : N < 16384
    · have h2' : (N : Int) < 16384 := by omega
      have HV := Lib.hid (show nb N = lb 2 (4 * N + 1) by unfold nb; rw [if_neg h1, if_pos h2])
      have ho := or_low2 N 1 (by omega) (by omega)
      simp only [Int.natCast_one] at ho
      go_enter Try.func11, Try.ntmps11
      go_wp2
      go_ret
      rw [HV.out]
      exact outB_new w _ 2 rfl (by omega) _ (lits2 _ _ _ _ (by omega) (by omega))
    · have h2' : ¬ (N : Int) < 16384 := by omega
      by_cases h3 : N < 1073741824
      · have h3' : (N : Int) < 1073741824 := by omega
        have HV := Lib.hid (show nb N = lb 4 (4 * N + 2) by unfold nb; rw [if_neg h1, if_neg h2, if_pos h3])
        have ho : bits .or .u64 ((N : Int) * 4) 2 = ((4 * N + 2 : Nat) : Int) := or_low2 N 2 (by omega) (by omega)
        go_enter Try.func11, Try.ntmps11
        go_wp2
        go_ret
        rw [HV.out]
        exact outB_new w _ 4 rfl (by omega) _ (lits4 _ _ _ _ _ _ _ _ (by omega) (by omega) (by omega) (by omega))
      · have h3' : ¬ (N : Int) < 1073741824 := by omega
        have hb8 := bn_le N
        have hb4 := bn_ge N
        have HV := Lib.hid (show nb N = (4 * (bn N - 4) + 3) :: lb (bn N) N by unfold nb; rw [if_neg h1, if_neg h2, if_neg h3])
        go_enter Try.func11, Try.ntmps11
        go_wp2
        go_loopw [0, 3] (fun nv ov wr => NumRel w N nv ov wr) (fun nv _ _ => (intOf nv).toNat)
        case atStart => exact ⟨0, 1, N, _, by omega, Lib.hid (by simp [pb]), rfl, rfl, own_one .u8 5 w 0 0 rfl, (Below.refl _ _).alloc (Nat.le_refl _) _⟩
        case round =>
          obtain ⟨k, c, m, A, hk, HM, rfl, rfl, hO, hbel⟩ := hrel
          have hsz := hbel.size
          by_cases hz : m = 0
          · subst hz
            obtain rfl := bn_of (by omega) hk HM.out
            have HO := Lib.hid hO
            obtain ⟨g, rfl, hlo, hlt, hcc, hff⟩ := hO.addr (by omega)
            have hc0 := hcc 0 (by omega)
            have hf0 := hff 0
            clear hcc hff hO
            go_wp2
            go_ret
            refine ⟨_, _, _, rfl, ?_, hbel.setCell hlo _⟩
            rw [HV.out]
            have hS := fun (S : Int) (e : S = ((4 * (bn N - 4) + 3 : Nat) : Int)) => (show Owk .u8 5 (wr.setCell ⟨g, 0, none⟩ (.int .u8 S)) w.heap.size (some ⟨g, 0, none⟩) (bn N + 1) c ((4 * (bn N - 4) + 3) :: lb (bn N) N) by
              subst e; exact HO.out.store 0 (4 * (bn N - 4) + 3))
            exact hS _ (by omega)
          · have hkb := bn_more h (by rw [HM.out]; exact hz)
            have hm : m < 18446744073709551616 := by rw [← HM.out]; exact Nat.lt_of_le_of_lt (Nat.div_le_self _ _) h
            have hz' : 0 < (m : Int) := by omega
            go_wp2_with (at_builtin; refine wpList_appk _ .u8 5 1 rfl (.tmp 44) (.tmp 47) 22 rfl w.heap.size Try.underlying22 infoB _ _ _ _ 1 1 (0 :: lb k N) [m % 256] rfl rfl (hO.alloc _) (rk_one _ _ _ _ _ (by omega)) (by unfold maxLen; omega) (by omega) (by simp; omega) ?_; intro A1 c1 w1 hO1 hb1)
            go_roundw
            case rel => exact ⟨k + 1, c1, m / 256, A1, by omega, Lib.hid (by rw [pb_succ, Nat.mul_comm, ← Nat.div_div_eq_div_mul, HM.out]), by go_num, rfl, by rw [lb_succ, HM.out]; exact hO1, (hbel.alloc hsz _).trans hb1⟩
            case measure => simp [intOf]; omega
end Go.Proofs.Ytdhgdphjamcfcaa
