/-
  What bits.Div64 answers: the quotient, where it is below 2^64. For all numbers below 2^64.
-/
import Derived.Test.YtcpeofgfppgooaaGuess
import Derived.Test.YtcpeofgfppgooaaYlen
import Derived.Test.YtcpeofgfppgooaaYmul
import Derived.Deep.LoopGhost
namespace Go.Proofs.Ytcpeofgfppgooaa
open Go.RowKit

/-- The end of a call that gives the number and another one. -/
def OutQo (w : World) (q : Nat) (e : Ending) (w' : World) : Prop := ∃ (r : Int) (k : Nat), e = .returned (.tuple #[.int .u64 (q : Int), .int .u64 r]) ∧ w' = w.drewN k
set_option maxHeartbeats 1000000 in
theorem div64_low (lo y : Nat) (w : World) (h0 : 0 < y) (hy : y < 18446744073709551616) (hl : lo < 18446744073709551616) :
    Calls Try.prog 22 #[.int .u64 (0 : Nat), .int .u64 lo, .int .u64 y] w (OutQo w (lo / y)) := by
  have h1 : ((y : Int) == 0) = false := by simp; omega
  have h2 : ¬ ((y : Int) ≤ 0) := by omega
  have hq : lo / y ≤ lo := Nat.div_le_self _ _
  have e1 : IntKind.u64.wrap ((lo : Int) / (y : Int)) = ((lo / y : Nat) : Int) := by
    rw [← Int.natCast_ediv, wrap_fits _ (by omega)]
  generalize lo / y = z at *
  go_enter Try.func22, Try.ntmps22
  go_wp2
  go_quiet (fail)
  go_wp2
  go_ret2
  exact ⟨_, _, rfl, rfl⟩

/-- The loop of a digit: it is not below Q; it times the first half of the divisor, and the rest, are the top. -/
def DvRel (w : World) (Q T v1 k : Nat) (gv rv : Value) (wr : World) : Prop := ∃ G R : Nat, gv = .int .u64 G ∧ rv = .int .u64 R ∧ G * v1 + R = T ∧ Q ≤ G ∧ R < 4294967296 ∧ k + R = 4294967296 ∧ w = wr
theorem dv_eq {G Q Y R A : Nat} (h : G * Y ≤ A) (hQ : Q * Y + R = A) (hR : R < Y) (hG : Q ≤ G) : G = Q := by
  rcases Nat.lt_or_ge Q G with hh | hh
  · exfalso
    have : (Q + 1) * Y ≤ G * Y := Nat.mul_le_mul_right _ hh
    rw [Nat.add_mul] at this
    omega
  · omega
theorem dv_lt {Q Y R T u : Nat} (hQ : Q * Y + R = T * 4294967296 + u) (hT : T < Y) (hu : u < 4294967296) : Q < 4294967296 := by
  rcases Nat.lt_or_ge Q 4294967296 with hh | hh
  · exact hh
  · exfalso
    have h1 : 4294967296 * Y ≤ Q * Y := Nat.mul_le_mul_right _ hh
    omega
/-- What is left behind a digit, in words that run over. -/
theorem dv_rest {Q Y R T u : Nat} (hQ : Q * Y + R = T * 4294967296 + u) (hR : R < 18446744073709551616) :
    IntKind.u64.wrap (IntKind.u64.wrap (IntKind.u64.wrap ((T : Int) * 4294967296) + (u : Int)) - IntKind.u64.wrap ((Q : Int) * (Y : Int))) = (R : Int) := by
  rw [← Int.natCast_mul]
  generalize Q * Y = P at *
  simp only [IntKind.wrap_u64]
  omega
theorem dv_quo {T v G P : Nat} (h : G * v + P = T) (hP : P < v) (hT : T < 18446744073709551616) : IntKind.u64.wrap ((T : Int) / (v : Int)) = (G : Int) := by
  have e : T / v = G := by rw [← h, Nat.mul_comm, Nat.mul_add_div (by omega), Nat.div_eq_of_lt hP]; rfl
  have hq : T / v ≤ T := Nat.div_le_self _ _
  rw [← Int.natCast_ediv, wrap_fits _ (by omega), e]
theorem dv_rem {T v G P : Nat} (h : G * v + P = T) (hT : T < 18446744073709551616) : IntKind.u64.wrap ((T : Int) - IntKind.u64.wrap ((G : Int) * (v : Int))) = (P : Int) := by
  rw [← Int.natCast_mul]
  generalize G * v = A at *
  simp only [IntKind.wrap_u64]
  omega

set_option maxHeartbeats 4000000 in
set_option maxRecDepth 100000 in
theorem div64_core (hi lo y s Y v1 v2 T L u1 u0 Q1 R1 Q0 R0 G1 P1 G0 P0 : Nat) (w : World) (h0 : 0 < hi) (hlt : hi < y) (hy : y < 18446744073709551616) (HS : Hid (lz64 y = s)) (hs6 : s ≤ 63)
    (e1 : IntKind.u64.wrap ((y : Int) * 2 ^ s) = (Y : Int)) (e2 : (Y : Int) / 4294967296 = (v1 : Int)) (e3 : bits .and .u64 (Y : Int) 4294967295 = (v2 : Int))
    (e4 : bits .or .u64 (IntKind.u64.wrap ((hi : Int) * 2 ^ s)) ((lo : Int) / 2 ^ (64 - s)) = (T : Int)) (e5 : IntKind.u64.wrap ((lo : Int) * 2 ^ s) = (L : Int))
    (e6 : (L : Int) / 4294967296 = (u1 : Int)) (e7 : bits .and .u64 (L : Int) 4294967295 = (u0 : Int))
    (HY : Hid (Y = v1 * 4294967296 + v2)) (hT : T < Y) (hYl : Y < 18446744073709551616) (hv1 : 2147483648 ≤ v1) (hv1l : v1 < 4294967296) (hv2 : v2 < 4294967296) (hu1 : u1 < 4294967296) (hu0 : u0 < 4294967296)
    (H1 : Hid (Q1 * Y + R1 = T * 4294967296 + u1)) (hR1 : R1 < Y) (H0 : Hid (Q0 * Y + R0 = R1 * 4294967296 + u0)) (hR0 : R0 < Y)
    (K1 : Hid (G1 * v1 + P1 = T)) (hP1 : P1 < v1) (K0 : Hid (G0 * v1 + P0 = R1)) (hP0 : P0 < v1) :
    Calls Try.prog 22 #[.int .u64 hi, .int .u64 lo, .int .u64 y] w (OutQo w (Q1 * 4294967296 + Q0)) := by
  have h1 : ((y : Int) == 0) = false := by simp; omega
  have h2 : ¬ ((y : Int) ≤ hi) := by omega
  have h3 : ((hi : Int) == 0) = false := by simp; omega
  have h4 : ((v1 : Int) == 0) = false := by simp; omega
  have hQ1 := dv_lt H1.out hT hu1
  have hQ0 := dv_lt H0.out hR1 hu0
  have e8 := dv_rest H1.out (by omega)
  have e9 := dv_quo K1.out hP1 (by omega)
  have e10 := dv_rem K1.out (by omega)
  have e11 := dv_quo K0.out hP0 (by omega)
  have e12 := dv_rem K0.out (by omega)
  have HQ1 : Hid (Q1 * (v1 * 4294967296 + v2) ≤ T * 4294967296 + u1) := by have := H1.out; rw [HY.out] at this; show _ ≤ _; omega
  have HQ0 : Hid (Q0 * (v1 * 4294967296 + v2) ≤ R1 * 4294967296 + u0) := by have := H0.out; rw [HY.out] at this; show _ ≤ _; omega
  have HTv := Lib.hid (show T / 4294967296 ≤ v1 by have := HY.out; omega)
  have HRv := Lib.hid (show R1 / 4294967296 ≤ v1 by have := HY.out; omega)
  go_enter Try.func22, Try.ntmps22
  go_wp2_with fail
  refine (lz64_any y _ (by omega) hy).mono ?_
  rw [HS.out]
  rintro e w' ⟨rfl, rfl⟩
  go_wp2
  go_loopg [15, 16] (4294967296 - P1) (fun k gv rv wr => DvRel w Q1 T v1 k gv rv wr)
  case atStart => exact ⟨G1, P1, rfl, rfl, K1.out, Nat.le_trans (gu_start (by omega) hu1 HQ1.out) (by rw [← K1.out, Nat.mul_comm, Nat.mul_add_div (by omega), Nat.div_eq_of_lt hP1]; omega), by omega, by omega, rfl⟩
  case round =>
    obtain ⟨G, R, rfl, rfl, hGR, hQG, hRl, hgk, rfl⟩ := hrel
    have HG := Lib.hid hGR
    clear hGR
    have hGT : G ≤ T := by
      have h1 := HG.out
      have h2 : G * 1 ≤ G * v1 := Nat.mul_le_mul_left _ (by omega)
      omega
    by_cases hGb : 4294967296 ≤ G
    · have hG' : (4294967296 : Int) ≤ (G : Int) := by omega
      have hQlt : Q1 < G := by omega
      have hG1 : (G - 1) * v1 + (R + v1) = T := by
        have h1 := HG.out
        have : (G - 1) * v1 + v1 = G * v1 := by rw [← Nat.succ_mul]; congr 1; omega
        omega
      have HG1 := Lib.hid hG1
      clear hG1
      by_cases hR : R + v1 < 4294967296
      · have hR' : decide ((4294967296 : Int) ≤ (R : Int) + (v1 : Int)) = false := by simp; omega
        go_wp2
        go_roundg (gk - v1)
        case rel => exact ⟨G - 1, R + v1, by go_num, by go_num, HG1.out, by omega, hR, by omega, rfl⟩
        case measure => omega
      · have hR' : decide ((4294967296 : Int) ≤ (R : Int) + (v1 : Int)) = true := by simp; omega
        have hGs := gu_small HG1.out (show T % 4294967296 + 4294967296 * (T / 4294967296) = T by omega) (by omega) HTv.out (by omega)
        have HF := Lib.hid (gu_exit HG1.out (gu_big (u0 := u1) hGs hv2 (by omega)))
        have hGQ : G - 1 = Q1 := dv_eq (by rw [HY.out]; exact HF.out) H1.out hR1 (by omega)
        have hGi : (G : Int) - 1 = (Q1 : Int) := by omega
        clear HF HG1 HG
        go_wp2
        go_loopg [18, 16] (4294967296 - P0) (fun k gv rv wr => DvRel w Q0 R1 v1 k gv rv wr)
        case atStart => exact ⟨G0, P0, rfl, rfl, K0.out, Nat.le_trans (gu_start (by omega) hu0 HQ0.out) (by rw [← K0.out, Nat.mul_comm, Nat.mul_add_div (by omega), Nat.div_eq_of_lt hP0]; omega), by omega, by omega, rfl⟩
        case round =>
          obtain ⟨G, R, rfl, rfl, hGR, hQG, hRl, hgk, rfl⟩ := hrel
          have HG := Lib.hid hGR
          clear hGR
          have hGT : G ≤ R1 := by
            have h1 := HG.out
            have h2 : G * 1 ≤ G * v1 := Nat.mul_le_mul_left _ (by omega)
            omega
          by_cases hGb : 4294967296 ≤ G
          · have hG' : (4294967296 : Int) ≤ (G : Int) := by omega
            have hQlt : Q0 < G := by omega
            have hG1 : (G - 1) * v1 + (R + v1) = R1 := by
              have h1 := HG.out
              have : (G - 1) * v1 + v1 = G * v1 := by rw [← Nat.succ_mul]; congr 1; omega
              omega
            have HG1 := Lib.hid hG1
            clear hG1
            by_cases hR : R + v1 < 4294967296
            · have hR' : decide ((4294967296 : Int) ≤ (R : Int) + (v1 : Int)) = false := by simp; omega
              go_wp2
              go_roundg (gk - v1)
              case rel => exact ⟨G - 1, R + v1, by go_num, by go_num, HG1.out, by omega, hR, by omega, rfl⟩
              case measure => omega
            · have hR' : decide ((4294967296 : Int) ≤ (R : Int) + (v1 : Int)) = true := by simp; omega
              have hGs := gu_small HG1.out (show R1 % 4294967296 + 4294967296 * (R1 / 4294967296) = R1 by omega) (by omega) HRv.out (by omega)
              have HF := Lib.hid (gu_exit HG1.out (gu_big (u0 := u0) hGs hv2 (by omega)))
              have hGQ : G - 1 = Q0 := dv_eq (by rw [HY.out]; exact HF.out) H0.out hR0 (by omega)
              have hGi : (G : Int) - 1 = (Q0 : Int) := by omega
              clear HF HG1 HG
              go_wp2
              go_ret2
              exact ⟨_, 0, by go_num, rfl⟩
          · have hG' : ¬ ((4294967296 : Int) ≤ (G : Int)) := by omega
            have hmul := mul_le G v2 (by omega) hv2
            by_cases hlt2 : u0 + 4294967296 * R < G * v2
            · have hlt' : (4294967296 : Int) * (R : Int) + (u0 : Int) < (G : Int) * (v2 : Int) := by rw [← Int.natCast_mul]; omega
              have hQlt := gu_dec (u0 := u0) HG.out hlt2 HQ0.out
              have hG1 : (G - 1) * v1 + (R + v1) = R1 := by
                have h1 := HG.out
                have : (G - 1) * v1 + v1 = G * v1 := by rw [← Nat.succ_mul]; congr 1; omega
                omega
              have HG1 := Lib.hid hG1
              clear hG1
              by_cases hR : R + v1 < 4294967296
              · have hR' : decide ((4294967296 : Int) ≤ (R : Int) + (v1 : Int)) = false := by simp; omega
                go_wp2
                go_roundg (gk - v1)
                case rel => exact ⟨G - 1, R + v1, by go_num, by go_num, HG1.out, by omega, hR, by omega, rfl⟩
                case measure => omega
              · have hR' : decide ((4294967296 : Int) ≤ (R : Int) + (v1 : Int)) = true := by simp; omega
                have hGs := gu_small HG1.out (show R1 % 4294967296 + 4294967296 * (R1 / 4294967296) = R1 by omega) (by omega) HRv.out (by omega)
                have HF := Lib.hid (gu_exit HG1.out (gu_big (u0 := u0) hGs hv2 (by omega)))
                have hGQ : G - 1 = Q0 := dv_eq (by rw [HY.out]; exact HF.out) H0.out hR0 (by omega)
                have hGi : (G : Int) - 1 = (Q0 : Int) := by omega
                clear HF HG1 HG
                go_wp2
                go_ret2
                exact ⟨_, 0, by go_num, rfl⟩
            · have hlt' : decide ((4294967296 : Int) * (R : Int) + (u0 : Int) < (G : Int) * (v2 : Int)) = false := by rw [← Int.natCast_mul, decide_eq_false_iff_not]; omega
              have HF := Lib.hid (gu_exit (u0 := u0) (v2 := v2) HG.out (by omega))
              have hGQ : G = Q0 := dv_eq (by rw [HY.out]; exact HF.out) H0.out hR0 (by omega)
              clear HF HG
              subst hGQ
              go_wp2
              go_ret2
              exact ⟨_, 0, by go_num, rfl⟩
    · have hG' : ¬ ((4294967296 : Int) ≤ (G : Int)) := by omega
      have hmul := mul_le G v2 (by omega) hv2
      by_cases hlt2 : u1 + 4294967296 * R < G * v2
      · have hlt' : (4294967296 : Int) * (R : Int) + (u1 : Int) < (G : Int) * (v2 : Int) := by rw [← Int.natCast_mul]; omega
        have hQlt := gu_dec (u0 := u1) HG.out hlt2 HQ1.out
        have hG1 : (G - 1) * v1 + (R + v1) = T := by
          have h1 := HG.out
          have : (G - 1) * v1 + v1 = G * v1 := by rw [← Nat.succ_mul]; congr 1; omega
          omega
        have HG1 := Lib.hid hG1
        clear hG1
        by_cases hR : R + v1 < 4294967296
        · have hR' : decide ((4294967296 : Int) ≤ (R : Int) + (v1 : Int)) = false := by simp; omega
          go_wp2
          go_roundg (gk - v1)
          case rel => exact ⟨G - 1, R + v1, by go_num, by go_num, HG1.out, by omega, hR, by omega, rfl⟩
          case measure => omega
        · have hR' : decide ((4294967296 : Int) ≤ (R : Int) + (v1 : Int)) = true := by simp; omega
          have hGs := gu_small HG1.out (show T % 4294967296 + 4294967296 * (T / 4294967296) = T by omega) (by omega) HTv.out (by omega)
          have HF := Lib.hid (gu_exit HG1.out (gu_big (u0 := u1) hGs hv2 (by omega)))
          have hGQ : G - 1 = Q1 := dv_eq (by rw [HY.out]; exact HF.out) H1.out hR1 (by omega)
          have hGi : (G : Int) - 1 = (Q1 : Int) := by omega
          clear HF HG1 HG
          go_wp2
          go_loopg [18, 16] (4294967296 - P0) (fun k gv rv wr => DvRel w Q0 R1 v1 k gv rv wr)
          case atStart => exact ⟨G0, P0, rfl, rfl, K0.out, Nat.le_trans (gu_start (by omega) hu0 HQ0.out) (by rw [← K0.out, Nat.mul_comm, Nat.mul_add_div (by omega), Nat.div_eq_of_lt hP0]; omega), by omega, by omega, rfl⟩
          case round =>
            obtain ⟨G, R, rfl, rfl, hGR, hQG, hRl, hgk, rfl⟩ := hrel
            have HG := Lib.hid hGR
            clear hGR
            have hGT : G ≤ R1 := by
              have h1 := HG.out
              have h2 : G * 1 ≤ G * v1 := Nat.mul_le_mul_left _ (by omega)
              omega
            by_cases hGb : 4294967296 ≤ G
            · have hG' : (4294967296 : Int) ≤ (G : Int) := by omega
              have hQlt : Q0 < G := by omega
              have hG1 : (G - 1) * v1 + (R + v1) = R1 := by
                have h1 := HG.out
                have : (G - 1) * v1 + v1 = G * v1 := by rw [← Nat.succ_mul]; congr 1; omega
                omega
              have HG1 := Lib.hid hG1
              clear hG1
              by_cases hR : R + v1 < 4294967296
              · have hR' : decide ((4294967296 : Int) ≤ (R : Int) + (v1 : Int)) = false := by simp; omega
                go_wp2
                go_roundg (gk - v1)
                case rel => exact ⟨G - 1, R + v1, by go_num, by go_num, HG1.out, by omega, hR, by omega, rfl⟩
                case measure => omega
              · have hR' : decide ((4294967296 : Int) ≤ (R : Int) + (v1 : Int)) = true := by simp; omega
                have hGs := gu_small HG1.out (show R1 % 4294967296 + 4294967296 * (R1 / 4294967296) = R1 by omega) (by omega) HRv.out (by omega)
                have HF := Lib.hid (gu_exit HG1.out (gu_big (u0 := u0) hGs hv2 (by omega)))
                have hGQ : G - 1 = Q0 := dv_eq (by rw [HY.out]; exact HF.out) H0.out hR0 (by omega)
                have hGi : (G : Int) - 1 = (Q0 : Int) := by omega
                clear HF HG1 HG
                go_wp2
                go_ret2
                exact ⟨_, 0, by go_num, rfl⟩
            · have hG' : ¬ ((4294967296 : Int) ≤ (G : Int)) := by omega
              have hmul := mul_le G v2 (by omega) hv2
              by_cases hlt2 : u0 + 4294967296 * R < G * v2
              · have hlt' : (4294967296 : Int) * (R : Int) + (u0 : Int) < (G : Int) * (v2 : Int) := by rw [← Int.natCast_mul]; omega
                have hQlt := gu_dec (u0 := u0) HG.out hlt2 HQ0.out
                have hG1 : (G - 1) * v1 + (R + v1) = R1 := by
                  have h1 := HG.out
                  have : (G - 1) * v1 + v1 = G * v1 := by rw [← Nat.succ_mul]; congr 1; omega
                  omega
                have HG1 := Lib.hid hG1
                clear hG1
                by_cases hR : R + v1 < 4294967296
                · have hR' : decide ((4294967296 : Int) ≤ (R : Int) + (v1 : Int)) = false := by simp; omega
                  go_wp2
                  go_roundg (gk - v1)
                  case rel => exact ⟨G - 1, R + v1, by go_num, by go_num, HG1.out, by omega, hR, by omega, rfl⟩
                  case measure => omega
                · have hR' : decide ((4294967296 : Int) ≤ (R : Int) + (v1 : Int)) = true := by simp; omega
                  have hGs := gu_small HG1.out (show R1 % 4294967296 + 4294967296 * (R1 / 4294967296) = R1 by omega) (by omega) HRv.out (by omega)
                  have HF := Lib.hid (gu_exit HG1.out (gu_big (u0 := u0) hGs hv2 (by omega)))
                  have hGQ : G - 1 = Q0 := dv_eq (by rw [HY.out]; exact HF.out) H0.out hR0 (by omega)
                  have hGi : (G : Int) - 1 = (Q0 : Int) := by omega
                  clear HF HG1 HG
                  go_wp2
                  go_ret2
                  exact ⟨_, 0, by go_num, rfl⟩
              · have hlt' : decide ((4294967296 : Int) * (R : Int) + (u0 : Int) < (G : Int) * (v2 : Int)) = false := by rw [← Int.natCast_mul, decide_eq_false_iff_not]; omega
                have HF := Lib.hid (gu_exit (u0 := u0) (v2 := v2) HG.out (by omega))
                have hGQ : G = Q0 := dv_eq (by rw [HY.out]; exact HF.out) H0.out hR0 (by omega)
                clear HF HG
                subst hGQ
                go_wp2
                go_ret2
                exact ⟨_, 0, by go_num, rfl⟩
      · have hlt' : decide ((4294967296 : Int) * (R : Int) + (u1 : Int) < (G : Int) * (v2 : Int)) = false := by rw [← Int.natCast_mul, decide_eq_false_iff_not]; omega
        have HF := Lib.hid (gu_exit (u0 := u1) (v2 := v2) HG.out (by omega))
        have hGQ : G = Q1 := dv_eq (by rw [HY.out]; exact HF.out) H1.out hR1 (by omega)
        clear HF HG
        subst hGQ
        go_wp2
        go_loopg [18, 16] (4294967296 - P0) (fun k gv rv wr => DvRel w Q0 R1 v1 k gv rv wr)
        case atStart => exact ⟨G0, P0, rfl, rfl, K0.out, Nat.le_trans (gu_start (by omega) hu0 HQ0.out) (by rw [← K0.out, Nat.mul_comm, Nat.mul_add_div (by omega), Nat.div_eq_of_lt hP0]; omega), by omega, by omega, rfl⟩
        case round =>
          obtain ⟨G, R, rfl, rfl, hGR, hQG, hRl, hgk, rfl⟩ := hrel
          have HG := Lib.hid hGR
          clear hGR
          have hGT : G ≤ R1 := by
            have h1 := HG.out
            have h2 : G * 1 ≤ G * v1 := Nat.mul_le_mul_left _ (by omega)
            omega
          by_cases hGb : 4294967296 ≤ G
          · have hG' : (4294967296 : Int) ≤ (G : Int) := by omega
            have hQlt : Q0 < G := by omega
            have hG1 : (G - 1) * v1 + (R + v1) = R1 := by
              have h1 := HG.out
              have : (G - 1) * v1 + v1 = G * v1 := by rw [← Nat.succ_mul]; congr 1; omega
              omega
            have HG1 := Lib.hid hG1
            clear hG1
            by_cases hR : R + v1 < 4294967296
            · have hR' : decide ((4294967296 : Int) ≤ (R : Int) + (v1 : Int)) = false := by simp; omega
              go_wp2
              go_roundg (gk - v1)
              case rel => exact ⟨G - 1, R + v1, by go_num, by go_num, HG1.out, by omega, hR, by omega, rfl⟩
              case measure => omega
            · have hR' : decide ((4294967296 : Int) ≤ (R : Int) + (v1 : Int)) = true := by simp; omega
              have hGs := gu_small HG1.out (show R1 % 4294967296 + 4294967296 * (R1 / 4294967296) = R1 by omega) (by omega) HRv.out (by omega)
              have HF := Lib.hid (gu_exit HG1.out (gu_big (u0 := u0) hGs hv2 (by omega)))
              have hGQ : G - 1 = Q0 := dv_eq (by rw [HY.out]; exact HF.out) H0.out hR0 (by omega)
              have hGi : (G : Int) - 1 = (Q0 : Int) := by omega
              clear HF HG1 HG
              go_wp2
              go_ret2
              exact ⟨_, 0, by go_num, rfl⟩
          · have hG' : ¬ ((4294967296 : Int) ≤ (G : Int)) := by omega
            have hmul := mul_le G v2 (by omega) hv2
            by_cases hlt2 : u0 + 4294967296 * R < G * v2
            · have hlt' : (4294967296 : Int) * (R : Int) + (u0 : Int) < (G : Int) * (v2 : Int) := by rw [← Int.natCast_mul]; omega
              have hQlt := gu_dec (u0 := u0) HG.out hlt2 HQ0.out
              have hG1 : (G - 1) * v1 + (R + v1) = R1 := by
                have h1 := HG.out
                have : (G - 1) * v1 + v1 = G * v1 := by rw [← Nat.succ_mul]; congr 1; omega
                omega
              have HG1 := Lib.hid hG1
              clear hG1
              by_cases hR : R + v1 < 4294967296
              · have hR' : decide ((4294967296 : Int) ≤ (R : Int) + (v1 : Int)) = false := by simp; omega
                go_wp2
                go_roundg (gk - v1)
                case rel => exact ⟨G - 1, R + v1, by go_num, by go_num, HG1.out, by omega, hR, by omega, rfl⟩
                case measure => omega
              · have hR' : decide ((4294967296 : Int) ≤ (R : Int) + (v1 : Int)) = true := by simp; omega
                have hGs := gu_small HG1.out (show R1 % 4294967296 + 4294967296 * (R1 / 4294967296) = R1 by omega) (by omega) HRv.out (by omega)
                have HF := Lib.hid (gu_exit HG1.out (gu_big (u0 := u0) hGs hv2 (by omega)))
                have hGQ : G - 1 = Q0 := dv_eq (by rw [HY.out]; exact HF.out) H0.out hR0 (by omega)
                have hGi : (G : Int) - 1 = (Q0 : Int) := by omega
                clear HF HG1 HG
                go_wp2
                go_ret2
                exact ⟨_, 0, by go_num, rfl⟩
            · have hlt' : decide ((4294967296 : Int) * (R : Int) + (u0 : Int) < (G : Int) * (v2 : Int)) = false := by rw [← Int.natCast_mul, decide_eq_false_iff_not]; omega
              have HF := Lib.hid (gu_exit (u0 := u0) (v2 := v2) HG.out (by omega))
              have hGQ : G = Q0 := dv_eq (by rw [HY.out]; exact HF.out) H0.out hR0 (by omega)
              clear HF HG
              subst hGQ
              go_wp2
              go_ret2
              exact ⟨_, 0, by go_num, rfl⟩
theorem shl_nat (a s : Nat) : (a : Int) * 2 ^ s = ((a * 2 ^ s : Nat) : Int) := by rw [Int.natCast_mul, Int.natCast_pow]; rfl
theorem shr_nat (a s : Nat) : (a : Int) / 2 ^ s = ((a / 2 ^ s : Nat) : Int) := by rw [Int.natCast_ediv, Int.natCast_pow]; rfl
theorem two_digits {T u1 u0 Y Q1 R1 Q0 R0 : Nat} (h1 : Q1 * Y + R1 = T * 4294967296 + u1) (h0 : Q0 * Y + R0 = R1 * 4294967296 + u0) (hR : R0 < Y) :
    (T * 18446744073709551616 + (u1 * 4294967296 + u0)) / Y = Q1 * 4294967296 + Q0 := by
  have e : T * 18446744073709551616 + (u1 * 4294967296 + u0) = Y * (Q1 * 4294967296 + Q0) + R0 := by
    rw [Nat.mul_add, Nat.mul_comm Y Q0, ← Nat.mul_assoc, Nat.mul_comm Y Q1]
    omega
  rw [e, Nat.mul_add_div (by omega), Nat.div_eq_of_lt hR, Nat.add_zero]
theorem div64_any (hi lo y : Nat) (w : World) (hlt : hi < y) (hy : y < 18446744073709551616) (hl : lo < 18446744073709551616) :
    Calls Try.prog 22 #[.int .u64 hi, .int .u64 lo, .int .u64 y] w (OutQo w ((hi * 18446744073709551616 + lo) / y)) := by
  by_cases h0 : 0 < hi
  · obtain ⟨s, hs⟩ : ∃ s, lz64 y = s := ⟨_, rfl⟩
    have hf := lz64_facts (x := y) (by omega) hy
    rw [hs] at hf
    obtain ⟨hs6, hY1, hY2⟩ := hf
    have p0 : 0 < 2 ^ s := Nat.two_pow_pos s
    have pp : 2 ^ (64 - s) * 2 ^ s = 18446744073709551616 := by rw [← Nat.pow_add, show 64 - s + s = 64 by omega]
    have q0 : 0 < 2 ^ (64 - s) := Nat.two_pow_pos _
    have hT1 : (hi + 1) * 2 ^ s ≤ y * 2 ^ s := Nat.mul_le_mul_right _ hlt
    have hd : lo / 2 ^ (64 - s) < 2 ^ s := by rw [Nat.div_lt_iff_lt_mul q0, Nat.mul_comm, pp]; exact hl
    have hlo : lo * 2 ^ s / 18446744073709551616 = lo / 2 ^ (64 - s) := by rw [← pp, Nat.mul_div_mul_right _ _ p0]
    rw [Nat.add_mul] at hT1
    have e4 : bits .or .u64 (IntKind.u64.wrap ((hi : Int) * 2 ^ s)) ((lo : Int) / 2 ^ (64 - s)) = ((hi * 2 ^ s + lo / 2 ^ (64 - s) : Nat) : Int) := by
      rw [shl_nat, shr_nat, wrap_fits _ (by omega), u64_or_nat _ _ (by omega) (by omega), nat_join s _ _ (by rw [Nat.mul_mod_left]) hd]
    have key : (hi * 18446744073709551616 + lo) / y = ((hi * 2 ^ s + lo / 2 ^ (64 - s)) * 18446744073709551616 + lo * 2 ^ s % 18446744073709551616) / (y * 2 ^ s) := by
      rw [← Nat.mul_div_mul_right _ y p0]
      congr 1
      rw [Nat.add_mul, ← hlo]
      have := Nat.div_add_mod (lo * 2 ^ s) 18446744073709551616
      rw [Nat.add_mul, Nat.mul_right_comm]
      omega
    rw [key]
    have e1 : IntKind.u64.wrap ((y : Int) * 2 ^ s) = ((y * 2 ^ s : Nat) : Int) := by rw [shl_nat, wrap_fits _ hY2]
    have e5 : IntKind.u64.wrap ((lo : Int) * 2 ^ s) = ((lo * 2 ^ s % 18446744073709551616 : Nat) : Int) := by rw [shl_nat, wrap_low]
    have hL : lo * 2 ^ s % 18446744073709551616 < 18446744073709551616 := by omega
    have hT : hi * 2 ^ s + lo / 2 ^ (64 - s) < y * 2 ^ s := by omega
    generalize lo * 2 ^ s % 18446744073709551616 = L at *
    generalize hi * 2 ^ s + lo / 2 ^ (64 - s) = T at *
    generalize y * 2 ^ s = Y at *
    have hm : ∀ a : Nat, a / Y * Y + a % Y = a := fun a => by rw [Nat.mul_comm]; exact Nat.div_add_mod a Y
    have hm' : ∀ a : Nat, a / (Y / 4294967296) * (Y / 4294967296) + a % (Y / 4294967296) = a := fun a => by rw [Nat.mul_comm]; exact Nat.div_add_mod a _
    have hYp : 0 < Y := by omega
    have hvp : 0 < Y / 4294967296 := by omega
    have two := two_digits (hm (T * 4294967296 + L / 4294967296)) (hm ((T * 4294967296 + L / 4294967296) % Y * 4294967296 + L % 4294967296)) (Nat.mod_lt _ hYp)
    rw [show L / 4294967296 * 4294967296 + L % 4294967296 = L by omega] at two
    rw [two]
    exact div64_core hi lo y s Y (Y / 4294967296) (Y % 4294967296) T L (L / 4294967296) (L % 4294967296) _ _ _ _ _ _ _ _ w h0 hlt hy (Lib.hid hs) hs6 e1 (half_cast Y) (and_low Y (by omega)) e4 e5 (half_cast L) (and_low L hL)
      (Lib.hid (by omega)) hT hY2 (by omega) (by omega) (by omega) (by omega) (by omega) (Lib.hid (hm _)) (Nat.mod_lt _ hYp) (Lib.hid (hm _)) (Nat.mod_lt _ hYp) (Lib.hid (hm' _)) (Nat.mod_lt _ hvp) (Lib.hid (hm' _)) (Nat.mod_lt _ hvp)
  · obtain rfl : hi = 0 := by omega
    rw [Nat.zero_mul, Nat.zero_add]
    exact div64_low lo y w hlt hy hl
end Go.Proofs.Ytcpeofgfppgooaa
