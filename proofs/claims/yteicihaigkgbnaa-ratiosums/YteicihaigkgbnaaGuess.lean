/-
  What limb.guessLimb does: a limb of the quotient, right or too great by 1. For a window and a divisor that lie in rows known whole, the divisor's last limb not 0.
-/
import Derived.Test.YteicihaigkgbnaaShift
import Derived.Test.YteicihaigkgbnaaCmp
import Derived.Test.YteicihaigkgbnaaMul
namespace Go.Proofs.Yteicihaigkgbnaa
open Go.RowKit

/-- The loop: Q is not above the guess, and the guess times the first limb, and the rest, are the top. -/
def GuRel (Q T v1 : Nat) (gv rv : Value) : Prop :=
  ∃ G R : Nat, gv = .int .u64 G ∧ rv = .int .u64 R ∧ G * v1 + R = T ∧ Q ≤ G ∧ R < 8589934592
def GuP (w : World) (Q D T3 : Nat) (e : Ending) (w' : World) : Prop :=
  ∃ G : Nat, e = .returned (.int .u64 G) ∧ (∃ q, w' = w.drewN q) ∧ Q ≤ G ∧ G < 4294967296 ∧ G * D ≤ T3
theorem gu_dec {G R T v1 v2 u0 Q : Nat} (h : G * v1 + R = T) (hlt : u0 + 4294967296 * R < G * v2) (hQ : Q * (v1 * 4294967296 + v2) ≤ T * 4294967296 + u0) : Q < G := by
  rcases Nat.lt_or_ge Q G with hh | hh
  · exact hh
  · have h1 : G * (v1 * 4294967296 + v2) ≤ Q * (v1 * 4294967296 + v2) := Nat.mul_le_mul_right _ hh
    rw [Nat.mul_add, ← Nat.mul_assoc] at h1
    have h2 : (G * v1 + R) * 4294967296 = T * 4294967296 := by rw [h]
    omega
theorem gu_small {G R T v1 u1 u2 : Nat} (h : G * v1 + R = T) (hT : u1 + 4294967296 * u2 = T) (hR : 4294967296 ≤ R) (hu : u2 ≤ v1) (h1 : u1 < 4294967296) : G < 4294967296 := by
  rcases Nat.lt_or_ge G 4294967296 with hh | hh
  · exact hh
  · have : 4294967296 * v1 ≤ G * v1 := Nat.mul_le_mul_right _ hh
    omega
theorem gu_exit {G R T v1 v2 u0 : Nat} (h : G * v1 + R = T) (hle : G * v2 ≤ u0 + 4294967296 * R) : G * (v1 * 4294967296 + v2) ≤ T * 4294967296 + u0 := by
  rw [Nat.mul_add, ← Nat.mul_assoc]
  have h2 : (G * v1 + R) * 4294967296 = T * 4294967296 := by rw [h]
  omega
theorem gu_big {G v2 u0 R : Nat} (hG : G < 4294967296) (hv : v2 < 4294967296) (hR : 4294967296 ≤ R) : G * v2 ≤ u0 + 4294967296 * R := by
  have := mul_le G v2 hG hv
  omega
theorem gu_start {T v1 v2 u0 Q : Nat} (hv : 0 < v1) (h0 : u0 < 4294967296) (hQ : Q * (v1 * 4294967296 + v2) ≤ T * 4294967296 + u0) : Q ≤ T / v1 := by
  rw [Nat.le_div_iff_mul_le hv]
  rw [Nat.mul_add, ← Nat.mul_assoc] at hQ
  omega

set_option maxHeartbeats 1600000 in
theorem guess_any (g g2 i n cw cd Q : Nat) (rs es : List Nat) (w : World) (hB : Blk w g rs) (hE : Blk w g2 es) (hrL : Lim rs) (heL : Lim es) (hn : 2 ≤ n) (hnn : n ≤ 900000) (hin : i + n + 1 ≤ rs.length) (hen : n ≤ es.length)
    (hv : 0 < el es (n - 1)) (hu : el rs (i + n) ≤ el es (n - 1)) (hQ : Q < 4294967296)
    (hQ2 : Q * (el es (n - 1) * 4294967296 + el es (n - 2)) ≤ (el rs (i + n) * 4294967296 + el rs (i + (n - 1))) * 4294967296 + el rs (i + (n - 2))) :
    Calls Try.prog 87 #[.slice (some ⟨g, i, none⟩) (n + 1) cw, .slice (some ⟨g2, 0, none⟩) n cd] w
      (GuP w Q (el es (n - 1) * 4294967296 + el es (n - 2)) ((el rs (i + n) * 4294967296 + el rs (i + (n - 1))) * 4294967296 + el rs (i + (n - 2)))) := by
  have c0 := hB.cell (i := i + (n - 2)) (by omega)
  have c1 := hB.cell (i := i + (n - 1)) (by omega)
  have c2 := hB.cell (i := i + n) (by omega)
  have d1 := hE.cell (i := n - 1) (by omega)
  have d2 := hE.cell (i := n - 2) (by omega)
  have b0 := el_lt hrL (i + (n - 2))
  have b1 := el_lt hrL (i + (n - 1))
  have b2 := el_lt hrL (i + n)
  have e1 := el_lt heL (n - 1)
  have e2 := el_lt heL (n - 2)
  generalize el rs (i + (n - 2)) = u0 at *
  generalize el rs (i + (n - 1)) = u1 at *
  generalize el rs (i + n) = u2 at *
  generalize el es (n - 1) = v1 at *
  generalize el es (n - 2) = v2 at *
  have hor := or_lo u1 u2 b1 b2
  obtain ⟨T, hT⟩ : ∃ T, u1 + 4294967296 * u2 = T := ⟨_, rfl⟩
  rw [hT] at hor
  have HT := Lib.hid hT
  have HQ2 := Lib.hid hQ2
  have hTl : T < 18446744073709551616 := by omega
  clear hT hQ2
  have hvz : ((v1 : Int) == 0) = false := by simp; omega
  have n1 : (0 : Int) ≤ (n : Int) - 1 := by omega
  have n2 : (0 : Int) ≤ (n : Int) - 2 := by omega
  have m1 : (n : Int) - 1 < (n : Int) + 1 := by omega
  have m2 : (n : Int) - 2 < (n : Int) + 1 := by omega
  have m3 : (n : Int) - 1 < (n : Int) := by omega
  have m4 : (n : Int) - 2 < (n : Int) := by omega
  have t1 : ((n : Int) - 1).toNat = n - 1 := by omega
  have t2 : ((n : Int) - 2).toNat = n - 2 := by omega
  go_enter Try.func87, Try.ntmps87
  go_wp2
  go_quiet (fail)
  go_wp2
  go_quiet (fail)
  go_wp2
  go_quiet (fail)
  go_wp2
  have HQ3 : Hid (Q * (v1 * 4294967296 + v2) ≤ T * 4294967296 + u0) := by
    have h1 := HQ2.out
    have h2 := HT.out
    show _ ≤ _
    rw [show (u2 * 4294967296 + u1) = T by omega] at h1
    exact h1
  have hdv : T / v1 ≤ T := Nat.div_le_self T v1
  have hmv : T % v1 < v1 := Nat.mod_lt T hv
  go_loop [9, 10] (fun gv rv => GuRel Q T v1 gv rv) (fun _ rv => 4294967296 - (intOf rv).toNat)
  case atStart =>
    refine ⟨T / v1, T % v1, ?_, ?_, ?_, gu_start hv b0 HQ3.out, by omega⟩
    · rw [← Int.natCast_ediv, IntKind.wrap_u64]
      generalize T / v1 = z at *
      congr 1; omega
    · rw [Int.natCast_emod]
    · rw [Nat.mul_comm]; exact Nat.div_add_mod T v1
  case round =>
    obtain ⟨G, R, rfl, rfl, hGR, hQG, hRl⟩ := hrel
    have HG := Lib.hid hGR
    clear hGR hdv hmv
    have hGT : G ≤ T := by
      have h1 := HG.out
      have h2 : G * 1 ≤ G * v1 := Nat.mul_le_mul_left _ hv
      omega
    by_cases hR : 4294967296 ≤ R
    · have hGs := gu_small HG.out HT.out hR hu b1
      have HF := Lib.hid (gu_exit HG.out (gu_big (u0 := u0) hGs e2 hR))
      have hR' : ¬ ((R : Int) < 4294967296) := by omega
      have hR2 : decide ((R : Int) < 4294967296) = false := by simp; omega
      go_wp2
      go_ret
      exact ⟨G, rfl, ⟨_, rfl⟩, hQG, hGs, by have := HF.out; have h2 := HT.out; rw [show (u2 * 4294967296 + u1) = T by omega]; exact this⟩
    · have hR' : ((R : Int) < 4294967296) := by omega
      by_cases hGb : 4294967296 ≤ G
      · have hG' : (4294967296 : Int) ≤ (G : Int) := by omega
        go_wp2
        go_round
        case rel => exact ⟨G - 1, R + v1, by go_num, by go_num, by have h1 := HG.out; have : (G - 1) * v1 + v1 = G * v1 := by rw [← Nat.succ_mul]; congr 1; omega
                                                                   omega, by omega, by omega⟩
        case measure => simp [intOf]; omega
      · have hG' : ¬ ((4294967296 : Int) ≤ (G : Int)) := by omega
        have hor2 := or_lo u0 R b0 (by omega)
        obtain ⟨S3, hS3⟩ : ∃ S3, u0 + 4294967296 * R = S3 := ⟨_, rfl⟩
        rw [hS3] at hor2
        have HS3 := Lib.hid hS3
        clear hS3
        have hmul := mul_le G v2 (by omega) e2
        by_cases hlt : S3 < G * v2
        · have hlt' : (S3 : Int) < (G : Int) * (v2 : Int) := by rw [← Int.natCast_mul]; omega
          have hQlt := gu_dec (u0 := u0) HG.out (by rw [HS3.out]; exact hlt) HQ3.out
          go_wp2
          go_round
          case rel => exact ⟨G - 1, R + v1, by go_num, by go_num, by have h1 := HG.out; have : (G - 1) * v1 + v1 = G * v1 := by rw [← Nat.succ_mul]; congr 1; omega
                                                                     omega, by omega, by omega⟩
          case measure => simp [intOf]; omega
        · have hlt' : ¬ ((S3 : Int) < (G : Int) * (v2 : Int)) := by rw [← Int.natCast_mul]; omega
          have HF := Lib.hid (gu_exit (u0 := u0) (v2 := v2) HG.out (by rw [HS3.out]; omega))
          go_wp2
          go_ret
          exact ⟨G, rfl, ⟨_, rfl⟩, hQG, by omega, by have := HF.out; have h2 := HT.out; rw [show (u2 * 4294967296 + u1) = T by omega]; exact this⟩
end Go.Proofs.Yteicihaigkgbnaa
