/-
  What bits.Len64 and bits.LeadingZeros64 answer for a 64-bit number that is not 0: the shift that brings its highest bit to the top. For every such number.
  The insertion sort of at most twelve shares by their candidates; slices.SortFunc of them. For a row of the call's own.
  phragmen.begun: a race in which nobody is elected. For every well formed snapshot.
-/
import Derived.Test.YtehekjlakegkpaaGreatX06
import Derived.Test.YtehekjlakegkpaaGreatX03
import Derived.Test.YtehekjlakegkpaaGreatX20
import Derived.Deep.RegionHeld3
section
namespace Go.Proofs.YtehekjlakegkpaaGreat
open Go.RowKit

theorem len_fin64 (k : Int) (y x : Nat) (v : Int) (h0 : 0 ≤ k) (h1 : k ≤ 56) (hv : v = (Lib.bitLen y : Int)) (hy : y ≤ 255) (hx : (Lib.bitLen x : Int) = k + (Lib.bitLen y : Int)) : wrap64 (k + wrap64 v) = (Lib.bitLen x : Int) := by
  have hl : Lib.bitLen y ≤ 8 := Lib.bitLen_le y 8 (by omega) (by omega)
  subst hv
  rw [IntWalk.wrap64_in (Lib.bitLen y : Int) ⟨by omega, by omega⟩, IntWalk.wrap64_in (k + (Lib.bitLen y : Int)) ⟨by omega, by omega⟩, hx]
set_option maxHeartbeats 4000000 in
set_option maxRecDepth 100000 in
theorem blen64_any (x : Int) (w : World) (h0 : 0 ≤ x) (h1 : x < 18446744073709551616) :
    Calls Tryz.prog 178 #[.int .u64 x] w fun e w' => e = .returned (.int .i64 (Lib.bitLen x.toNat)) ∧ w = w' := by
  have hs : (256 : Int) ≤ (Lib.len8tab.size : Int) := by rw [Lib.len8tab_size]; decide
  have hs' : (Lib.len8tab.size : Int) ≤ 256 := by rw [Lib.len8tab_size]; decide
  rcases Int.lt_or_le (x) 4294967296 with k2 | k2
  · rcases Int.lt_or_le (x) 65536 with k1 | k1
    · rcases Int.lt_or_le (x) 256 with k0 | k0
      · have e0 : x < 4294967296 := by omega
        have e1 : x < 65536 := by omega
        have e2 : x < 256 := by omega
        have z1 : x < (Lib.len8tab.size : Int) := by omega
        have z2 : 0 ≤ x := by omega
        go_enter Tryz.func178, Tryz.ntmps178
        go_wp2
        go_ret
        exact ⟨ret_i' (by
          have := len_fin64 0 x.toNat x.toNat _ (by omega) (by omega) (tab_at x h0 z1 (by omega)) (by omega) (by omega)
          rwa [Int.zero_add] at this), rfl⟩
      · have e0 : x < 4294967296 := by omega
        have e1 : x < 65536 := by omega
        have e2 : ¬ x < 256 := by omega
        have z1 : x / 256 < (Lib.len8tab.size : Int) := by omega
        have z2 : 0 ≤ x / 256 := by omega
        go_enter Tryz.func178, Tryz.ntmps178
        go_wp2
        go_ret
        exact ⟨ret_i' (len_fin64 8 (x / 256).toNat x.toNat _ (by omega) (by omega) (tab_at (x / 256) z2 z1 (by omega)) (by omega) (by
          rw [Lib.bitLen_shift8 x.toNat (by omega) (by omega), show x.toNat / 256 = (x / 256).toNat by omega]; omega)), rfl⟩
    · rcases Int.lt_or_le (x / 65536) 256 with k0 | k0
      · have e0 : x < 4294967296 := by omega
        have e1 : ¬ x < 65536 := by omega
        have e2 : x / 65536 < 256 := by omega
        have z1 : x / 65536 < (Lib.len8tab.size : Int) := by omega
        have z2 : 0 ≤ x / 65536 := by omega
        go_enter Tryz.func178, Tryz.ntmps178
        go_wp2
        go_ret
        exact ⟨ret_i' (len_fin64 16 (x / 65536).toNat x.toNat _ (by omega) (by omega) (tab_at (x / 65536) z2 z1 (by omega)) (by omega) (by
          rw [Lib.bitLen_shift16 x.toNat (by omega) (by omega), show x.toNat / 65536 = (x / 65536).toNat by omega]; omega)), rfl⟩
      · have e0 : x < 4294967296 := by omega
        have e1 : ¬ x < 65536 := by omega
        have e2 : ¬ x / 65536 < 256 := by omega
        have z1 : x / 65536 / 256 < (Lib.len8tab.size : Int) := by omega
        have z2 : 0 ≤ x / 65536 / 256 := by omega
        go_enter Tryz.func178, Tryz.ntmps178
        go_wp2
        go_ret
        exact ⟨ret_i' (len_fin64 24 (x / 65536 / 256).toNat x.toNat _ (by omega) (by omega) (tab_at (x / 65536 / 256) z2 z1 (by omega)) (by omega) (by
          rw [Lib.bitLen_shift24 x.toNat (by omega) (by omega), show x.toNat / 16777216 = (x / 65536 / 256).toNat by omega]; omega)), rfl⟩
  · rcases Int.lt_or_le (x / 4294967296) 65536 with k1 | k1
    · rcases Int.lt_or_le (x / 4294967296) 256 with k0 | k0
      · have e0 : ¬ x < 4294967296 := by omega
        have e1 : x / 4294967296 < 65536 := by omega
        have e2 : x / 4294967296 < 256 := by omega
        have z1 : x / 4294967296 < (Lib.len8tab.size : Int) := by omega
        have z2 : 0 ≤ x / 4294967296 := by omega
        go_enter Tryz.func178, Tryz.ntmps178
        go_wp2
        go_ret
        exact ⟨ret_i' (len_fin64 32 (x / 4294967296).toNat x.toNat _ (by omega) (by omega) (tab_at (x / 4294967296) z2 z1 (by omega)) (by omega) (by
          rw [Lib.bitLen_shift32 x.toNat (by omega) (by omega), show x.toNat / 4294967296 = (x / 4294967296).toNat by omega]; omega)), rfl⟩
      · have e0 : ¬ x < 4294967296 := by omega
        have e1 : x / 4294967296 < 65536 := by omega
        have e2 : ¬ x / 4294967296 < 256 := by omega
        have z1 : x / 4294967296 / 256 < (Lib.len8tab.size : Int) := by omega
        have z2 : 0 ≤ x / 4294967296 / 256 := by omega
        go_enter Tryz.func178, Tryz.ntmps178
        go_wp2
        go_ret
        exact ⟨ret_i' (len_fin64 40 (x / 4294967296 / 256).toNat x.toNat _ (by omega) (by omega) (tab_at (x / 4294967296 / 256) z2 z1 (by omega)) (by omega) (by
          rw [Lib.bitLen_shift40 x.toNat (by omega) (by omega), show x.toNat / 1099511627776 = (x / 4294967296 / 256).toNat by omega]; omega)), rfl⟩
    · rcases Int.lt_or_le (x / 4294967296 / 65536) 256 with k0 | k0
      · have e0 : ¬ x < 4294967296 := by omega
        have e1 : ¬ x / 4294967296 < 65536 := by omega
        have e2 : x / 4294967296 / 65536 < 256 := by omega
        have z1 : x / 4294967296 / 65536 < (Lib.len8tab.size : Int) := by omega
        have z2 : 0 ≤ x / 4294967296 / 65536 := by omega
        go_enter Tryz.func178, Tryz.ntmps178
        go_wp2
        go_ret
        exact ⟨ret_i' (len_fin64 48 (x / 4294967296 / 65536).toNat x.toNat _ (by omega) (by omega) (tab_at (x / 4294967296 / 65536) z2 z1 (by omega)) (by omega) (by
          rw [Lib.bitLen_shift48 x.toNat (by omega) (by omega), show x.toNat / 281474976710656 = (x / 4294967296 / 65536).toNat by omega]; omega)), rfl⟩
      · have e0 : ¬ x < 4294967296 := by omega
        have e1 : ¬ x / 4294967296 < 65536 := by omega
        have e2 : ¬ x / 4294967296 / 65536 < 256 := by omega
        have z1 : x / 4294967296 / 65536 / 256 < (Lib.len8tab.size : Int) := by omega
        have z2 : 0 ≤ x / 4294967296 / 65536 / 256 := by omega
        go_enter Tryz.func178, Tryz.ntmps178
        go_wp2
        go_ret
        exact ⟨ret_i' (len_fin64 56 (x / 4294967296 / 65536 / 256).toNat x.toNat _ (by omega) (by omega) (tab_at (x / 4294967296 / 65536 / 256) z2 z1 (by omega)) (by omega) (by
          rw [Lib.bitLen_shift56 x.toNat (by omega) (by omega), show x.toNat / 72057594037927936 = (x / 4294967296 / 65536 / 256).toNat by omega]; omega)), rfl⟩
/-- How many zero bits stand ahead of a 64-bit number. -/
def lz64 (x : Nat) : Nat := 64 - Lib.bitLen x
theorem lz64_facts {x : Nat} (h0 : 0 < x) (h1 : x < 18446744073709551616) : lz64 x ≤ 63 ∧ 9223372036854775808 ≤ x * 2 ^ lz64 x ∧ x * 2 ^ lz64 x < 18446744073709551616 := by
  obtain ⟨a, b, c⟩ := Lib.bitLenAux_bounds 64 x (by omega) (by omega)
  have d : Lib.bitLen x ≤ 64 := Lib.bitLen_le x 64 (by omega) (by omega)
  have e : Lib.bitLen x = Lib.bitLenAux 64 x := rfl
  unfold lz64
  rw [← e] at a b c
  generalize Lib.bitLen x = L at *
  refine ⟨by omega, ?_, ?_⟩
  · have := Nat.mul_le_mul_right (2 ^ (64 - L)) b
    rw [← Nat.pow_add, show L - 1 + (64 - L) = 63 by omega] at this
    omega
  · have := Nat.mul_lt_mul_of_pos_right c (Nat.two_pow_pos (64 - L))
    rw [← Nat.pow_add, show L + (64 - L) = 64 by omega] at this
    omega
end Go.Proofs.YtehekjlakegkpaaGreat
end
section
namespace Go.Proofs.YtehekjlakegkpaaGreat
open Go.RowKit
set_option linter.unusedVariables false

theorem S4.drew {w : World} {g cap : Nat} {l : List Sh} {cur : Array Value} (h : S4 w g l cap cur) : S4 w.drew g l cap cur := ⟨h.kb, h.sz, h.le, h.el⟩
/-- What sorting makes of a row. -/
def SrtTo (g : Nat) (l : List Sh) (cap : Nat) (w w' : World) : Prop := ∃ l' cur', S4 w' g l' cap cur' ∧ l'.Perm l ∧ OrdTo l' l'.length ∧ Turns (fun b => b = g) w w'
set_option maxHeartbeats 3200000 in
theorem insertion_any {w : World} {g cap : Nat} {l : List Sh} {cur : Array Value} (h : S4 w g l cap cur) (hl : l.length ≤ 12) (hc : cap ≤ 9223372036854775807) :
    Calls Tryz.prog 169 #[.slice (some ⟨g, 0, none⟩) l.length cap, .int .i64 0, .int .i64 (l.length : Int), .func (.func 94) #[] #[]] w fun e w' => e = .returned (.tuple #[]) ∧ SrtTo g l cap w w' := by
  obtain ⟨n, hn⟩ : ∃ n, l.length = n := ⟨_, rfl⟩
  have HS := Lib.hid h
  have HN := Lib.hid hn
  rw [hn] at hl ⊢
  have hle := h.le
  rw [hn] at hle
  clear h hn
  go_enter Tryz.func169, Tryz.ntmps169
  go_wp2_with fail
  go_loopg [8] n (fun g9 tv wr => ∃ (i : Nat) (l' : List Sh) (cur' : Array Value), g9 = n + 1 - i ∧ 1 ≤ i ∧ (i ≤ n ∨ i = 1) ∧ tv = .int .i64 (i : Int) ∧ S4 wr g l' cap cur' ∧ l'.Perm l ∧ OrdTo l' i ∧ Turns (fun b => b = g) w wr)
  case atStart => exact ⟨1, l, cur, by omega, by omega, .inr rfl, rfl, HS.out, List.Perm.refl _, OrdTo.one l, Turns.refl _ _⟩
  case round =>
    obtain ⟨i, l1, cur1, hg9, hi, hin, rfl, hS, hP, hO, hT⟩ := hrel
    have hl1 : l1.length = n := hP.length_eq.trans HN.out
    by_cases hlt : i < n
    · have hil : (i : Int) < (n : Int) := by omega
      have HR := Lib.hid (And.intro hS (And.intro hP (And.intro hO.but hT)))
      clear hS hP hO hT HS
      go_wp2_with fail
      go_loopg [9] i (fun g8 tv wq => ∃ (j : Nat) (l' : List Sh) (cur' : Array Value), g8 = j ∧ j ≤ i ∧ tv = .int .i64 (j : Int) ∧ S4 wq g l' cap cur' ∧ l'.Perm l ∧ OrdBut l' i j ∧ Turns (fun b => b = g) w wq)
      case atStart => exact ⟨i, l1, cur1, rfl, Nat.le_refl _, rfl, HR.out.1, HR.out.2.1, HR.out.2.2.1, HR.out.2.2.2⟩
      case round =>
        obtain ⟨j, l2, cur2, hg8, hj, rfl, hS, hP, hO, hT⟩ := hrel
        clear HR
        have hl2 : l2.length = n := hP.length_eq.trans HN.out
        have hjn : j < n := by omega
        have hjc : (j : Int) < (n : Int) := by omega
        go_upto_region 4 with (fail)
        go_cut [34] (fun s34 wx => ∃ t : Bool, s34 = .bool t ∧ Hid (Below wr.heap.size wr wx) ∧ (t = true → ∃ k a b, j = k + 1 ∧ l2[k]? = some a ∧ l2[k + 1]? = some b ∧ b.c < a.c) ∧ (t = false → j = 0 ∨ ∀ a b, l2[j - 1]? = some a → l2[j]? = some b → a.c ≤ b.c))
        case first =>
          rcases Nat.eq_zero_or_pos j with rfl | hj0
          · go_region
            all_goals
              go_wp2_with fail
              go_meet
              exact ⟨_, rfl, Lib.hid (Below.refl _ _).drew, fun h => (by simp at h), fun _ => .inl trivial⟩
          · obtain ⟨k, rfl⟩ : ∃ k, j = k + 1 := ⟨j - 1, by omega⟩
            obtain ⟨a, ha⟩ : ∃ a, l2[k]? = some a := ⟨_, List.getElem?_eq_getElem (by omega)⟩
            obtain ⟨b, hb⟩ : ∃ b, l2[k + 1]? = some b := ⟨_, List.getElem?_eq_getElem (by omega)⟩
            obtain ⟨x0, x1, x2, x3⟩ := hS.at_ ha
            obtain ⟨y0, y1, y2, y3⟩ := hS.at_ hb
            obtain ⟨av, ac, ⟨aA, an, acc, aB, am, ad⟩, ax⟩ := a
            obtain ⟨bv, bc, ⟨bA, bn, bcc, bB, bm, bd⟩, bx⟩ := b
            dsimp only at x0 x1 x2 x3 y0 y1 y2 y3
            have hCm := fun W => cmpS_any ⟨bv, bc, ⟨bA, bn, bcc, bB, bm, bd⟩, bx⟩ ⟨av, ac, ⟨aA, an, acc, aB, am, ad⟩, ax⟩ W
            unfold Sh.val at hCm
            dsimp only at hCm
            have HC := Lib.hid hCm
            have hw1 : IntKind.i64.wrap ((k : Int) + 1 - 1) = (k : Int) := by rw [IntKind.wrap_i64]; omega
            have hkc : (k : Int) < (n : Int) := by omega
            have hkc1 : (k : Int) + 1 < (n : Int) := by omega
            have hkc2 : (0 : Int) ≤ (k : Int) + 1 := by omega
            have hkc3 : (0 : Int) ≤ (k : Int) := by omega
            have hkc4 : (k : Int) + 1 - 1 = (k : Int) := by omega
            have hwk : IntKind.i64.wrap (k : Int) = (k : Int) := by rw [IntKind.wrap_i64]; omega
            have hk0 : (0 : Int) < (k : Int) + 1 := by omega
            have hk2 : ((k : Int) + 1).toNat = k + 1 := by omega
            have ha' := Lib.hid ha
            have hb' := Lib.hid hb
            have hgl := hS.kb.lt
            have K0 := (⟨x0, x1, x2, x3, y0, y1, y2, y3⟩ : _ ∧ _ ∧ _ ∧ _ ∧ _ ∧ _ ∧ _ ∧ _)
            have HK := Lib.hid (fun W' (hb' : Below wr.heap.size wr W') => (⟨(hb'.cell (p := ⟨g, k * 4, none⟩) hgl).trans x0, (hb'.cell (p := ⟨g, k * 4 + 1, none⟩) hgl).trans x1, (hb'.cell (p := ⟨g, k * 4 + 2, none⟩) hgl).trans x2, (hb'.cell (p := ⟨g, k * 4 + 3, none⟩) hgl).trans x3, (hb'.cell (p := ⟨g, (k + 1) * 4, none⟩) hgl).trans y0, (hb'.cell (p := ⟨g, (k + 1) * 4 + 1, none⟩) hgl).trans y1, (hb'.cell (p := ⟨g, (k + 1) * 4 + 2, none⟩) hgl).trans y2, (hb'.cell (p := ⟨g, (k + 1) * 4 + 3, none⟩) hgl).trans y3⟩ : _ ∧ _ ∧ _ ∧ _ ∧ _ ∧ _ ∧ _ ∧ _))
            clear hCm hS hP hO hT ha hb x0 x1 x2 x3 y0 y1 y2 y3
            generalize hzz : (if bc < ac then (-1 : Int) else if ac < bc then 1 else 0) = z at *
            go_region_held3 (fun W' => W'.cell? ⟨g, k * 4, none⟩ = some (.int .i64 av) ∧ W'.cell? ⟨g, k * 4 + 1, none⟩ = some (.int .i64 ac) ∧ W'.cell? ⟨g, k * 4 + 2, none⟩ = some (.slice aA an acc) ∧ W'.cell? ⟨g, k * 4 + 3, none⟩ = some (.slice aB am ad) ∧ W'.cell? ⟨g, (k + 1) * 4, none⟩ = some (.int .i64 bv) ∧ W'.cell? ⟨g, (k + 1) * 4 + 1, none⟩ = some (.int .i64 bc) ∧ W'.cell? ⟨g, (k + 1) * 4 + 2, none⟩ = some (.slice bA bn bcc) ∧ W'.cell? ⟨g, (k + 1) * 4 + 3, none⟩ = some (.slice bB bm bd))
              (first | exact K0 | exact K1)
              (first | (go_at_call 94; refine (HC.out _).mono ?_; rintro e w6 ⟨rfl, hb6⟩; have HB6 := Lib.hid ((Below.refl wr.heap.size wr).drew.trans (hb6.mono (Nat.le_refl wr.heap.size))); have K1 := HK.out w6 HB6.out; clear hb6))
            all_goals
              go_wp2_with fail
              go_meet
              refine ⟨_, rfl, HB6, fun h => ⟨k, _, _, rfl, ha'.out, hb'.out, ?_⟩, fun h => .inr fun a b ha hb => ?_⟩
              · have hz := of_decide_eq_true h
                dsimp only
                rw [← hzz] at hz
                by_cases e : bc < ac
                · exact e
                · rw [if_neg e] at hz; split at hz <;> omega
              · have hz := of_decide_eq_false h
                rw [Nat.add_sub_cancel, ha'.out] at ha
                rw [hb'.out] at hb
                injection ha with ha
                injection hb with hb
                subst ha hb
                dsimp only
                rw [← hzz] at hz
                by_cases e : bc < ac
                · rw [if_pos e] at hz; omega
                · omega
        case rest =>
          obtain ⟨t, rfl, hBx, h1, h2⟩ := hcut
          have hS3 := hS.below hBx.out
          have hT3 := hT.bel hBx.out hT.size (Nat.le_refl _)
          clear hS hT
          cases t with
          | false =>
            have hO2 := hO.done (h2 rfl) (by omega)
            have HQ := Lib.hid (And.intro hS3 (And.intro hO2 hT3))
            clear hS3 hO2 hT3 hO h1 h2
            go_wp2
            go_roundg (n - (i + 1) + 1)
            case measure => omega
            case rel => exact ⟨i + 1, l2, cur2, by omega, by omega, .inl (by omega), by go_num, HQ.out.1, hP, HQ.out.2.1, HQ.out.2.2⟩
          | true =>
            obtain ⟨k, a, b, rfl, ha, hb, hlt2⟩ := h1 rfl
            obtain ⟨cur3, hS4⟩ := hS3.put (k + 1) (by omega) a
            obtain ⟨cur4, hS5⟩ := hS4.put k (by rw [List.length_set]; omega) b
            have hP5 := (swap_perm' l2 k a b ha hb).trans hP
            have hO5 := hO.swap hj ha hb hlt2
            have hT5 := hT3.trans ((put4_turns wc g (k + 1) a).trans (put4_turns _ g k b) (fun _ h => .inl h)) (fun _ h => .inl h)
            obtain ⟨x0, x1, x2, x3⟩ := hS3.at_ ha
            obtain ⟨y0, y1, y2, y3⟩ := hS3.at_ hb
            have fz := fun j => hS3.kb.frozen j
            have hw1 : IntKind.i64.wrap ((k : Int) + 1 - 1) = (k : Int) := by rw [IntKind.wrap_i64]; omega
            have hkc : (k : Int) < (n : Int) := by omega
            have hkc1 : (k : Int) + 1 < (n : Int) := by omega
            have hkc2 : (0 : Int) ≤ (k : Int) + 1 := by omega
            have hkc3 : (0 : Int) ≤ (k : Int) := by omega
            have hkc4 : (k : Int) + 1 - 1 = (k : Int) := by omega
            have hk2 : ((k : Int) + 1).toNat = k + 1 := by omega
            have hwk : IntKind.i64.wrap (k : Int) = (k : Int) := by rw [IntKind.wrap_i64]; omega
            have HQ := Lib.hid (And.intro hS5 (And.intro hP5 (And.intro hO5 hT5)))
            unfold put4 at HQ
            obtain ⟨av, ac, ⟨aA, an, acc, aB, am, ad⟩, ax⟩ := a
            obtain ⟨bv, bc, ⟨bA, bn, bcc, bB, bm, bd⟩, bx⟩ := b
            dsimp only at *
            clear hS3 hS4 hS5 hP5 hO5 hT5 hT3 hP hO h1 h2 ha hb
            have fz0 := fz (k * 4)
            have fz1 := fz (k * 4 + 1)
            have fz2 := fz (k * 4 + 2)
            have fz3 := fz (k * 4 + 3)
            have fw0 := fz ((k + 1) * 4)
            have fw1 := fz ((k + 1) * 4 + 1)
            have fw2 := fz ((k + 1) * 4 + 2)
            have fw3 := fz ((k + 1) * 4 + 3)
            clear fz
            go_upto_region 6 with (fail)
            go_region
            all_goals
              go_wp2
              go_roundg k
              case measure => omega
              case rel => exact ⟨k, _, _, rfl, by omega, by go_num, HQ.out.1.drew, HQ.out.2.1, HQ.out.2.2.1, HQ.out.2.2.2.drew⟩
    · have hi1 : n ≤ i := by omega
      have hO2 : OrdTo l1 l1.length := by rw [hl1]; exact fun p q s t h1 h2 => hO p q s t h1 (by omega)
      have HQ := Lib.hid (show SrtTo g l cap w wr from ⟨l1, cur1, hS, hP, hO2, hT⟩)
      clear hS hP hO hT hO2
      have hni : ¬ (i : Int) < (n : Int) := by omega
      go_wp2
      go_end0
      exact ⟨rfl, HQ.out⟩
set_option maxHeartbeats 1600000 in
set_option maxRecDepth 100000 in
theorem pdq_any {w : World} {g cap : Nat} {l : List Sh} {cur : Array Value} (z : Int) (h : S4 w g l cap cur) (hl : l.length ≤ 12) (hc : cap ≤ 9223372036854775807) :
    Calls Tryz.prog 145 #[.slice (some ⟨g, 0, none⟩) l.length cap, .int .i64 0, .int .i64 (l.length : Int), .int .i64 z, .func (.func 94) #[] #[]] w fun e w' => e = .returned (.tuple #[]) ∧ SrtTo g l cap w w' := by
  have hI := insertion_any h hl hc
  have HI := Lib.hid hI
  clear hI h
  generalize hn : l.length = n at *
  have hl0 : (n : Int) ≤ 12 := by omega
  have hl1 : IntKind.i64.wrap ((n : Int) - 0) = (n : Int) := by rw [IntKind.wrap_i64]; omega
  go_enter Tryz.func145, Tryz.ntmps145
  go_wp2_with fail
  go_loopg [1, 2] 0 (fun g9 av bv wr => w = wr ∧ av = .int .i64 0 ∧ bv = .int .i64 (n : Int))
  case atStart => exact ⟨rfl, rfl, rfl⟩
  case round =>
    obtain ⟨rfl, rfl, rfl⟩ := hrel
    go_wp2_with fail
    refine HI.out.mono ?_
    rintro e w2 ⟨rfl, h2⟩
    have H2 := Lib.hid h2
    clear h2
    go_wp2
    refine bodyPost_ret (v := .tuple #[]) (by simp [results, Tryz.results145, go_sem]) rfl ?_
    exact ⟨rfl, H2.out⟩
set_option maxHeartbeats 800000 in
theorem bl64_any (x : Nat) (w : World) (h1 : x < 18446744073709551616) : Calls Tryz.prog 146 #[.int .u64 (x : Int)] w fun e w' => (∃ z : Int, e = .returned (.int .i64 z)) ∧ w = w' := by
  have hb := blen64_any (x : Int) w (by omega) (by omega)
  generalize (Lib.bitLen (x : Int).toNat : Int) = z at *
  go_enter Tryz.func146, Tryz.ntmps146
  go_wp2_with fail
  refine hb.mono ?_
  rintro e w1 ⟨rfl, rfl⟩
  go_wp2
  go_ret
  exact ⟨⟨z, rfl⟩, rfl⟩
set_option maxHeartbeats 800000 in
/-- slices.SortFunc. -/
theorem sortF_any {w : World} {g cap : Nat} {l : List Sh} {cur : Array Value} (h : S4 w g l cap cur) (hl : l.length ≤ 12) (hc : cap ≤ 9223372036854775807) :
    Calls Tryz.prog 93 #[.slice (some ⟨g, 0, none⟩) l.length cap, .func (.func 94) #[] #[]] w fun e w' => e = .returned (.tuple #[]) ∧ SrtTo g l cap w w' := by
  have hP := fun z => pdq_any z h hl hc
  have HP := Lib.hid hP
  have hB := bl64_any l.length w (by omega)
  clear hP h
  generalize hn : l.length = n at *
  have hn2 : (n : Int) ≤ 12 := by omega
  go_enter Tryz.func93, Tryz.ntmps93
  go_wp2_with fail
  refine hB.mono ?_
  rintro e w1 ⟨⟨z, rfl⟩, rfl⟩
  go_wp2_with fail
  refine (HP.out z).mono ?_
  rintro e w2 ⟨rfl, h2⟩
  have H2 := Lib.hid h2
  clear h2
  go_wp2
  go_end0
  exact ⟨rfl, H2.out⟩
set_option maxHeartbeats 800000 in
theorem insertion_nil (A : Option Addr) (c : Nat) (w : World) : Calls Tryz.prog 169 #[.slice A 0 c, .int .i64 0, .int .i64 0, .func (.func 94) #[] #[]] w fun e w' => e = .returned (.tuple #[]) ∧ w = w' := by
  go_enter Tryz.func169, Tryz.ntmps169
  go_wp2_with fail
  go_loopg [8] 0 (fun g9 tv wr => w = wr ∧ tv = .int .i64 1)
  case atStart => exact ⟨rfl, rfl⟩
  case round =>
    obtain ⟨rfl, rfl⟩ := hrel
    go_wp2
    go_end0
    exact ⟨rfl, rfl⟩
set_option maxHeartbeats 1600000 in
set_option maxRecDepth 100000 in
theorem pdq_nil (A : Option Addr) (c : Nat) (z : Int) (w : World) : Calls Tryz.prog 145 #[.slice A 0 c, .int .i64 0, .int .i64 0, .int .i64 z, .func (.func 94) #[] #[]] w fun e w' => e = .returned (.tuple #[]) ∧ w = w' := by
  go_enter Tryz.func145, Tryz.ntmps145
  go_wp2_with fail
  go_loopg [1, 2] 0 (fun g9 av bv wr => w = wr ∧ av = .int .i64 0 ∧ bv = .int .i64 0)
  case atStart => exact ⟨rfl, rfl, rfl⟩
  case round =>
    obtain ⟨rfl, rfl, rfl⟩ := hrel
    go_wp2_with fail
    refine (insertion_nil A c _).mono ?_
    rintro e w2 ⟨rfl, rfl⟩
    go_wp2
    refine bodyPost_ret (v := .tuple #[]) (by simp [results, Tryz.results145, go_sem]) rfl ?_
    exact ⟨rfl, rfl⟩
set_option maxHeartbeats 800000 in
/-- Of none. -/
theorem sortF_nil (A : Option Addr) (c : Nat) (w : World) : Calls Tryz.prog 93 #[.slice A 0 c, .func (.func 94) #[] #[]] w fun e w' => e = .returned (.tuple #[]) ∧ w = w' := by
  have hB := bl64_any 0 w (by omega)
  go_enter Tryz.func93, Tryz.ntmps93
  go_wp2_with fail
  refine hB.mono ?_
  rintro e w1 ⟨⟨z, rfl⟩, rfl⟩
  go_wp2_with fail
  refine (pdq_nil A c z _).mono ?_
  rintro e w2 ⟨rfl, rfl⟩
  go_wp2
  go_end0
  exact ⟨rfl, rfl⟩
end Go.Proofs.YtehekjlakegkpaaGreat
end
section
namespace Go.Proofs.YtehekjlakegkpaaGreat
open Go.RowKit
set_option linter.unusedVariables false

theorem rnInfo : (Tryz.prog.info? 180).map (fun i => (i.zero, i.size, i.bytes)) = some (some (.agg #[.int .i64 0, .slice none 0 0, .int .u64 0]), 3, 40) := by kernel_rfl
/-- What a runner is, and how it begins. -/
def Rn.out (u : Rn) : Int × List Nat × Nat := (u.cd, u.ps, u.st)
def beg (vs : List Vr) (xs : List Nat) : List (Int × List Nat × Nat) := xs.map fun (x : Nat) => ((x : Int), plN vs (x : Int), skN (x : Int) vs)
/-- A race that begins. -/
def BegTo (w : World) (s : Sn) : Ending → World → Prop := fun e w' => ∃ m : Rm, e = .returned (.pointer (some ⟨m.P, 0, none⟩)) ∧ RcIn w' w.heap.size m ∧ m.vA = s.A ∧ m.n = s.n ∧ m.vc = s.c ∧ m.rs.map Rn.out = beg s.vs (supM s.vs s.cs) ∧ m.es = [] ∧ m.lt = List.replicate s.n (-1) ∧ Below w.heap.size w w'
theorem supM_cs {vs : List Vr} {cs : List Int} {x : Nat} (hx : x ∈ supM vs cs) : (x : Int) ∈ cs := by
  unfold supM at hx
  split at hx
  · rename_i h
    unfold supN at hx
    obtain ⟨y, hy, rfl⟩ := List.mem_map.1 hx
    have hm := (List.mem_filter.1 hy).1
    obtain ⟨j, hj, rfl⟩ := mem_zl.1 hm
    have := h.2.1.ge j hj
    rw [Int.toNat_of_nonneg this]; exact hm
  · cases hx
theorem own_low {w : World} {base lo sz n : Nat} {T : TypeId} {v : Value} {cs : List Value} (h : w.ownsRow base T sz v n cs) (hl : lo ≤ base) : w.ownsRow lo T sz v n cs := by
  refine ⟨h.1, ?_⟩
  rcases h.2 with h' | ⟨g, cap, cur, rfl, hb, hr⟩
  · exact .inl h'
  · exact .inr ⟨g, cap, cur, rfl, by omega, hr⟩
theorem RcIn.low {w : World} {base lo : Nat} {m : Rm} (h : RcIn w base m) (hl : lo ≤ base) : RcIn w lo m :=
  ⟨h.blk, Nat.le_trans hl h.pb, Nat.le_trans hl h.gb, own_low h.ro hl, own_low h.eo hl, h.lo, h.ll, h.n32, h.rd, h.ed⟩
theorem plN_bl {vs : List Vr} (h : vs.length ≤ 32) (x : Int) : Bl 9223372036854775808 (plN vs x) := fun j hj => by
  have := plT_lt hj
  omega
theorem run_new {w w6 w7 : World} {base : Nat} {m : Rm} {A : Option Addr} {n c : Nat} {xs : List Nat} (h : RcIn w base m) (hO : Owk .i64 3 w6 w.heap.size A n c xs) (hb : Below w.heap.size w w6) (hA : Below w6.heap.size w6 w7) (hX : Bl 9223372036854775808 xs) :
    Ri w7 A n c (ints xs) ∧ Pr m.F A n := by
  refine ⟨(ri_of_rk hO.rk hX).below hA (Nat.le_refl _), fun a e hn hF => ?_⟩
  obtain ⟨g, e', hg, _⟩ := hO.addr hn
  rw [e] at e'
  injection e' with e'
  subst e'
  have := (h.lt hF).2
  dsimp only at this
  omega
theorem beg_turn {w4 wr w6 w7 : World} {P : Nat} {o : Obj} {rv v' : Value} (hT : Turns (fun b => b = P) w4 wr) (hb6 : Below wr.drew.heap.size wr.drew w6) (t1 : Turns (fun b => rv.ownBlock = some b) (w6.alloc o) w7) (hrv : ∀ g, rv.ownBlock = some g → w4.heap.size ≤ g) :
    Turns (fun b => b = P) w4 (w7.setCell ⟨P, 1, none⟩ v') := by
  have h1 := hT.size
  have T1 : Turns (fun b => b = P) w4 (w6.alloc o) := ((hT.drew).bel hb6 (show w4.heap.size ≤ wr.heap.size from h1) (Nat.le_refl _)).alloc' o
  exact (T1.trans t1 (fun b hb => .inr (hrv b hb))).setCell' (p := ⟨P, 1, none⟩) rfl v'
/-- A race in which nobody runs yet. -/
structure Beg0 (w : World) (A B : Option Addr) (n c m d : Nat) (wx : World) (m0 : Rm) : Prop where
  rc : RcIn wx (w.heap.size + 1) m0
  eA : m0.vA = A
  en : m0.n = n
  ec : m0.vc = c
  es0 : m0.es = []
  lt0 : m0.lt = List.replicate n (-1)
  box : KB wx w.heap.size 25 #[.slice A n c, .slice B m d]
  bel : Below w.heap.size w wx
theorem beg_box (w w1 : World) (A B : Option Addr) (n c m d : Nat) (hk1 : KB w1 w.heap.size 25 #[.slice A n c, .slice B m d]) (hb1 : Below w.heap.size w w1) (h32 : n ≤ 32) (w2 : World)
    (hG : KB w2 (w1.alloc (.cells #[.int .i64 (-1)] 3)).drew.heap.size 3 (rpt (-1) n n).toArray) (hb2 : Below (w1.alloc (.cells #[.int .i64 (-1)] 3)).drew.heap.size (w1.alloc (.cells #[.int .i64 (-1)] 3)).drew w2) :
    Beg0 w A B n c m d (w2.alloc (.cells #[.slice A n c, .slice none 0 0, .slice none 0 0, .slice (some ⟨w1.heap.size + 1, 0, none⟩) n n] 145)) ⟨w2.heap.size, w1.heap.size + 1, A, n, c, .slice none 0 0, [], .slice none 0 0, [], List.replicate n (-1)⟩ := by
  have hs1 := hk1.lt
  have e1 : (w1.alloc (.cells #[.int .i64 (-1)] 3)).drew.heap.size = w1.heap.size + 1 := by show (w1.alloc _).heap.size = _; simp
  rw [e1] at hG hb2
  have hs2 : (w1.alloc (.cells #[.int .i64 (-1)] 3)).drew.heap.size ≤ w2.heap.size := hb2.size
  rw [e1] at hs2
  have hbA : Below w.heap.size w (w1.alloc (.cells #[.int .i64 (-1)] 3)).drew := (hb1.alloc (by omega) _).drew
  have hkA : KB (w1.alloc (.cells #[.int .i64 (-1)] 3)).drew w.heap.size 25 #[.slice A n c, .slice B m d] := hk1.alloc _
  refine ⟨⟨KB.new _ _ _, by show w.heap.size + 1 ≤ w2.heap.size; omega, by show w.heap.size + 1 ≤ w1.heap.size + 1; omega, World.ownsRow_nil _ _ _ _, World.ownsRow_nil _ _ _ _, ?_, by simp, h32, fun u hu => by simp at hu, fun u hu => by simp at hu⟩, rfl, rfl, rfl, rfl, rfl, (hkA.below hb2 (by omega)).alloc _, (hbA.trans (hb2.mono (by omega))).alloc (by omega) _⟩
  have := hG.alloc (.cells #[.slice A n c, .slice none 0 0, .slice none 0 0, .slice (some ⟨w1.heap.size + 1, 0, none⟩) n n] 145)
  show KB _ (w1.heap.size + 1) _ (List.map _ (List.replicate n (-1))).toArray
  rw [List.map_replicate]
  simpa [rpt] using this
set_option maxHeartbeats 3200000 in
set_option maxRecDepth 100000 in
theorem begun_any (s : Sn) (w : World) (h : s.In w) (hfd : Fd s.vs s.cs) : Calls Tryz.prog 85 #[s.val] w (BegTo w s) := by
  obtain ⟨A, n, c, B, m, d, vs, cs⟩ := s
  have hSu := fun W g => supported_any ⟨A, n, c, B, m, d, vs, cs⟩ W g
  have hRu := fun x W g hx => running_any ⟨A, n, c, B, m, d, vs, cs⟩ x W g hfd hx
  have HI := Lib.hid h
  have h32 : n ≤ 32 := by have := hfd.1; have := h.1.len; dsimp only at *; omega
  dsimp only at hfd hSu hRu
  unfold Sn.val at hSu hRu ⊢
  dsimp only at hSu hRu ⊢
  have HSU := Lib.hid hSu
  have HRU := Lib.hid hRu
  have hk1 := KB.new w 25 #[.slice A n c, .slice B m d]
  have hb1 : Below w.heap.size w (w.alloc (.cells #[.slice A n c, .slice B m d] 25)) := (Below.refl _ _).alloc (Nat.le_refl _) _
  clear hSu hRu h
  go_enter Tryz.func85, Tryz.ntmps85
  go_wp2_with fail
  generalize (w.alloc (.cells #[.slice A n c, .slice B m d] 25)) = w1 at *
  have x0 := hk1.cell 0
  have x1 := hk1.cell 1
  simp at x0 x1
  have hkA := hk1.alloc (.cells #[.int .i64 (-1)] 3)
  have hkD : KB (w1.alloc (.cells #[.int .i64 (-1)] 3)).drew w.heap.size 25 #[.slice A n c, .slice B m d] := hkA
  have hkN := KB.new w1 3 #[.int .i64 (-1)]
  have y0 := hkA.cell 0
  have y1 := hkA.cell 1
  simp at y0 y1
  have HR := Lib.hid (repeat_any w1.heap.size n (-1) (w1.alloc (.cells #[.int .i64 (-1)] 3)).drew hkN h32)
  have HB := Lib.hid (beg_box w w1 A B n c m d hk1 hb1 h32)
  clear hk1 hb1 hkN hkA
  go_upto_region 1 with (fail)
  go_cut [3] (fun s3 wx => ∃ m0 : Rm, s3 = .pointer (some ⟨m0.P, 0, none⟩) ∧ m0.rs = [] ∧ m0.rv = .slice none 0 0 ∧ Beg0 w A B n c m d wx m0)
  case first =>
    go_region_with (go_at_call 135; refine HR.out.mono ?_; rintro e w2 ⟨rfl, hG, hb2⟩; have hk2 := hkD.below hb2 hkD.lt; have z0 := hk2.cell 0; have z1 := hk2.cell 1; simp at z0 z1; have HG := Lib.hid (And.intro hG hb2); clear hG hb2)
    all_goals
      go_wp2_with fail
      go_meet
      exact ⟨_, rfl, rfl, rfl, HB.out w2 HG.out.1 HG.out.2⟩
  case rest =>
    obtain ⟨m0, rfl, hr0, hv0, hB⟩ := hcut
    clear hkD HR HB x0 x1 y0 y1
    obtain ⟨HC, e1, e2, e3, e4, e5, hbx, hbel⟩ := hB
    have x0 := hbx.cell 0
    have x1 := hbx.cell 1
    simp at x0 x1
    go_wp2_with fail
    refine (HSU.out _ (HI.out.below hbel (Nat.le_refl _))).mono ?_
    rintro e w4 ⟨A2, n2, c2, rfl, hO2, hb4⟩
    have HR2 := Lib.hid (ri_of_rk hO2.rk (supM_bl vs cs))
    have hs4 := hb4.size
    have HN2 := Lib.hid (fun (a : Addr) (e : A2 = some a) (hn : 0 < n2) => show ¬ a.block = m0.P from fun hh => by
      obtain ⟨g, e', hg, _⟩ := hO2.addr hn
      rw [e] at e'
      injection e' with e'
      subst e'
      have := HC.blk.lt
      dsimp only at hh
      omega)
    have hl2 : (supM vs cs).length = n2 := hO2.len
    have h2m := supM_len vs cs
    have hsc : ∀ x ∈ supM vs cs, (x : Int) ∈ cs := fun x hx => supM_cs hx
    have HSC := Lib.hid hsc
    have hC4 := HC.below hb4 (Nat.le_refl _)
    have hx4 := hbx.below hb4 hbx.lt
    have HB4 := Lib.hid (hbel.trans (hb4.mono hbel.size))
    have hPb := HC.pb
    have HRV := Lib.hid (show ∀ g, m0.rv.ownBlock = some g → w4.heap.size ≤ g from fun g e => by rw [hv0] at e; cases e)
    have hPl := hC4.blk.lt
    clear hsc hbx hbel HC hb4 hO2 x0 x1
    generalize hxs : supM vs cs = xs at *
    go_wp2_with fail
    go_loopg [18] n2 (fun g9 tv wr => ∃ (k : Nat) (mk : Rm), g9 = n2 - k ∧ k ≤ n2 ∧ tv = .int .i64 (k : Int) ∧ mk.P = m0.P ∧ RcIn wr (w.heap.size + 1) mk ∧ mk.vA = A ∧ mk.n = n ∧ mk.vc = c ∧ mk.es = [] ∧ mk.lt = List.replicate n (-1) ∧ mk.rs.map Rn.out = beg vs (xs.take k) ∧ (∀ g, mk.rv.ownBlock = some g → w4.heap.size ≤ g) ∧ Turns (fun b => b = m0.P) w4 wr)
    case atStart => exact ⟨0, m0, rfl, by omega, rfl, rfl, hC4, e1, e2, e3, e4, e5, by rw [hr0]; rfl, HRV.out, Turns.refl _ _⟩
    case round =>
      obtain ⟨k, ⟨P, G, vA, vn, vc, rv, rs, ev, es, lt⟩, hg9, hk, rfl, q1, hC, q2, q3, q4, q5, q6, hrs, hrv, hT⟩ := hrel
      dsimp only at q1 q2 q3 q4 q5 q6 hrs hrv
      subst q1 q2 q4 q5 q6 q3
      have hbw : Below w.heap.size w wr := HB4.out.trans (hT.below (by have := HB4.out.size; omega) (fun b hb => by omega))
      by_cases hlt : k < n2
      · have hRi : Ri wr A2 n2 c2 (ints xs) := HR2.out.turns hT HN2.out
        obtain ⟨bb, oo, rfl, hbb, hcc⟩ := hRi.at_ (by omega)
        have d0 := hcc k hlt
        rw [zl_ints] at d0
        have hxm : ((el xs k : Nat) : Int) ∈ cs := HSC.out _ (by rw [el_get _ _ (by omega)]; exact List.getElem_mem _)
        have hbx := hx4.turns hT (by have := HB4.out.size; omega)
        have x0 := hbx.cell 0
        have x1 := hbx.cell 1
        have p1 := hC.blk.cell 1
        simp at x0 x1 p1
        have HCL := Lib.hid (HRU.out ((el xs k : Nat) : Int) wr.drew (HI.out.below (B := w.heap.size) hbw.drew (Nat.le_refl _)) hxm)
        have htk : beg vs (xs.take (k + 1)) = beg vs (xs.take k) ++ [(((el xs k : Nat) : Int), plN vs ((el xs k : Nat) : Int), skN ((el xs k : Nat) : Int) vs)] := by
          rw [List.take_add_one, List.getElem?_eq_getElem (by omega), ← el_get xs k (by omega)]
          unfold beg
          rw [List.map_append]; rfl
        have hsk := skN_le ((el xs k : Nat) : Int) vs
        have hsum := hfd.sum
        have hrl : rs.length = k := by
          have := congrArg List.length hrs
          rw [List.length_map] at this
          rw [this]; unfold beg; rw [List.length_map, List.length_take]; omega
        generalize ((el xs k : Nat) : Int) = x at *
        have HST := Lib.hid (show skN x vs < 18446744073709551616 by omega)
        have hbl := plN_bl (vs := vs) (by have := hfd.1; omega) x
        have HBL := Lib.hid hbl
        generalize plN vs x = ys at *
        generalize skN x vs = st at *
        have HC := Lib.hid hC
        have hPl : m0.P < wr.heap.size := hC.blk.lt
        have hPb' := hC.pb
        have hb4s := hT.size
        have hblw := hbw.size
        clear hcc hRi hbx hsk hsum hC hbl
        go_upto_region 5 with (fail)
        go_region_law (first
          | ((refine step_appT 3 40 _ 180 rfl (.tmp 26) (.tmp 30) 143 rfl (w.heap.size + 1) Tryz.underlying143 rnInfo rfl (by decide) rv ⟨w6.heap.size, 0, none⟩ rs.length 1 (rnC rs) [.int .i64 x, .slice A' n' c', .int .u64 (st : Int)] (by simp [Act.eval]) (by simp [Act.eval]) HOW.out.ro HOW2.out (by simp [Value.oneCell']) (by unfold maxLen; omega) (by omega) (by simp; omega) ?_); intro A1 c1 w7 o1 t1 h5; have HP := Lib.hid (HOW.out.pushR ⟨x, A', n', c', ys, st⟩ HU.out.1 HU.out.2 HST.out o1 t1 h5); have k7 := HOW.out.blk.turns t1 (fun e => HOW.out.ne_rP e rfl); have f7 := k7.frozen 1; have c7 := k7.cell 1; simp at c7; have HT1 := Lib.hid (And.intro t1 h5); clear t1 h5 o1 k7)
          | (go_simp; go_at_call 136; refine HCL.out.mono ?_; rintro e w6 ⟨A', n', c', rfl, hO6, hb6⟩; have hC6 := HC.out.drew.below hb6 (Nat.le_refl _); have hA6 := (Below.refl w6.heap.size w6).alloc (Nat.le_refl _) (.cells #[.int .i64 x, .slice A' n' c', .int .u64 (st : Int)] 180); have HOW := Lib.hid (hC6.below hA6 (Nat.le_refl _)); have HOW2 := Lib.hid (Sr.new (sz := 3) w6 180 #[.int .i64 x, .slice A' n' c', .int .u64 (st : Int)] rfl); have z1 := hC6.blk.cell 1; have y1 := HOW.out.blk.cell 1; simp at z1 y1; have HU := Lib.hid (run_new HC.out.drew hO6 hb6 hA6 HBL.out); have HB6 := Lib.hid hb6; have hs6 : wr.heap.size ≤ w6.heap.size := hb6.size; clear hC6 hA6 hb6 hO6))
        all_goals
          go_wp2
          go_roundg (n2 - (k + 1))
          case measure => omega
          case rel =>
            refine ⟨k + 1, ⟨m0.P, G, vA, vn, vc, .slice A1 (k + 1) c1, rs ++ [⟨x, A', n', c', ys, st⟩], ev, [], List.replicate vn (-1)⟩, rfl, by omega, by go_num, rfl, ?_, rfl, rfl, rfl, rfl, rfl, ?_, ?_, beg_turn hT HB6.out HT1.out.1 hrv⟩
            · have := HP.out.1
              rw [hrl] at this
              exact this
            · show (rs ++ [_]).map Rn.out = _
              rw [List.map_append, hrs, htk]; rfl
            · intro g hg
              rcases HT1.out.2 with e | e
              · rw [hrl] at e
                exact hrv g (e ▸ hg)
              · rw [hrl] at e
                rw [show (Value.slice A1 (k + 1) c1).ownBlock = some g from hg] at e
                injection e with e
                simp at e
                omega
      · obtain rfl : k = n2 := by omega
        rw [List.take_of_length_le (by omega)] at hrs
        go_wp2
        go_ret
        exact ⟨⟨m0.P, G, _, _, _, rv, rs, _, _, _⟩, rfl, hC.low (Nat.le_succ _), rfl, rfl, rfl, (show _ = beg vs (supM vs cs) from by rw [hxs]; exact hrs), rfl, rfl, hbw⟩
end Go.Proofs.YtehekjlakegkpaaGreat
end
