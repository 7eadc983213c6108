/-
  What compact.TakeList and the reference's TakeList do: the list that bytes begin with. For slices of bytes that can be read, of at most 2000000 bytes, and any bound. Made by script (gentl.py).
-/
import Derived.Test.YtdhgdphjamcfcaaBrtake
namespace Go.Proofs.Ytdhgdphjamcfcaa
open Go.RowKit

/-- compact.Take, as the reference's is told. -/
theorem takeP_any (A : Option Addr) (n c : Nat) (xs : List Nat) (w : World) (h : Rk .u8 w A n c xs) (hB : Bl 256 xs) :
    Calls Try.prog 12 #[.slice A n c] w (TkP w xs) := (take_any A n c xs w h hB).mono fun e w' ⟨h1, h2⟩ => by
  subst h2; exact ⟨h1, Below.refl _ _⟩
theorem rk_empty (k : IntKind) (w : World) (A : Option Addr) (c : Nat) (hc : c ≤ 9223372036854775807) : Rk k w A 0 c [] := ⟨rfl, Nat.zero_le _, hc, fun h => by omega⟩
/-- It returns the list v, so many bytes, the error. -/
def TlP (w : World) (v : List Nat × Nat × Nat) (e : Ending) (w' : World) : Prop :=
  ∃ B m d, e = .returned (.tuple #[.slice B m d, .int .i64 (v.2.1 : Nat), .int .i64 (v.2.2 : Nat)]) ∧ Rk .u64 w' B m d v.1 ∧ Below w.heap.size w w'
theorem tlP_none {w w' : World} {v : List Nat × Nat × Nat} {e : Nat} (h : v = ([], 0, e)) (hb : Below w.heap.size w w') : TlP w v (.returned (.tuple #[.slice none 0 0, .int .i64 0, .int .i64 (e : Int)])) w' := by
  subst h; exact ⟨none, 0, 0, rfl, Rk.nil _ _, hb⟩
def TlRel (w : World) (n cnt : Nat) (xs : List Nat) (v : List Nat × Nat × Nat) (uv lv tv : Value) (wr : World) : Prop :=
  ∃ (i u c : Nat) (A : Option Addr) (acc : List Nat), i ≤ cnt ∧ u ≤ n ∧ i ≤ u ∧ uv = .int .i64 (u : Int) ∧ lv = .slice A i c ∧ tv = .int .u64 (i : Int) ∧ Owk .u64 23 wr w.heap.size A i c acc ∧ Hid (tls (cnt - i) xs u acc = v) ∧ Below w.heap.size w wr
theorem tls_step' {cnt i u x k : Nat} {xs acc : List Nat} {v : List Nat × Nat × Nat} (hi : i < cnt) (hv : tls (cnt - i) xs u acc = v) (ht : tk (xs.drop u) = (x, k, 0)) : tls (cnt - (i + 1)) xs (u + k) (acc ++ [x]) = v := by
  rw [show cnt - i = (cnt - (i + 1)) + 1 by omega, tls_step (by rw [ht]), ht] at hv
  exact hv
theorem tls_stop' {cnt i u x k e : Nat} {xs acc : List Nat} {v : List Nat × Nat × Nat} (hi : i < cnt) (hv : tls (cnt - i) xs u acc = v) (ht : tk (xs.drop u) = (x, k, e)) (he : e ≠ 0) : v = ([], 0, e) := by
  rw [show cnt - i = (cnt - (i + 1)) + 1 by omega, tls_stop (by rw [ht]; exact he), ht] at hv
  exact hv.symm
theorem tls_end' {cnt u : Nat} {xs acc : List Nat} {v : List Nat × Nat × Nat} (hv : tls (cnt - cnt) xs u acc = v) : v = (acc, u, 0) := by
  rw [Nat.sub_self, tls] at hv
  exact hv.symm

set_option maxHeartbeats 1600000 in
/-- compact.TakeList. -/
theorem tlist_any (A : Option Addr) (n c : Nat) (xs : List Nat) (most : Int) (w : World) (h : Rk .u8 w A n c xs) (hB : Bl 256 xs) (hn : n ≤ 2000000) (hm0 : -9223372036854775808 ≤ most) (hm1 : most ≤ 9223372036854775807) :
    Calls Try.prog 17 #[.slice A n c, .int .i64 most] w (TlP w (tl xs most)) := by
  have HL := Lib.hid h.len
  have hcap := h.cap
  have hmax := h.max
  have hx := tk_n xs hB
  obtain ⟨hk1, hk2, hk3, hk4⟩ := tk_k xs
  rw [HL.out] at hk1
  obtain ⟨x, hxe⟩ : ∃ x, (tk xs).1 = x := ⟨_, rfl⟩
  obtain ⟨k, hke⟩ : ∃ k, (tk xs).2.1 = k := ⟨_, rfl⟩
  obtain ⟨er, hee⟩ : ∃ e, (tk xs).2.2 = e := ⟨_, rfl⟩
  rw [hxe] at hx
  rw [hke] at hk1 hk2 hk4
  rw [hee] at hk2 hk3
  have HX := Lib.hid hxe
  have HK := Lib.hid hke
  have HE := Lib.hid hee
  clear hxe hke hee
  by_cases he0 : er = 0
  · subst he0
    have hk := hk2 rfl
    clear hk2 hk3
    obtain ⟨b, o, rfl, hb, hc⟩ := h.at_ (by omega)
    clear hc
    by_cases hneg : most < 0
    · have HV := Lib.hid (show tl xs most = ([], 0, 4) by unfold tl; rw [HE.out, if_neg (by simp), if_pos (.inl hneg)])
      go_enter Try.func17, Try.ntmps17
      go_wp2_with fail
      refine (takeP_any _ _ _ xs _ h hB).mono ?_
      simp only [TkP, tkE, HX.out, HK.out, HE.out]
      rintro e w1 ⟨rfl, hb1⟩
      go_wp2
      go_ret3
      exact tlP_none HV.out hb1
    · obtain ⟨M, rfl⟩ := Int.eq_ofNat_of_zero_le (show 0 ≤ most by omega)
      by_cases hlong : (M : Int) < (x : Int)
      · have HV := Lib.hid (show tl xs (M : Int) = ([], 0, 4) by unfold tl; rw [HE.out, HX.out, if_neg (by simp), if_pos (.inr hlong)])
        go_enter Try.func17, Try.ntmps17
        go_wp2_with fail
        refine (takeP_any _ _ _ xs _ h hB).mono ?_
        simp only [TkP, tkE, HX.out, HK.out, HE.out]
        rintro e w1 ⟨rfl, hb1⟩
        go_wp2
        go_ret3
        exact tlP_none HV.out hb1
      · have HV := Lib.hid (show tls (x - 0) xs k [] = tl xs (M : Int) by unfold tl; rw [HE.out, HX.out, HK.out, if_neg (by simp), if_neg (by omega), Nat.sub_zero])
        generalize tl xs (M : Int) = v at *
        have hdl : decide (M < x) = false := decide_eq_false (by omega)
        have hdn : decide ((M : Int) < 0) = false := decide_eq_false (by omega)
        go_enter Try.func17, Try.ntmps17
        go_wp2_with fail
        refine (takeP_any _ _ _ xs _ h hB).mono ?_
        simp only [TkP, tkE, HX.out, HK.out, HE.out]
        rintro e w1 ⟨rfl, hb1⟩
        go_wp2
        go_loopw [8, 10, 32] (fun uv lv tv wr => TlRel w n x xs v uv lv tv wr) (fun _ _ tv _ => x - (intOf tv).toNat)
        case atStart => exact ⟨0, k, 0, none, [], by omega, by omega, by omega, rfl, rfl, rfl, Owk.nil _ _ _ _, HV, hb1⟩
        case round =>
          obtain ⟨i, u, c2, A2, acc, hi, hu, hiu, rfl, rfl, rfl, hO, HT, hbel⟩ := hrel
          clear hb1 HV
          have hsz := hbel.size
          by_cases hlt : i < x
          · have hbd := Bl_drop hB u
            have hy := tk_n (xs.drop u) hbd
            obtain ⟨kk1, kk2, kk3, kk4⟩ := tk_k (xs.drop u)
            rw [List.length_drop, HL.out] at kk1
            obtain ⟨y, hye⟩ : ∃ x, (tk (xs.drop u)).1 = x := ⟨_, rfl⟩
            obtain ⟨z, hze⟩ : ∃ k, (tk (xs.drop u)).2.1 = k := ⟨_, rfl⟩
            obtain ⟨f, hfe⟩ : ∃ e, (tk (xs.drop u)).2.2 = e := ⟨_, rfl⟩
            rw [hye] at hy
            rw [hze] at kk1 kk2 kk4
            rw [hfe] at kk2 kk3
            have HTK := Lib.hid (show tk (xs.drop u) = (y, z, f) by rw [← hye, ← hze, ← hfe])
            clear hye hze hfe
            have hr := (h.below hbel)
            have hui : (u : Int) ≤ (n : Int) := by omega
            have huc : (u : Int) ≤ (c : Int) := by omega
            by_cases hcu : c = u
            · have hd0 : xs.drop u = [] := List.drop_of_length_le (by rw [HL.out]; omega)
              have HS := Lib.hid (tls_stop' (x := 0) (k := 0) (e := 5) hlt HT.out (by rw [hd0]; exact tk_nil _ rfl) (by omega))
              obtain rfl : n = u := by omega
              obtain rfl : c = n := by omega
              clear hy kk1 kk2 kk3 kk4 HTK hd0 hbd
              go_wp2_with fail
              refine (takeP_any _ 0 _ [] _ (rk_empty .u8 _ _ _ (by omega)) (Bl_nil _)).mono ?_
              simp only [TkP, tkE, tk_nil [] rfl]
              rintro e w3 ⟨rfl, hb3⟩
              have HB := Lib.hid (hbel.trans (hb3.mono hsz))
              clear hO hr
              go_wp2
              go_ret3
              exact tlP_none HS.out HB.out
            · have hr2 := hr.drop (i := u) hu (A' := some ⟨b, o + u, none⟩) (fun hh => rfl)
              by_cases hf : f = 0
              · subst hf
                have hz1 := kk2 rfl
                have HS := Lib.hid (tls_step' hlt HT.out HTK.out)
                go_wp2_with fail
                refine (takeP_any _ _ _ (xs.drop u) _ hr2 hbd).mono ?_
                simp only [TkP, tkE, HTK.out]
                rintro e w3 ⟨rfl, hb3⟩
                have hB3 := hbel.trans (hb3.mono hsz)
                have hO3 := hO.below hb3
                have hsz3 := hB3.size
                clear hO hr hr2 hb3
                go_wp2_with (at_builtin; refine wpList_appk _ .u64 23 8 rfl (.tmp 45) (.tmp 47) 33 rfl w.heap.size Try.underlying33 infoQ _ _ _ _ 1 1 acc [y] rfl rfl (hO3.alloc _) (rk_one _ _ _ _ _ rfl) (by unfold maxLen; omega) (by omega) (by simp; omega) ?_; intro A4 c4 w4 hO4 hb4)
                go_roundw
                case rel => exact ⟨i + 1, u + z, c4, A4, acc ++ [y], by omega, by omega, by omega, by go_num, rfl, by go_num, hO4, HS, (hB3.alloc hsz3 _).trans hb4⟩
                case measure => simp [intOf]; omega
              · have hf' : ((f : Int) != 0) = true := by simp; omega
                have HS := Lib.hid (tls_stop' hlt HT.out HTK.out hf)
                go_wp2_with fail
                refine (takeP_any _ _ _ (xs.drop u) _ hr2 hbd).mono ?_
                simp only [TkP, tkE, HTK.out]
                rintro e w3 ⟨rfl, hb3⟩
                have HB := Lib.hid (hbel.trans (hb3.mono hsz))
                clear hO hr hr2
                go_wp2
                go_ret3
                exact tlP_none HS.out HB.out
          · obtain rfl : i = x := by omega
            have HS := Lib.hid (tls_end' HT.out)
            have HO := Lib.hid hO
            clear hO
            go_wp2
            go_ret3
            rw [HS.out]
            exact ⟨_, _, _, rfl, HO.out.rk, hbel⟩
  · have hf' : ((er : Int) != 0) = true := by simp; omega
    have HV := Lib.hid (show tl xs most = ([], 0, er) by unfold tl; rw [HE.out, if_pos he0])
    go_enter Try.func17, Try.ntmps17
    go_wp2_with fail
    refine (takeP_any _ _ _ xs _ h hB).mono ?_
    simp only [TkP, tkE, HX.out, HK.out, HE.out]
    rintro e w1 ⟨rfl, hb1⟩
    go_wp2
    go_ret3
    exact tlP_none HV.out hb1

set_option maxHeartbeats 1600000 in
/-- The reference's TakeList. -/
theorem rtlist_any (A : Option Addr) (n c : Nat) (xs : List Nat) (most : Int) (w : World) (h : Rk .u8 w A n c xs) (hB : Bl 256 xs) (hn : n ≤ 2000000) (hm0 : -9223372036854775808 ≤ most) (hm1 : most ≤ 9223372036854775807) :
    Calls Try.prog 19 #[.slice A n c, .int .i64 most] w (TlP w (tl xs most)) := by
  have HL := Lib.hid h.len
  have hcap := h.cap
  have hmax := h.max
  have hx := tk_n xs hB
  obtain ⟨hk1, hk2, hk3, hk4⟩ := tk_k xs
  rw [HL.out] at hk1
  obtain ⟨x, hxe⟩ : ∃ x, (tk xs).1 = x := ⟨_, rfl⟩
  obtain ⟨k, hke⟩ : ∃ k, (tk xs).2.1 = k := ⟨_, rfl⟩
  obtain ⟨er, hee⟩ : ∃ e, (tk xs).2.2 = e := ⟨_, rfl⟩
  rw [hxe] at hx
  rw [hke] at hk1 hk2 hk4
  rw [hee] at hk2 hk3
  have HX := Lib.hid hxe
  have HK := Lib.hid hke
  have HE := Lib.hid hee
  clear hxe hke hee
  by_cases he0 : er = 0
  · subst he0
    have hk := hk2 rfl
    clear hk2 hk3
    obtain ⟨b, o, rfl, hb, hc⟩ := h.at_ (by omega)
    clear hc
    by_cases hneg : most < 0
    · have HV := Lib.hid (show tl xs most = ([], 0, 4) by unfold tl; rw [HE.out, if_neg (by simp), if_pos (.inl hneg)])
      go_enter Try.func19, Try.ntmps19
      go_wp2_with fail
      refine (rtake_any _ _ _ xs _ h hB).mono ?_
      simp only [TkP, tkE, HX.out, HK.out, HE.out]
      rintro e w1 ⟨rfl, hb1⟩
      go_wp2
      go_ret3
      exact tlP_none HV.out hb1
    · obtain ⟨M, rfl⟩ := Int.eq_ofNat_of_zero_le (show 0 ≤ most by omega)
      by_cases hlong : (M : Int) < (x : Int)
      · have HV := Lib.hid (show tl xs (M : Int) = ([], 0, 4) by unfold tl; rw [HE.out, HX.out, if_neg (by simp), if_pos (.inr hlong)])
        go_enter Try.func19, Try.ntmps19
        go_wp2_with fail
        refine (rtake_any _ _ _ xs _ h hB).mono ?_
        simp only [TkP, tkE, HX.out, HK.out, HE.out]
        rintro e w1 ⟨rfl, hb1⟩
        go_wp2
        go_ret3
        exact tlP_none HV.out hb1
      · have HV := Lib.hid (show tls (x - 0) xs k [] = tl xs (M : Int) by unfold tl; rw [HE.out, HX.out, HK.out, if_neg (by simp), if_neg (by omega), Nat.sub_zero])
        generalize tl xs (M : Int) = v at *
        have hdl : decide (M < x) = false := decide_eq_false (by omega)
        have hdn : decide ((M : Int) < 0) = false := decide_eq_false (by omega)
        go_enter Try.func19, Try.ntmps19
        go_wp2_with fail
        refine (rtake_any _ _ _ xs _ h hB).mono ?_
        simp only [TkP, tkE, HX.out, HK.out, HE.out]
        rintro e w1 ⟨rfl, hb1⟩
        go_wp2
        go_loopw [8, 10, 32] (fun uv lv tv wr => TlRel w n x xs v uv lv tv wr) (fun _ _ tv _ => x - (intOf tv).toNat)
        case atStart => exact ⟨0, k, 0, none, [], by omega, by omega, by omega, rfl, rfl, rfl, Owk.nil _ _ _ _, HV, hb1⟩
        case round =>
          obtain ⟨i, u, c2, A2, acc, hi, hu, hiu, rfl, rfl, rfl, hO, HT, hbel⟩ := hrel
          clear hb1 HV
          have hsz := hbel.size
          by_cases hlt : i < x
          · have hbd := Bl_drop hB u
            have hy := tk_n (xs.drop u) hbd
            obtain ⟨kk1, kk2, kk3, kk4⟩ := tk_k (xs.drop u)
            rw [List.length_drop, HL.out] at kk1
            obtain ⟨y, hye⟩ : ∃ x, (tk (xs.drop u)).1 = x := ⟨_, rfl⟩
            obtain ⟨z, hze⟩ : ∃ k, (tk (xs.drop u)).2.1 = k := ⟨_, rfl⟩
            obtain ⟨f, hfe⟩ : ∃ e, (tk (xs.drop u)).2.2 = e := ⟨_, rfl⟩
            rw [hye] at hy
            rw [hze] at kk1 kk2 kk4
            rw [hfe] at kk2 kk3
            have HTK := Lib.hid (show tk (xs.drop u) = (y, z, f) by rw [← hye, ← hze, ← hfe])
            clear hye hze hfe
            have hr := (h.below hbel)
            have hui : (u : Int) ≤ (n : Int) := by omega
            have huc : (u : Int) ≤ (c : Int) := by omega
            by_cases hcu : c = u
            · have hd0 : xs.drop u = [] := List.drop_of_length_le (by rw [HL.out]; omega)
              have HS := Lib.hid (tls_stop' (x := 0) (k := 0) (e := 5) hlt HT.out (by rw [hd0]; exact tk_nil _ rfl) (by omega))
              obtain rfl : n = u := by omega
              obtain rfl : c = n := by omega
              clear hy kk1 kk2 kk3 kk4 HTK hd0 hbd
              go_wp2_with fail
              refine (rtake_any _ 0 _ [] _ (rk_empty .u8 _ _ _ (by omega)) (Bl_nil _)).mono ?_
              simp only [TkP, tkE, tk_nil [] rfl]
              rintro e w3 ⟨rfl, hb3⟩
              have HB := Lib.hid (hbel.trans (hb3.mono hsz))
              clear hO hr
              go_wp2
              go_ret3
              exact tlP_none HS.out HB.out
            · have hr2 := hr.drop (i := u) hu (A' := some ⟨b, o + u, none⟩) (fun hh => rfl)
              by_cases hf : f = 0
              · subst hf
                have hz1 := kk2 rfl
                have HS := Lib.hid (tls_step' hlt HT.out HTK.out)
                go_wp2_with fail
                refine (rtake_any _ _ _ (xs.drop u) _ hr2 hbd).mono ?_
                simp only [TkP, tkE, HTK.out]
                rintro e w3 ⟨rfl, hb3⟩
                have hB3 := hbel.trans (hb3.mono hsz)
                have hO3 := hO.below hb3
                have hsz3 := hB3.size
                clear hO hr hr2 hb3
                go_wp2_with (at_builtin; refine wpList_appk _ .u64 23 8 rfl (.tmp 45) (.tmp 47) 33 rfl w.heap.size Try.underlying33 infoQ _ _ _ _ 1 1 acc [y] rfl rfl (hO3.alloc _) (rk_one _ _ _ _ _ rfl) (by unfold maxLen; omega) (by omega) (by simp; omega) ?_; intro A4 c4 w4 hO4 hb4)
                go_roundw
                case rel => exact ⟨i + 1, u + z, c4, A4, acc ++ [y], by omega, by omega, by omega, by go_num, rfl, by go_num, hO4, HS, (hB3.alloc hsz3 _).trans hb4⟩
                case measure => simp [intOf]; omega
              · have hf' : ((f : Int) != 0) = true := by simp; omega
                have HS := Lib.hid (tls_stop' hlt HT.out HTK.out hf)
                go_wp2_with fail
                refine (rtake_any _ _ _ (xs.drop u) _ hr2 hbd).mono ?_
                simp only [TkP, tkE, HTK.out]
                rintro e w3 ⟨rfl, hb3⟩
                have HB := Lib.hid (hbel.trans (hb3.mono hsz))
                clear hO hr hr2
                go_wp2
                go_ret3
                exact tlP_none HS.out HB.out
          · obtain rfl : i = x := by omega
            have HS := Lib.hid (tls_end' HT.out)
            have HO := Lib.hid hO
            clear hO
            go_wp2
            go_ret3
            rw [HS.out]
            exact ⟨_, _, _, rfl, HO.out.rk, hbel⟩
  · have hf' : ((er : Int) != 0) = true := by simp; omega
    have HV := Lib.hid (show tl xs most = ([], 0, er) by unfold tl; rw [HE.out, if_pos he0])
    go_enter Try.func19, Try.ntmps19
    go_wp2_with fail
    refine (rtake_any _ _ _ xs _ h hB).mono ?_
    simp only [TkP, tkE, HX.out, HK.out, HE.out]
    rintro e w1 ⟨rfl, hb1⟩
    go_wp2
    go_ret3
    exact tlP_none HV.out hb1
end Go.Proofs.Ytdhgdphjamcfcaa
