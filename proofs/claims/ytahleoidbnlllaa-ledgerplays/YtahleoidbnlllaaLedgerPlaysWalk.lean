/-
  The walk of the law LedgerPlays: it returns true, whatever the balances and the calls, and writes nothing that was there.
-/
import Derived.Test.YtahleoidbnlllaaLsame
import Derived.Test.YtahleoidbnlllaaLargs
import Derived.Deep.LoopGhost
import Derived.OpenShut
namespace Go.Proofs.Ytahleoidbnlllaa
open Go.RowKit
set_option linter.unusedVariables false

theorem IsOps.at2 {w : World} {A : Option Addr} {n c : Nat} {os : List Cl} (h : IsOps w A n c os) {i : Nat} (hi : i < n) : ∃ b o cl, A = some ⟨b, o, none⟩ ∧ b < w.heap.size ∧ os[i]? = some cl ∧ cl.ok ∧ w.cell? ⟨b, o + i * 4, none⟩ = some (.int .i64 cl.k) ∧ w.cell? ⟨b, o + i * 4 + 1, none⟩ = some (.int .i64 cl.a) ∧ w.cell? ⟨b, o + i * 4 + 2, none⟩ = some (.int .i64 cl.b) ∧ w.cell? ⟨b, o + i * 4 + 3, none⟩ = some (.int .u64 cl.v) := by
  obtain ⟨h1, h2, h3, h4, h5⟩ := h
  obtain ⟨cl, hcl⟩ : ∃ cl, os[i]? = some cl := ⟨_, List.getElem?_eq_getElem (by omega)⟩
  cases A with
  | none => have := (h4 rfl).1; omega
  | some x =>
    obtain ⟨hb, hc⟩ := h5 x rfl
    obtain ⟨hok, c0, c1, c2, c3⟩ := hc i cl hcl
    obtain ⟨b, o, sp⟩ := x
    obtain ⟨cl0, hcl0⟩ : ∃ cl, os[0]? = some cl := ⟨_, List.getElem?_eq_getElem (by omega)⟩
    have z0 := (hc 0 cl0 hcl0).2.1
    have hsp : sp = none := by simpa [Addr.add] using World.cell?_spot z0
    subst hsp
    clear z0
    rw [addr_add] at c0 c1 c2 c3
    exact ⟨b, o, cl, rfl, hb (by omega), hcl, hok, c0, by rw [Nat.add_assoc]; exact c1, by rw [Nat.add_assoc]; exact c2, by rw [Nat.add_assoc]; exact c3⟩
set_option maxRecDepth 100000 in
set_option maxHeartbeats 6400000 in
theorem lplays_walk (P : Option Addr) (n c : Nat) (xs : List Nat) (Q : Option Addr) (m d : Nat) (os : List Cl) (w : World) (h : Rk .u64 w P n c xs) (hX : Bl 18446744073709551616 xs) (ho : IsOps w Q m d os) :
    Calls Try.prog 3 #[.slice P n c, .slice Q m d] w fun e w' => e = .returned (.bool true) ∧ Below w.heap.size w w' := by
  have hlen := h.len
  have hcap := h.cap
  have hmax := h.max
  have hm1 := ho.2.1
  have hm2 := ho.2.2.1
  by_cases hbig : 100 < n ∨ 200 < m
  · clear h ho
    rcases Nat.lt_or_ge 100 n with h32 | h32
    · have k1 : (100 : Int) < (n : Int) := by omega
      go_enter Try.func3, Try.ntmps3
      go_wp2_with fail
      refine (wakeL_any _).mono ?_
      rintro e w1 ⟨rfl, hb1⟩
      go_wp2_with fail
      refine (wakeL_any _).mono ?_
      rintro e w2 ⟨rfl, hb2⟩
      go_wp2
      go_ret
      exact ⟨rfl, hb1.trans (hb2.mono hb1.size)⟩
    · have k1 : ¬ (100 : Int) < (n : Int) := by omega
      have k2 : (200 : Int) < (m : Int) := by omega
      go_enter Try.func3, Try.ntmps3
      go_wp2_with fail
      refine (wakeL_any _).mono ?_
      rintro e w1 ⟨rfl, hb1⟩
      go_wp2_with fail
      refine (wakeL_any _).mono ?_
      rintro e w2 ⟨rfl, hb2⟩
      go_wp2
      go_ret
      exact ⟨rfl, hb1.trans (hb2.mono hb1.size)⟩
  · have k1 : ¬ (100 : Int) < (n : Int) := by omega
    have k2 : ¬ (200 : Int) < (m : Int) := by omega
    have HR0 := Lib.hid h
    have HO0 := Lib.hid ho
    have HX := Lib.hid hX
    have HL := Lib.hid hlen
    have m200 : m ≤ 200 := by omega
    clear h ho hX hlen hbig
    go_enter Try.func3, Try.ntmps3
    go_wp2_with fail
    refine (wakeL_any _).mono ?_
    rintro e w1 ⟨rfl, hb1⟩
    have HN := Lib.hid (new_any P n c xs w1 (HR0.out.below hb1) HX.out)
    go_wp2_with fail
    refine HN.out.mono ?_
    rintro e w2 ⟨hb2, hcs⟩
    have hB2 := hb1.trans (hb2.mono hb1.size)
    have HN2 := Lib.hid (rnew_any P n c xs w2 (HR0.out.below hB2) HX.out)
    have HB2 := Lib.hid hB2
    have HB21 := Lib.hid hb2
    clear HN hB2 hb2
    rcases hcs with ⟨h32, rfl⟩ | ⟨h32, htt, rfl⟩ | ⟨h32, htt, s, rfl, hab, hg⟩
    · go_wp2_with fail
      refine HN2.out.mono ?_
      rintro e w3 ⟨hb3, ⟨_, rfl⟩ | ⟨q1, _⟩ | ⟨q1, _⟩⟩
      · have HB3 := Lib.hid (HB2.out.trans (hb3.mono HB2.out.size))
        clear hb3
        go_wp2
        go_ret
        exact ⟨by simp, HB3.out⟩
      · omega
      · omega
    · go_wp2_with fail
      refine HN2.out.mono ?_
      rintro e w3 ⟨hb3, ⟨q1, _⟩ | ⟨_, _, rfl⟩ | ⟨_, q1, _⟩⟩
      · omega
      · have HB3 := Lib.hid (HB2.out.trans (hb3.mono HB2.out.size))
        clear hb3
        go_wp2
        go_ret
        exact ⟨by simp, HB3.out⟩
      · omega
    · have HLA := Lib.hid (show LA TP w1.heap.size w2 s.L (newB xs) from ⟨s, rfl, hab, hg⟩)
      generalize s.L = L at HLA ⊢
      clear hab hg s
      go_wp2_with fail
      refine HN2.out.mono ?_
      rintro e w3 ⟨hb3, ⟨q1, _⟩ | ⟨_, q1, _⟩ | ⟨_, _, s, rfl, hab, hg⟩⟩
      · omega
      · omega
      · have hbo : Bo w1.heap.size w3 L s.L (newB xs) := by
          refine ⟨HLA.out.below hb3, ⟨s, rfl, hab, ?_⟩, newB_ok htt h32⟩
          exact ⟨hg.blk, own_base hg.row HB21.out.size, fun i x hX hx => own_base (hg.chs i x hX hx) HB21.out.size, hg.sep, fun i x g hx e => ⟨Nat.le_trans HB21.out.size (hg.lts i x g hx e).1, (hg.lts i x g hx e).2⟩, Nat.le_trans HB21.out.size hg.bL, hg.ty⟩
        have HBO := Lib.hid hbo
        have HB3 := Lib.hid (HB2.out.trans (hb3.mono HB2.out.size))
        have HO := Lib.hid (HO0.out.below HB3.out (Nat.le_refl _))
        have hlow : ∀ b o, Q = some ⟨b, o, none⟩ → 0 < m → b < w1.heap.size := fun b o e h0 => by
          have h1 := (HO0.out.2.2.2.2 _ e).1 h0
          have h2 := hb1.size
          exact Nat.lt_of_lt_of_le h1 h2
        have HLOW := Lib.hid hlow
        generalize s.L = L2 at HBO ⊢
        clear hbo hab hg s hb3 hlow HN2 HR0 HO0 htt HLA HB21
        go_wp2_with fail
        go_loopg [49] m (fun gk tv wr => ∃ (i : Nat) (A : Ab), i + gk = m ∧ tv = .int .i64 (i : Int) ∧ Bo w1.heap.size wr L L2 A ∧ Below w1.heap.size w3 wr)
        case atStart => exact ⟨0, _, by omega, rfl, HBO.out, Below.refl _ _⟩
        case round =>
          obtain ⟨i, A, hi, rfl, hbo, hbw⟩ := hrel
          clear HBO
          by_cases hlt : i < m
          · obtain ⟨b, o, cl, hQe, _, hcl, hok, c0, c1, c2, c3⟩ := HO.out.at2 hlt
            have hbl := HLOW.out b o hQe (by omega)
            subst hQe
            have d0 := (hbw.cell (p := ⟨b, o + i * 4, none⟩) hbl).trans c0
            have d1 := (hbw.cell (p := ⟨b, o + i * 4 + 1, none⟩) hbl).trans c1
            have d2 := (hbw.cell (p := ⟨b, o + i * 4 + 2, none⟩) hbl).trans c2
            have d3 := (hbw.cell (p := ⟨b, o + i * 4 + 3, none⟩) hbl).trans c3
            obtain ⟨ok0, ok1, ok2, ok3⟩ := hok
            obtain ⟨kk, aa, bb, vv⟩ := cl
            dsimp only at d0 d1 d2 d3 ok0 ok1 ok2 ok3
            have bv := bounds_u64 ok3
            obtain ⟨nn, rfl⟩ := Int.eq_ofNat_of_zero_le bv.1
            have hdo := do_any hbo kk aa bb nn (by omega) ok2
            have HDO := Lib.hid hdo
            have HBW := Lib.hid hbw
            have hlt' : (i : Int) < (m : Int) := by omega
            clear c0 c1 c2 c3 hcl hdo hbo hbw
            go_wp2_with fail
            refine HDO.out.mono ?_
            rintro e w4 ⟨rfl, ⟨A', hbo4⟩, hb4⟩
            have HSM := Lib.hid (same_any hbo4)
            have HBO4 := Lib.hid hbo4
            have HB4 := Lib.hid (HBW.out.trans hb4)
            clear hbo4 hb4 d0 d1 d2 d3
            go_wp2_with fail
            refine HSM.out.mono ?_
            rintro e w5 ⟨rfl, hb5⟩
            have HBO5 := Lib.hid (HBO4.out.below hb5)
            have HB5 := Lib.hid (HB4.out.trans (hb5.mono HBO4.out.base_le))
            clear hb5
            go_wp2_with fail
            go_roundg (m - (i + 1))
            case measure => omega
            case rel => exact ⟨i + 1, A', by omega, by go_num, HBO5.out, HB5.out⟩
          · have hlt' : ¬ (i : Int) < (m : Int) := by omega
            go_wp2
            go_ret
            exact ⟨rfl, HB3.out.trans (hbw.mono hb1.size)⟩
end Go.Proofs.Ytahleoidbnlllaa
