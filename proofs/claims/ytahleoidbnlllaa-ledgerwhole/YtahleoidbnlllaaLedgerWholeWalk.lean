/-
  The walk of the law LedgerWhole: it returns true, whatever the balances and the calls, and writes nothing that was there.
-/
import Derived.Test.YtahleoidbnlllaaLall
import Derived.Test.YtahleoidbnlllaaLargs
import Derived.Deep.LoopGhost
import Derived.Deep.DeepCutAuto
import Derived.Deep.CutBlock
import Derived.OpenShut
import Derived.BigQuiet
namespace Go.Proofs.Ytahleoidbnlllaa
open Go.RowKit
set_option linter.unusedVariables false

/-- A ledger in order at L, with so many accounts, that holds so much together. -/
def Wh (base : Nat) (w : World) (L nb T : Nat) : Prop := ∃ A, LA TP base w L A ∧ A.ok ∧ A.a.length = nb ∧ A.tot = T
theorem Wh.below {base : Nat} {w w' : World} {L nb T : Nat} (h : Wh base w L nb T) (hb : Below w.heap.size w w') : Wh base w' L nb T := by
  obtain ⟨A, h1, h2, h3, h4⟩ := h
  exact ⟨A, h1.below hb, h2, h3, h4⟩
theorem Wh.lt {base : Nat} {w : World} {L nb T : Nat} (h : Wh base w L nb T) : T < 18446744073709551616 ∧ nb ≤ 32 ∧ base ≤ w.heap.size := by
  obtain ⟨A, h1, h2, h3, h4⟩ := h
  exact ⟨by rw [← h4]; exact h2.tot, by rw [← h3]; exact h2.len, h1.base_le⟩
theorem Wh.of {base : Nat} {w w' : World} {L : Nat} {A A' : Ab} (h : LTo TP base w w' L A') (hg : Good A A') (hl : A'.a.length = A.a.length) : Wh base w' L A.a.length A.tot := ⟨A', h.la, hg.1, hl, hg.2⟩
theorem belowDrewN {B : Nat} {a w : World} (h : Below B a w) (q : Nat) : Below B a (w.drewN q) := ⟨h.os, h.tape, h.output, h.size, h.block⟩
theorem put_len (s : Ab) (i : Int) (y : Ac) : (s.put i y).a.length = s.a.length := by simp [Ab.put]
theorem bond_len (s : Ab) (i : Int) (n : Nat) : (bondM s i n).1.a.length = s.a.length := by unfold bondM; split <;> (try split) <;> simp [Ab.put]
theorem dep_len (s : Ab) (i : Int) (n : Nat) : (depM s i n).1.a.length = s.a.length := by unfold depM; split <;> (try split) <;> simp [Ab.put]
theorem rel_len (s : Ab) (i : Int) (n : Nat) : (relM s i n).1.a.length = s.a.length := by unfold relM; split <;> (try split) <;> simp [Ab.put]
theorem for_len (s : Ab) (i : Int) (n : Nat) : (forM s i n).1.a.length = s.a.length := by unfold forM; split <;> (try split) <;> simp [Ab.put]
theorem pay_len (s : Ab) (i : Int) (n : Nat) : (payM s i n).1.a.length = s.a.length := by unfold payM; split <;> (try split) <;> simp [Ab.put]
theorem keep_len (s : Ab) (n : Nat) : (keepM s n).1.a.length = s.a.length := by unfold keepM; split <;> rfl
theorem mint_len (s : Ab) (n : Nat) : (mintM s n).1.a.length = s.a.length := by unfold mintM; split <;> rfl
theorem mdF_len (a : List Ac) (i : Nat) (g : Nat → Nat) : (mdF a i g).length = a.length := by unfold mdF; split <;> simp
theorem tr_len (s : Ab) (i j : Int) (n : Nat) : (trM s i j n).1.a.length = s.a.length := by unfold trM; split <;> (try split) <;> simp [mdF_len]
theorem unb_len (s : Ab) (i : Int) (n : Nat) (era : Int) : (unbM s i n era).1.a.length = s.a.length := by
  unfold unbM
  split
  · rfl
  · split
    · rfl
    · split
      · rfl
      · split <;> simp [Ab.put]
theorem wdr_len (s : Ab) (i era : Int) : (wdrM s i era).1.a.length = s.a.length := by unfold wdrM; split <;> simp [Ab.put]
theorem sla_len (s : Ab) (i : Int) (n : Nat) : (slaM s i n).1.a.length = s.a.length := by unfold slaM; split <;> simp [Ab.put]
theorem IsOps.at_ {w : World} {A : Option Addr} {n c : Nat} {os : List Cl} (h : IsOps w A n c os) {i : Nat} (hi : i < n) : ∃ b o cl, A = some ⟨b, o, none⟩ ∧ b < w.heap.size ∧ os[i]? = some cl ∧ cl.ok ∧ w.cell? ⟨b, o + i * 4, none⟩ = some (.int .i64 cl.k) ∧ w.cell? ⟨b, o + i * 4 + 1, none⟩ = some (.int .i64 cl.a) ∧ w.cell? ⟨b, o + i * 4 + 2, none⟩ = some (.int .i64 cl.b) ∧ w.cell? ⟨b, o + i * 4 + 3, none⟩ = some (.int .u64 cl.v) := by
  obtain ⟨h1, h2, h3, h4, h5⟩ := h
  obtain ⟨cl, hcl⟩ : ∃ cl, os[i]? = some cl := ⟨_, List.getElem?_eq_getElem (by omega)⟩
  cases A with
  | none => have := (h4 rfl).1; omega
  | some x =>
    obtain ⟨hb, hc⟩ := h5 x rfl
    obtain ⟨hok, c0, c1, c2, c3⟩ := hc i cl hcl
    obtain ⟨b, o, sp⟩ := x
    obtain ⟨cl0, hcl0⟩ : ∃ cl, os[0]? = some cl := ⟨_, List.getElem?_eq_getElem (by omega)⟩
    have z0 := (hc 0 cl0 hcl0).2.1
    have hsp : sp = none := by simpa [Addr.add] using World.cell?_spot z0
    subst hsp
    clear z0
    rw [addr_add] at c0 c1 c2 c3
    exact ⟨b, o, cl, rfl, hb (by omega), hcl, hok, c0, by rw [Nat.add_assoc]; exact c1, by rw [Nat.add_assoc]; exact c2, by rw [Nat.add_assoc]; exact c3⟩
set_option maxRecDepth 100000 in
set_option maxHeartbeats 6400000 in
theorem lwhole_walk (P : Option Addr) (n c : Nat) (xs : List Nat) (Q : Option Addr) (m d : Nat) (os : List Cl) (w : World) (h : Rk .u64 w P n c xs) (hX : Bl 18446744073709551616 xs) (ho : IsOps w Q m d os) :
    Calls Try.prog 4 #[.slice P n c, .slice Q m d] w fun e w' => e = .returned (.bool true) ∧ Below w.heap.size w w' := by
  have hlen := h.len
  have hcap := h.cap
  have hmax := h.max
  have hm1 := ho.2.1
  have hm2 := ho.2.2.1
  by_cases hbig : 32 < n ∨ 200 < m
  · have H := Lib.hid h
    have HO := Lib.hid ho
    clear h ho
    rcases Nat.lt_or_ge 32 n with h32 | h32
    · have k1 : (32 : Int) < (n : Int) := by omega
      go_enter Try.func4, Try.ntmps4
      go_wp2_with fail
      refine (wakeL_any _).mono ?_
      rintro e w1 ⟨rfl, hb1⟩
      go_wp2_with fail
      refine (wakeL_any _).mono ?_
      rintro e w2 ⟨rfl, hb2⟩
      go_wp2
      go_ret
      exact ⟨rfl, hb1.trans (hb2.mono hb1.size)⟩
    · have k1 : ¬ (32 : Int) < (n : Int) := by omega
      have k2 : (200 : Int) < (m : Int) := by omega
      go_enter Try.func4, Try.ntmps4
      go_wp2_with fail
      refine (wakeL_any _).mono ?_
      rintro e w1 ⟨rfl, hb1⟩
      go_wp2_with fail
      refine (wakeL_any _).mono ?_
      rintro e w2 ⟨rfl, hb2⟩
      go_wp2
      go_ret
      exact ⟨rfl, hb1.trans (hb2.mono hb1.size)⟩
  · have k1 : ¬ (32 : Int) < (n : Int) := by omega
    have k2 : ¬ (200 : Int) < (m : Int) := by omega
    have HR0 := Lib.hid h
    have HO0 := Lib.hid ho
    have HX := Lib.hid hX
    have HL := Lib.hid hlen
    have n32 : n ≤ 32 := by omega
    have m200 : m ≤ 200 := by omega
    clear h ho hX hlen hbig
    go_enter Try.func4, Try.ntmps4
    go_wp2_with fail
    refine (wakeL_any _).mono ?_
    rintro e w1 ⟨rfl, hb1⟩
    have hN := new_any P n c xs w1 (HR0.out.below hb1) HX.out
    have HN := Lib.hid hN
    clear hN
    go_wp2_with fail
    refine HN.out.mono ?_
    rintro e w2 ⟨hb2, ⟨h1, _⟩ | ⟨_, h1, rfl⟩ | ⟨_, htot, s, rfl, hab, hg⟩⟩
    · have := HL.out; omega
    · go_wp2
      go_ret
      exact ⟨rfl, hb1.trans (hb2.mono hb1.size)⟩
    · have hB2 := hb1.trans (hb2.mono hb1.size)
      have hwh : Wh w1.heap.size w2 s.L n (tot xs) := ⟨newB xs, ⟨s, rfl, hab, hg⟩, newB_ok htot (by rw [HL.out]; exact n32), by simp [newB, HL.out], newB_tot xs⟩
      have hlow : ∀ b o, Q = some ⟨b, o, none⟩ → 0 < m → b < w1.heap.size := fun b o e h0 => by
        have h1 := (HO0.out.2.2.2.2 _ e).1 h0
        have h2 := hb1.size
        exact Nat.lt_of_lt_of_le h1 h2
      have HLOW := Lib.hid hlow
      clear hlow
      have HWH := Lib.hid hwh
      have HB2 := Lib.hid hB2
      have HO := Lib.hid (HO0.out.below hB2 (Nat.le_refl _))
      generalize s.L = L at HWH ⊢
      clear hwh hab hg s hB2 HN HR0 HO0 htot hb2
      go_wp2_with fail
      go_loopg [36] m (fun gk tv wr => ∃ (i : Nat) (T : Nat), i + gk = m ∧ tv = .int .i64 (i : Int) ∧ Wh w1.heap.size wr L n T ∧ Below w1.heap.size w2 wr)
      case atStart => exact ⟨0, _, by omega, rfl, HWH.out, Below.refl _ _⟩
      case round =>
        obtain ⟨i, T, hi, rfl, hwh, hbw⟩ := hrel
        clear HWH
        have hsw := hwh.lt.2.2
        by_cases hlt : i < m
        · obtain ⟨b, o, cl, hQe, _, hcl, hok, c0, c1, c2, c3⟩ := HO.out.at_ hlt
          have hbl := HLOW.out b o hQe (by omega)
          subst hQe
          have d0 := (hbw.cell (p := ⟨b, o + i * 4, none⟩) hbl).trans c0
          have d1 := (hbw.cell (p := ⟨b, o + i * 4 + 1, none⟩) hbl).trans c1
          have d2 := (hbw.cell (p := ⟨b, o + i * 4 + 2, none⟩) hbl).trans c2
          have d3 := (hbw.cell (p := ⟨b, o + i * 4 + 3, none⟩) hbl).trans c3
          obtain ⟨ok0, ok1, ok2, ok3⟩ := hok
          obtain ⟨kk, aa, bb, vv⟩ := cl
          dsimp only at d0 d1 d2 d3 ok0 ok1 ok2 ok3
          have bv := bounds_u64 ok3
          obtain ⟨nn, rfl⟩ := Int.eq_ofNat_of_zero_le bv.1
          have hnn : nn < 18446744073709551616 := by omega
          clear c0 c1 c2 c3 hcl
          have b7 : Below wr.heap.size wr (wr.alloc (.cells #[.int .i64 kk, .int .i64 aa, .int .i64 bb, .int .u64 (nn : Int)] 35)) := (Below.refl _ _).alloc (Nat.le_refl _) _
          have kO := KB.new wr 35 #[.int .i64 kk, .int .i64 aa, .int .i64 bb, .int .u64 (nn : Int)]
          have hwh7 := hwh.below b7
          have hbw7 := hbw.trans (b7.mono hsw)
          have HW7 := Lib.hid hwh7
          have HB7 := Lib.hid hbw7
          have HKO := Lib.hid kO
          clear hwh7 hbw7 kO b7 hwh hbw
          go_wp2_with fail
          generalize (wr.alloc (.cells #[.int .i64 kk, .int .i64 aa, .int .i64 bb, .int .u64 (nn : Int)] 35)) = w7 at HW7 HB7 HKO ⊢
          clear d0 d1 d2 d3
          obtain ⟨A, hla, hAok, hAl, rfl⟩ := HW7.out
          have HI := Lib.hid (issL hla hAok)
          have HLA := Lib.hid hla
          have HAK := Lib.hid hAok
          have HAL := Lib.hid hAl
          clear hla hAok hAl
          refine HI.out.mono ?_
          rintro e w8 ⟨rfl, hb8⟩
          have kO8 := HKO.out.below hb8 HKO.out.lt
          have hla8 := HLA.out.below hb8
          have hbw8 := HB7.out.trans (hb8.mono HLA.out.base_le)
          have x0 := kO8.cell 0
          have x1 := kO8.cell 1
          have x2 := kO8.cell 2
          have x3 := kO8.cell 3
          simp at x0 x1 x2 x3
          have HLA8 := Lib.hid hla8
          have HB8 := Lib.hid hbw8
          have HKO8 := Lib.hid kO8
          clear hla8 hbw8 kO8 hb8 HLA HB7 HI HW7 HKO
          go_upto_block 2 with (fail)
          go_cut [9] (fun s9 wx => ∃ T' : Nat, s9 = .int .u64 (T' : Int) ∧ Hid (Wh w1.heap.size wx L n T' ∧ Below w1.heap.size w2 wx))
          case first =>
            as_aux_lemma =>
              by_cases e3 : kk = 3
              · subst e3
                have hc := unbL HLA8.out HAK.out aa nn hnn bb
                have HC := Lib.hid hc
                clear hc
                go_wp2_with fail
                refine HC.out.mono ?_
                rintro e w9 ⟨rfl, hT⟩
                have hW9 := Wh.of hT (unb_good HAK.out aa nn bb ok2) (unb_len A aa nn bb)
                rw [HAL.out] at hW9
                have FIN := Lib.hid (And.intro hW9 (HB8.out.trans hT.bel))
                clear hT hW9
                go_wp2_with fail
                go_meet
                exact ⟨_, rfl, FIN.out⟩
              by_cases e4 : kk = 4
              · subst e4
                have hc := wdrL HLA8.out HAK.out aa bb
                have HC := Lib.hid hc
                clear hc
                go_wp2_with fail
                refine HC.out.mono ?_
                rintro e w9 ⟨rfl, hT⟩
                have hW9 := Wh.of hT (wdr_good HAK.out aa bb) (wdr_len A aa bb)
                rw [HAL.out] at hW9
                have FIN := Lib.hid (And.intro hW9 (HB8.out.trans hT.bel))
                clear hT hW9
                go_wp2_with fail
                go_meet
                exact ⟨_, rfl, FIN.out⟩
              by_cases e8 : kk = 8
              · subst e8
                have hc := mintL HLA8.out HAK.out nn hnn
                obtain ⟨mg1, mg2⟩ := mint_good HAK.out nn
                have hml := mint_len A nn
                by_cases hfit : A.tot + nn < 18446744073709551616
                · have e0 : (mintM A nn).2 = 0 := by unfold mintM; rw [if_pos hfit]
                  rw [e0, if_pos rfl] at mg2
                  rw [e0] at hc
                  have HC := Lib.hid hc
                  have qq : IntKind.u64.wrap ((A.tot : Int) + (nn : Int)) = ((A.tot + nn : Nat) : Int) := by rw [IntKind.wrap_u64]; omega
                  have MG := Lib.hid (And.intro mg1 (And.intro mg2 hml))
                  clear hc mg1 mg2 hml e0
                  go_wp2_with fail
                  refine HC.out.mono ?_
                  rintro e w9 ⟨rfl, hT⟩
                  have hk9 := hT.side _ _ _ HKO8.out (by decide) (by decide) (by decide)
                  have y3 := hk9.cell 3
                  simp at y3
                  have hW9 : Wh w1.heap.size w9 L n (A.tot + nn) := ⟨_, hT.la, MG.out.1, MG.out.2.2.trans HAL.out, MG.out.2.1⟩
                  have FIN := Lib.hid (And.intro hW9 (HB8.out.trans hT.bel))
                  clear hT hW9 hk9
                  go_wp2_with fail
                  go_meet
                  exact ⟨A.tot + nn, by go_num, FIN.out⟩
                · have e0 : mintM A nn = (A, 3) := by unfold mintM; rw [if_neg hfit]
                  rw [e0] at hc
                  dsimp only at hc
                  have HC := Lib.hid hc
                  clear hc mg1 mg2 hml e0
                  go_wp2_with fail
                  refine HC.out.mono ?_
                  rintro e w9 ⟨rfl, hT⟩
                  have hW9 : Wh w1.heap.size w9 L n A.tot := ⟨A, hT.la, HAK.out, HAL.out, rfl⟩
                  have FIN := Lib.hid (And.intro hW9 (HB8.out.trans hT.bel))
                  clear hT hW9
                  go_wp2_with fail
                  go_meet
                  exact ⟨_, rfl, FIN.out⟩
              by_cases e11 : kk = 11
              · subst e11
                have hc := slaL HLA8.out HAK.out aa nn hnn
                have HC := Lib.hid hc
                clear hc
                go_wp2_with fail
                refine HC.out.mono ?_
                rintro e w9 ⟨rfl, hT⟩
                have hW9 := Wh.of hT (sla_good HAK.out aa nn) (sla_len A aa nn)
                rw [HAL.out] at hW9
                have FIN := Lib.hid (And.intro hW9 (HB8.out.trans hT.bel))
                clear hT hW9
                go_wp2_with fail
                go_meet
                exact ⟨_, rfl, FIN.out⟩
              by_cases e1 : kk = 1
              · subst e1
                have hc := trL HLA8.out HAK.out aa bb nn hnn
                have HC := Lib.hid hc
                clear hc
                go_wp2_with fail
                refine HC.out.mono ?_
                rintro e w9 ⟨rfl, hT⟩
                have hW9 := Wh.of hT (tr_good HAK.out aa bb nn) (tr_len A aa bb nn)
                rw [HAL.out] at hW9
                have FIN := Lib.hid (And.intro hW9 (HB8.out.trans hT.bel))
                clear hT hW9
                go_wp2_with fail
                go_meet
                exact ⟨_, rfl, FIN.out⟩
              by_cases e2 : kk = 2
              · subst e2
                have hc := bondL HLA8.out HAK.out aa nn hnn
                have HC := Lib.hid hc
                clear hc
                go_wp2_with fail
                refine HC.out.mono ?_
                rintro e w9 ⟨rfl, hT⟩
                have hW9 := Wh.of hT (bond_good HAK.out aa nn) (bond_len A aa nn)
                rw [HAL.out] at hW9
                have FIN := Lib.hid (And.intro hW9 (HB8.out.trans hT.bel))
                clear hT hW9
                go_wp2_with fail
                go_meet
                exact ⟨_, rfl, FIN.out⟩
              by_cases e5 : kk = 5
              · subst e5
                have hc := depL HLA8.out HAK.out aa nn hnn
                have HC := Lib.hid hc
                clear hc
                go_wp2_with fail
                refine HC.out.mono ?_
                rintro e w9 ⟨rfl, hT⟩
                have hW9 := Wh.of hT (dep_good HAK.out aa nn) (dep_len A aa nn)
                rw [HAL.out] at hW9
                have FIN := Lib.hid (And.intro hW9 (HB8.out.trans hT.bel))
                clear hT hW9
                go_wp2_with fail
                go_meet
                exact ⟨_, rfl, FIN.out⟩
              by_cases e6 : kk = 6
              · subst e6
                have hc := relL HLA8.out HAK.out aa nn hnn
                have HC := Lib.hid hc
                clear hc
                go_wp2_with fail
                refine HC.out.mono ?_
                rintro e w9 ⟨rfl, hT⟩
                have hW9 := Wh.of hT (rel_good HAK.out aa nn) (rel_len A aa nn)
                rw [HAL.out] at hW9
                have FIN := Lib.hid (And.intro hW9 (HB8.out.trans hT.bel))
                clear hT hW9
                go_wp2_with fail
                go_meet
                exact ⟨_, rfl, FIN.out⟩
              by_cases e7 : kk = 7
              · subst e7
                have hc := forL HLA8.out HAK.out aa nn hnn
                have HC := Lib.hid hc
                clear hc
                go_wp2_with fail
                refine HC.out.mono ?_
                rintro e w9 ⟨rfl, hT⟩
                have hW9 := Wh.of hT (for_good HAK.out aa nn) (for_len A aa nn)
                rw [HAL.out] at hW9
                have FIN := Lib.hid (And.intro hW9 (HB8.out.trans hT.bel))
                clear hT hW9
                go_wp2_with fail
                go_meet
                exact ⟨_, rfl, FIN.out⟩
              by_cases e9 : kk = 9
              · subst e9
                have hc := payL HLA8.out HAK.out aa nn hnn
                have HC := Lib.hid hc
                clear hc
                go_wp2_with fail
                refine HC.out.mono ?_
                rintro e w9 ⟨rfl, hT⟩
                have hW9 := Wh.of hT (pay_good HAK.out aa nn) (pay_len A aa nn)
                rw [HAL.out] at hW9
                have FIN := Lib.hid (And.intro hW9 (HB8.out.trans hT.bel))
                clear hT hW9
                go_wp2_with fail
                go_meet
                exact ⟨_, rfl, FIN.out⟩
              by_cases e10 : kk = 10
              · subst e10
                have hc := keepL HLA8.out HAK.out nn hnn
                have HC := Lib.hid hc
                clear hc
                go_wp2_with fail
                refine HC.out.mono ?_
                rintro e w9 ⟨rfl, hT⟩
                have hW9 := Wh.of hT (keep_good HAK.out nn) (keep_len A nn)
                rw [HAL.out] at hW9
                have FIN := Lib.hid (And.intro hW9 (HB8.out.trans hT.bel))
                clear hT hW9
                go_wp2_with fail
                go_meet
                exact ⟨_, rfl, FIN.out⟩
              have FIN := Lib.hid (And.intro (show Wh w1.heap.size w8 L n A.tot from ⟨A, HLA8.out, HAK.out, HAL.out, rfl⟩) HB8.out)
              go_wp2_with fail
              go_meet
              exact ⟨_, rfl, FIN.out⟩
          case rest =>
            as_aux_lemma =>
              obtain ⟨T', rfl, HCU⟩ := hcut
              clear HLA8 HAK HAL HB8 HKO8 x0 x1 x2 x3 ok0 ok1 ok2 ok3 A
              obtain ⟨⟨A, hla, hAok, hAl, hAT⟩, hbw⟩ := HCU.out
              have hall := all_any hla hAok
              rw [hAT] at hall
              have HALL := Lib.hid hall
              have HLA := Lib.hid hla
              have HOK := Lib.hid hAok
              have HAL := Lib.hid hAl
              have HAT := Lib.hid hAT
              have HBW := Lib.hid hbw
              have hTl : T' < 18446744073709551616 := by rw [← hAT]; exact hAok.tot
              clear hall hla hAok hAl hAT hbw HCU
              go_wp2_with fail
              refine HALL.out.mono ?_
              rintro e w10 ⟨rfl, hb10⟩
              have hla10 := HLA.out.below hb10
              have hbw10 := HBW.out.trans (hb10.mono HLA.out.base_le)
              have hiss := issL hla10 HOK.out
              rw [HAT.out] at hiss
              have HIS := Lib.hid hiss
              have HLA10 := Lib.hid hla10
              have HBW10 := Lib.hid hbw10
              clear hiss hla10 hbw10 hb10 HLA HBW HALL
              go_wp2_with fail
              refine HIS.out.mono ?_
              rintro e w11 ⟨rfl, hb11⟩
              have hla11 := HLA10.out.below hb11
              have hbw11 := HBW10.out.trans (hb11.mono HLA10.out.base_le)
              have HLA11 := Lib.hid hla11
              have HBW11 := Lib.hid hbw11
              clear hla11 hbw11 hb11 HLA10 HBW10 HIS
              go_wp2_with fail
              go_loopg [152] n (fun gj tv wj => ∃ j : Nat, j + gj = n ∧ tv = .int .i64 (j : Int) ∧ LA TP w1.heap.size wj L A ∧ Below w1.heap.size w2 wj)
              case atStart => exact ⟨0, by omega, rfl, HLA11.out, HBW11.out⟩
              case round =>
                obtain ⟨j, hj, rfl, hlaj, hbj⟩ := hrel
                clear HLA11 HBW11
                by_cases hjn : j < n
                · obtain ⟨x, hx⟩ : ∃ x, A.a[j]? = some x := ⟨_, List.getElem?_eq_getElem (by rw [HAL.out]; exact hjn)⟩
                  have hac := accL_yes hlaj HOK.out (i := (j : Int)) (x := x) (by rw [Ab.ac_nat]; exact hx)
                  have hco := HOK.out.ch x (List.mem_of_getElem? hx)
                  have hx8 := hco.len
                  have HAC := Lib.hid hac
                  have HCO := Lib.hid hco
                  have HLAJ := Lib.hid hlaj
                  have HBJ := Lib.hid hbj
                  have hnj : (j : Int) < (n : Int) := by omega
                  clear hac hco hx hlaj hbj
                  go_wp2_with fail
                  refine HAC.out.mono ?_
                  rintro e w12 ⟨va, rfl, hoa, hb12⟩
                  obtain ⟨PA, ca, rfl, hsa⟩ := own_sc hoa (by omega)
                  have hla12 := HLAJ.out.below hb12
                  have hbj12 := HBJ.out.trans (hb12.mono HLAJ.out.base_le)
                  have kA := KB.new w12 49 #[.int .u64 (x.f : Nat), .int .u64 (x.b : Nat), .int .u64 (x.d : Nat), .slice PA x.ch.length ca]
                  have b13 : Below w12.heap.size w12 (w12.alloc (.cells #[.int .u64 (x.f : Nat), .int .u64 (x.b : Nat), .int .u64 (x.d : Nat), .slice PA x.ch.length ca] 49)) := (Below.refl _ _).alloc (Nat.le_refl _) _
                  have HLA13 := Lib.hid (hla12.below b13)
                  have HB13 := Lib.hid (hbj12.trans (b13.mono hla12.base_le))
                  have HSA := Lib.hid (hsa.below b13)
                  have HKA := Lib.hid kA
                  clear kA b13 hla12 hbj12 hsa hoa hb12
                  obtain ⟨M, hM⟩ : ∃ M, M = x.ch.length := ⟨_, rfl⟩
                  have HM := Lib.hid hM
                  have hac2 := HSA.out.2.1
                  rw [← hM] at HKA HSA HB13 HLA13 hac2 hx8 ⊢
                  clear hM
                  go_wp2_with fail
                  generalize (w12.alloc (.cells #[.int .u64 (x.f : Nat), .int .u64 (x.b : Nat), .int .u64 (x.d : Nat), .slice PA M ca] 49)) = w13 at HB13 HLA13 HSA HKA ⊢
                  have a3 := HKA.out.cell 3
                  simp at a3
                  go_loopg [164] M (fun gq tv wq => ∃ q t : Nat, q + gq = M ∧ tv = .int .i64 (q : Int) ∧ wq = w13.drewN t)
                  case atStart => exact ⟨0, 0, by omega, rfl, rfl⟩
                  case round =>
                    obtain ⟨q, t, hq, rfl, rfl⟩ := hrel
                    by_cases hqM : q < M
                    · obtain ⟨_, _, _, h4⟩ := HSA.out
                      obtain ⟨g, o', hPA, hg, hc⟩ := h4 (by omega)
                      subst hPA
                      obtain ⟨y, hy⟩ : ∃ y, x.ch[q]? = some y := ⟨_, List.getElem?_eq_getElem (by rw [← HM.out]; exact hqM)⟩
                      obtain ⟨c0, c1⟩ := hc q y hy
                      have hpos := HCO.out.pos y (List.mem_of_getElem? hy)
                      have hnz : ¬ ((y.1 : Int) = 0) := by omega
                      have hqM' : (q : Int) < (M : Int) := by omega
                      have hq8 : ¬ ((8 : Int) ≤ (q : Int)) := by omega
                      have nb1 : decide ((y.1 : Int) = 0) = false := decide_eq_false hnz
                      have nb2 : ((y.1 : Int) == 0) = false := by simp; omega
                      have nb3 : decide ((8 : Int) ≤ (q : Int)) = false := decide_eq_false hq8
                      by_cases hq0 : q = 0
                      · subst hq0
                        simp only [Nat.zero_mul, Nat.add_zero] at c0 c1
                        clear hc hy h4
                        go_wp2_with fail
                        go_quiet (fail)
                        go_wp2_with fail
                        go_roundg (M - (0 + 1))
                        case measure => omega
                        case rel => exact ⟨1, _, by omega, by go_num, rfl⟩
                      · obtain ⟨p', hp'⟩ : ∃ p', q = p' + 1 := ⟨q - 1, by omega⟩
                        obtain ⟨z, hz⟩ : ∃ z, x.ch[p']? = some z := ⟨_, List.getElem?_eq_getElem (by rw [← HM.out]; omega)⟩
                        obtain ⟨e0, e1⟩ := hc p' z hz
                        have hup : z.2 < y.2 := by
                          have hy' := hy
                          rw [hp'] at hy'
                          have := List.pairwise_iff_getElem.1 HCO.out.up p' (p' + 1) (by rw [← HM.out]; omega) (by rw [← HM.out]; omega) (by omega)
                          rw [(List.getElem?_eq_some_iff.1 hz).2, (List.getElem?_eq_some_iff.1 hy').2] at this
                          exact this
                        have hup' : ¬ (y.2 ≤ z.2) := by omega
                        have qw : IntKind.i64.wrap ((q : Int) - 1) = (p' : Int) := by rw [IntKind.wrap_i64]; omega
                        have qpos : (0 : Int) < (q : Int) := by omega
                        have nb4 : decide ((0 : Int) < (q : Int)) = true := decide_eq_true qpos
                        have qposN : 0 < q := by omega
                        have nb6 : decide (0 < q) = true := decide_eq_true qposN
                        have nb7 : (q == 0) = false := by simp; omega
                        have nb8 : decide (q = 0) = false := decide_eq_false hq0
                        have nb5 : decide (y.2 ≤ z.2) = false := decide_eq_false hup'
                        have hpM : (p' : Int) < (M : Int) := by omega
                        have hpM' : p' < M := by omega
                        clear hc hy hz h4 hp'
                        go_wp2_with fail
                        go_quiet (fail)
                        go_wp2_with fail
                        go_roundg (M - (q + 1))
                        case measure => omega
                        case rel => exact ⟨q + 1, _, by omega, by go_num, rfl⟩
                    · have hqM' : ¬ ((q : Int) < (M : Int)) := by omega
                      go_wp2_with fail
                      go_roundg (n - (j + 1))
                      case measure => omega
                      case rel => exact ⟨j + 1, by omega, by go_num, HLA13.out.below (belowDrewN (Below.refl _ _) t), HB13.out.trans (belowDrewN (Below.refl _ _) t)⟩
                · have hjn' : ¬ ((j : Int) < (n : Int)) := by omega
                  go_wp2_with fail
                  go_roundg (m - (i + 1))
                  case measure => omega
                  case rel => exact ⟨i + 1, T', by omega, by go_num, ⟨A, hlaj, HOK.out, HAL.out, HAT.out⟩, hbj⟩
        · have hlt' : ¬ ((i : Int) < (m : Int)) := by omega
          go_wp2
          go_ret
          exact ⟨rfl, HB2.out.trans (hbw.mono hb1.size)⟩
end Go.Proofs.Ytahleoidbnlllaa
