/-
  The walk of the law ChainTexts: it returns true, whatever the script, and writes nothing that was there.
-/
import Derived.Test.YtlpaaehpcmnopaaKawake
import Derived.Test.YtlpaaehpcmnopaaKtx
import Derived.Test.YtlpaaehpcmnopaaKalls
import Derived.Test.YtlpaaehpcmnopaaKargs
import Derived.Deep.RegionHeld3
import Derived.Deep.LoopGhost
import Derived.RangeFuncBox
namespace Go.Proofs.Ytlpaaehpcmnopaa
open Go.RowKit Go.Shelf
set_option linter.unusedVariables false
attribute [local go_sem] Oper.semAt_some

theorem IntKind.wrap_u8_ (x : Int) : IntKind.u8.wrap x = x % 256 := by simp [IntKind.wrap, IntKind.bits, IntKind.signed]
theorem IntKind.wrap_i32_ (x : Int) : IntKind.i32.wrap x = (x + 2147483648) % 4294967296 - 2147483648 := by
  simp [IntKind.wrap, IntKind.bits, IntKind.signed]
  omega
theorem Sm_nil : Sm [] := fun x hx => by cases hx
/-- Between two rounds: so many calls have been made. -/
def TxRel (w : World) (C K n g : Nat) (tv : Value) (wr : World) : Prop :=
  ∃ (s : ChS ByteArray) (R : List (Int × Int)) (i : Nat), i + g = n ∧ tv = .int .i64 i ∧ s.C = C ∧ s.g ≤ i ∧ Bts w.heap.size K wr s R ∧ s.row = tx R ∧ Sm R ∧ Below w.heap.size w wr

theorem TxTo.rel {w wA w5 : World} {C K n g i : Nat} {s : ChS ByteArray} (h : TxTo w.heap.size K wA w5 s) (hb : Below w.heap.size w wA) (hC : s.C = C) (hg : s.g ≤ i) (hi : i + g = n) (hlt : i < n) : TxRel w C K n (g - 1) (.int .i64 ((i : Int) + 1)) w5 := by
  obtain ⟨s', R', e1, e2, e3, h1, h2, h3, h4⟩ := h
  exact ⟨s', R', i + 1, by omega, rfl, by rw [e1, hC], by omega, h1, h2, h3, hb.trans h4⟩

theorem own_slices {w : World} {base sz n : Nat} {t : TypeId} {v : Value} {cs : List Value} (h : w.ownsRow base t sz v n cs) : ∃ A c, v = .slice A n c := by
  rcases h.2 with ⟨rfl, rfl⟩ | ⟨g, cap, cur, rfl, _⟩
  · exact ⟨_, _, rfl⟩
  · exact ⟨_, _, rfl⟩
theorem newRs (w : World) (base : Nat) : RC base w.heap.size (w.alloc (.cells #[.slice none 0 0, .int .i64 0] 29)) [] 0 := ⟨_, KB.new w _ _, World.ownsRow_nil _ _ _ _⟩
theorem new_foots {C B : Nat} (h : B ≤ C) : ∀ b, (news C).foot b → B ≤ b := by
  rintro b (h1 | h1 | ⟨x, hx, _⟩)
  · rw [h1]; exact h
  · cases h1
  · cases hx
theorem add_succs {a : Addr} {j : Nat} (h : j ≠ 0) : a.add j = ⟨a.block, a.off + j, none⟩ := by unfold Addr.add; rw [if_neg h]

set_option maxRecDepth 1000000 in
set_option maxHeartbeats 6400000 in
theorem ctexts_walk (A : Option Addr) (n c : Nat) (os : List Cl) (w : World) (hA : IsOps w A n c os) :
    Calls Try.prog 4 #[.slice A n c] w fun e w' => e = .returned (.bool true) ∧ Below w.heap.size w w' := by
  have hlen := hA.1
  have hnc := hA.2.1
  have hmax := hA.2.2.1
  refine (callsIn_wide (n := 3)).1 ?_
  refine callsIn_of_wp_marks Try.func4 rfl trivial ?_ rfl
  refine wpIn_wide.2 ?_
  simp only [Try.ntmps4, List.size_toArray, List.length_cons, List.length_nil, Nat.reduceAdd, Nat.reduceSub, Array.replicate_succ, Array.replicate_zero, List.push_toArray, List.append_toArray, List.nil_append, List.cons_append]
  by_cases hn : n ≤ 100
  · have hn' : decide ((100 : Int) < (n : Int)) = false := by simp; omega
    go_wp2_with fail
    refine (awake_any _).mono ?_
    rintro e w1 ⟨rfl, hb1⟩
    go_wp2_with fail
    refine (new_anys w1).mono ?_
    rintro e w2 ⟨rfl, rfl⟩
    have hB : Bts w.heap.size (w1.heap.size + 1) ((w1.alloc (.cells #[.map none, .int .i64 0, .int .i64 0, .int .i64 0] 66)).alloc (.cells #[.slice none 0 0, .int .i64 0] 29)) (news w1.heap.size) [] := by
      refine ⟨⟨(new_gds w1).ch.alloc _, (new_gds w1).ring⟩, ?_, new_foots hb1.size, by have := hb1.size; omega⟩
      have := newRs (w1.alloc (.cells #[.map none, .int .i64 0, .int .i64 0, .int .i64 0] 66)) w.heap.size
      simp only [World.size_alloc] at this
      exact this
    have hb2 : Below w.heap.size w ((w1.alloc (.cells #[.map none, .int .i64 0, .int .i64 0, .int .i64 0] 66)).alloc (.cells #[.slice none 0 0, .int .i64 0] 29)) := (hb1.alloc hb1.size _).alloc (by have := hb1.size; simp; omega) _
    have hC : (news w1.heap.size).C = w1.heap.size := rfl
    have hG : (news w1.heap.size).g = 0 := rfl
    have hRw : (news w1.heap.size).row = tx [] := rfl
    go_wp2_with fail
    generalize ((w1.alloc (.cells #[.map none, .int .i64 0, .int .i64 0, .int .i64 0] 66)).alloc (.cells #[.slice none 0 0, .int .i64 0] 29)) = w3 at hB hb2 ⊢
    generalize news w1.heap.size = s0 at hB hC hG hRw
    generalize w1.heap.size = C at hB hC ⊢
    go_loopg [29] n (fun g tv wr => TxRel w C (C + 1) n g tv wr)
    case atStart => exact ⟨s0, [], 0, by omega, rfl, hC, by omega, hB, hRw, Sm_nil, hb2⟩
    case round =>
      clear hB hb2 hC hG hb1 hRw
      obtain ⟨s, R, i, hi, rfl, hC, hgi, hB, hrow, hsm, hb⟩ := hrel
      have hlg := hB.gd.len_le
      have hg0 := hB.gd.ch.g0
      have hRl := tx_len hrow
      by_cases hlt : i < n
      · obtain ⟨o, ho⟩ : ∃ o, os[i]? = some o := ⟨_, List.getElem?_eq_getElem (by omega)⟩
        have hA2 := hA.below hb (Nat.le_refl _)
        obtain ⟨x, rfl⟩ : ∃ x, A = some x := by
          cases A with
          | none => have := (hA.2.2.2.1 rfl).1; omega
          | some x => exact ⟨x, rfl⟩
        obtain ⟨⟨_, ha, hbw, hv⟩, c0, c1, c2, c3⟩ := (hA2.2.2.2.2 x rfl).2 i o ho
        rw [← add_two, add_succs (by omega)] at c1 c2 c3
        have hlt' : (i : Int) < (n : Int) := by omega
        have HA := Lib.hid hA
        have HI := Lib.hid hi
        clear hA hA2 ho hi
        have hwf : (Lit.int .i64 (s.g + 1)).wf = true := wf_mid (g := 1001) (by omega) (by omega) (by decide)
        have hB1 := hB.box (.cells #[.int .i64 o.k, .int .i64 o.a, .int .i64 o.b, .int .i64 o.v] 37)
        have hb1 : Below w.heap.size wr (wr.alloc (.cells #[.int .i64 o.k, .int .i64 o.a, .int .i64 o.b, .int .i64 o.v] 37)) := (Below.refl _ _).alloc hB.sz _
        have hk := KB.new wr 37 #[.int .i64 o.k, .int .i64 o.a, .int .i64 o.b, .int .i64 o.v]
        by_cases h1 : o.k = 1
        · have q1 : (o.k == 1) = true := by simp [h1]
          clear h1
          obtain ⟨u, hu, hu1⟩ : ∃ u : Nat, IntKind.u8.wrap o.v = (u : Int) ∧ u < 256 := ⟨(o.v % 256).toNat, by rw [IntKind.wrap_u8_]; omega, by omega⟩
          obtain ⟨m, hm, hml⟩ : ∃ m : Nat, (u : Int).tmod 26 = (m : Int) ∧ m < 26 := ⟨u % 26, by rw [Int.tmod_eq_emod_of_nonneg (by omega)]; omega, by omega⟩
          have hw1 : IntKind.u8.wrap (97 + (m : Int)) = 97 + (m : Int) := by rw [IntKind.wrap_u8_]; omega
          have hw2 : IntKind.i32.wrap (97 + (m : Int)) = 97 + (m : Int) := by rw [IntKind.wrap_i32_]; omega
          have hw3 : IntKind.i64.wrap (m : Int) = (m : Int) := IntWalk.i64_in _ (by omega)
          go_wp2_with fail
          generalize hGG : wr.heap.size = G at hk ⊢
          generalize (wr.alloc (.cells #[.int .i64 o.k, .int .i64 o.a, .int .i64 o.b, .int .i64 o.v] 37)) = wA at hB1 hb1 hk ⊢
          clear hGG c0 c1 c2 c3
          have K0 := hk.cell 3
          simp at K0
          have hlast := last_anys s (ch m) wA.drew hB1.drew.gd hwf (by unfold maxLen; omega)
          rw [hC, hrow, show tx R ++ [(s.g + 1, ch (m : Int))] = tx (R ++ [(s.g + 1, (m : Int))]) by rw [tx_append]; rfl] at hlast
          have hsm2 : Sm (R ++ [(s.g + 1, (m : Int))]) := fun y hy => by
            rcases List.mem_append.1 hy with h | h
            · exact hsm y h
            · rw [List.mem_singleton.1 h]; exact ⟨by show (0 : Int) ≤ m; omega, by show (m : Int) < 26; omega⟩
          have HSM := Lib.hid hsm2
          have H1 := Lib.hid hlast
          obtain ⟨T, hT⟩ : ∃ T, Utf8.encode (97 + (m : Int)) = T := ⟨_, rfl⟩
          have H1 := H1.out
          rw [show ch (m : Int) = T from hT] at H1
          have H1 := Lib.hid H1
          clear hlast hsm2
          go_region_held3 (fun W => W.cell? ⟨G, 3, none⟩ = some (.int .i64 o.v))
            (first | exact K0 | exact K1 | exact K2)
            (first
              | (go_at_call 12; refine H1.out.mono ?_; rintro e w4 ⟨rfl, h1⟩; have h1 := ChTos.drew h1; have HR := Lib.hid (hB1.rc.side hB1.gd me1 me2 me3 me4 (by obtain ⟨_, _, _, _, _, ht, _⟩ := h1; exact ht)); have HKB := Lib.hid (hk.side hB1.gd me5 me6 (by obtain ⟨_, _, _, _, _, ht, _⟩ := h1; exact ht)); have K1 := HKB.out.cell 3; simp at K1; have hs1 : w.heap.size ≤ w4.heap.size := (by obtain ⟨_, _, _, _, _, ht, _⟩ := h1; exact Nat.le_trans hB1.sz ht.size); have HC := Lib.hid h1; clear h1)
              | (go_at_call 13; refine (rlast_any w.heap.size (C + 1) (m : Int) R s.g w4 HR.out hwf hg0 (by omega) hs1).mono ?_; rintro e w5 ⟨rfl, h2⟩; have hkk2 := HKB.out.turns h2.2 (KB.ne HKB.out HR.out.choose_spec.1 (by decide)); have K2 := hkk2.cell 3; simp at K2; have HD := Lib.hid (Bts.step hB1 (by omega) (by omega) HSM.out HC.out h2); clear h2 hkk2))
          all_goals
            go_wp2
            go_roundg (gk - 1)
            case rel => exact HD.out.rel (hb.trans hb1) hC hgi HI.out hlt
            case measure => have := HI.out; omega
        by_cases h4 : o.k = 4
        · have q1 : (o.k == 1) = false := by simpa using h1
          have q4 : (o.k == 4) = true := by simp [h4]
          clear h1 h4
          go_wp2_with fail
          generalize hGG : wr.heap.size = G at hk ⊢
          generalize (wr.alloc (.cells #[.int .i64 o.k, .int .i64 o.a, .int .i64 o.b, .int .i64 o.v] 37)) = wA at hB1 hb1 hk ⊢
          clear hGG c0 c1 c2 c3
          have K0 := hk.cell 1
          simp at K0
          by_cases hh : o.a ∈ s.hs
          · obtain ⟨xs, y, ys, hRR, hx, hy, hz, hvl⟩ := tx_split hrow hB.gd.ch.nd hh
            have hrm := remove_yess s o.a wA hB1.gd hh
            rw [hC, hvl, hrow, hRR, tx_append, tx_cons, delR_mid (tx_ne hx) hy (tx_ne hz), ← tx_append] at hrm
            have hsm2 : Sm (xs ++ ys) := fun z hz => hsm z (by rw [hRR]; simp only [List.mem_append, List.mem_cons] at hz ⊢; rcases hz with h | h; exact .inl h; exact .inr (.inr h))
            have hy2 := hsm y (by rw [hRR]; simp)
            obtain ⟨T, hT⟩ : ∃ T, Utf8.encode (97 + y.2) = T := ⟨_, rfl⟩
            rw [show ch y.2 = T from hT] at hrm
            refine hrm.mono ?_
            rintro e w4 ⟨rfl, h1⟩
            have HR := Lib.hid (hB1.rc.side hB1.gd me1 me2 me3 me4 (by obtain ⟨_, _, _, _, _, ht, _⟩ := h1; exact ht))
            have K1 := (hk.side hB1.gd me5 me6 (by obtain ⟨_, _, _, _, _, ht, _⟩ := h1; exact ht)).cell 1
            simp at K1
            have hs1 : w.heap.size ≤ w4.heap.size := (by obtain ⟨_, _, _, _, _, ht, _⟩ := h1; exact Nat.le_trans hB1.sz ht.size)
            have HC := Lib.hid h1
            have HRR := Lib.hid hRR
            have HX := Lib.hid hx
            have HY := Lib.hid hy
            have hr := HR.out
            rw [hRR] at hr
            have hlen2 : (xs ++ y :: ys).length ≤ 1000000 := by rw [← hRR]; omega
            have hrr := rremove_yes w.heap.size (C + 1) o.a xs ys y s.g w4 hr hx hy hlen2 hs1
            have hw1 : IntKind.i64.wrap (97 + y.2) = 97 + y.2 := IntWalk.i64_in _ (by omega)
            have hw2 : IntKind.i32.wrap (97 + y.2) = 97 + y.2 := IntWalk.i32_in _ (by omega)
            clear h1 hRR hx hy hz hvl hrm hr K0
            go_wp2_with fail
            refine hrr.mono ?_
            rintro e w5 ⟨rfl, h2⟩
            have HD := Lib.hid (Bts.step hB1 (by omega) (by omega) hsm2 HC.out h2)
            clear h2 hrr
            go_wp2
            go_roundg (gk - 1)
            case rel => exact HD.out.rel (hb.trans hb1) hC hgi HI.out hlt
            case measure => have := HI.out; omega
          · have hrm := remove_nos s o.a wA hB1.gd hh ha
            rw [hC] at hrm
            refine hrm.mono ?_
            rintro e w4 ⟨rfl, rfl⟩
            have hrr := rremove_no w.heap.size (C + 1) o.a R s.g wA hB1.rc (tx_no hrow hh) (by omega)
            clear hrm
            go_wp2_with fail
            refine hrr.mono ?_
            rintro e w5 ⟨rfl, rfl⟩
            clear hrr
            have HD := Lib.hid (show TxTo w.heap.size (C + 1) wA wA s from ⟨s, R, rfl, by omega, by omega, hB1, hrow, hsm, Below.refl _ _⟩)
            go_wp2
            go_roundg (gk - 1)
            case rel => exact HD.out.rel (hb.trans hb1) hC hgi HI.out hlt
            case measure => have := HI.out; omega
        by_cases h5 : o.k = 5
        · have q1 : (o.k == 1) = false := by simpa using h1
          have q4 : (o.k == 4) = false := by simpa using h4
          have q5 : (o.k == 5) = true := by simp [h5]
          clear h1 h4 h5
          go_wp2_with fail
          generalize hGG : wr.heap.size = G at hk ⊢
          generalize (wr.alloc (.cells #[.int .i64 o.k, .int .i64 o.a, .int .i64 o.b, .int .i64 o.v] 37)) = wA at hB1 hb1 hk ⊢
          clear hGG c0 c1 c2 c3
          have k1 := hk.cell 1
          have k2 := hk.cell 2
          simp at k1 k2
          have K0 := And.intro k1 k2
          clear k1 k2
          by_cases hh : o.a ∈ s.hs ∧ o.b ∈ s.hs
          · obtain ⟨hha, hhb⟩ := hh
            by_cases hab : o.a = o.b
            · have hix : 0 ≤ ixR o.a R := by
                obtain ⟨xs, y, ys, hRR, _, hy, _⟩ := tx_split hrow hB.gd.ch.nd hha
                exact ixR_nonneg (y := y) (by rw [hRR]; simp) hy
              rw [← hab] at K0
              clear hab
              have H1 := Lib.hid (move_selfs s o.a wA.drew hB1.drew.gd hha)
              have H2 := Lib.hid (rmove_self w.heap.size (C + 1) o.a R s.g wA.drew hB1.drew.rc hix (by omega))
              have HD := Lib.hid (show TxTo w.heap.size (C + 1) wA wA.drew s from ⟨s, R, rfl, by omega, by omega, hB1.drew, hrow, hsm, (Below.refl _ _).drew⟩)
              have H1 := H1.out
              rw [hC] at H1
              have H1 := Lib.hid H1
              go_region_held3 (fun W => W.cell? ⟨G, 1, none⟩ = some (.int .i64 o.a) ∧ W.cell? ⟨G, 2, none⟩ = some (.int .i64 o.a))
                (first | exact K0)
                (first
                  | (go_at_call 16; refine H1.out.mono ?_; rintro e w4 ⟨rfl, rfl⟩)
                  | (go_at_call 17; refine H2.out.mono ?_; rintro e w5 ⟨rfl, rfl⟩))
              all_goals
                go_wp2
                go_roundg (gk - 1)
                case rel => exact HD.out.rel (hb.trans hb1) hC hgi HI.out hlt
                case measure => have := HI.out; omega
            · obtain ⟨xs, y, ys, hRR, hx, hy, hz, hvl⟩ := tx_split hrow hB.gd.ch.nd hha
              have hnd := hB.gd.ch.nd
              rw [tx_hs hrow, hRR] at hnd
              have hbm : o.b ∈ (xs ++ y :: ys).map (·.1) := by rw [← hRR, ← tx_hs hrow]; exact hhb
              have hnd2 : ((xs ++ ys).map (·.1)).Nodup := by
                simp only [List.map_append, List.map_cons, List.nodup_append, List.nodup_cons] at hnd ⊢
                exact ⟨hnd.1, hnd.2.1.2, fun x h3 y h4 => hnd.2.2 x h3 y (by simp [h4])⟩
              have hbm2 : o.b ∈ (xs ++ ys).map (·.1) := by
                simp only [List.map_append, List.map_cons, List.mem_append, List.mem_cons] at hbm ⊢
                rcases hbm with h | h | h
                · exact .inl h
                · exact absurd (hy.symm.trans h.symm) hab
                · exact .inr h
              obtain ⟨us, z, vs, huv, hu, hzb, _⟩ := nd_split hnd2 hbm2
              have hix : 0 ≤ ixR o.b (xs ++ y :: ys) := by
                obtain ⟨t, ht, hte⟩ := List.mem_map.1 hbm
                exact ixR_nonneg ht hte
              have hmv := move_yess s o.a o.b wA.drew hB1.drew.gd hha hhb hab
              rw [hC, hrow, hRR, tx_append, tx_cons, delR_mid (tx_ne hx) hy (tx_ne hz), ← tx_append, huv, tx_append, tx_cons, insB_mid (tx_ne hu) hzb, hvl,
                show tx us ++ (o.a, ch y.2) :: (z.1, ch z.2) :: tx vs = tx (us ++ y :: z :: vs) by rw [tx_append, tx_cons, tx_cons, hy]] at hmv
              have hsm2 : Sm (us ++ y :: z :: vs) := by
                intro t ht
                have hmem : t = y ∨ t ∈ xs ++ ys := by
                  rw [huv]
                  simp only [List.mem_append, List.mem_cons] at ht ⊢
                  rcases ht with h | h | h | h
                  · exact .inr (.inl h)
                  · exact .inl h
                  · exact .inr (.inr (.inl h))
                  · exact .inr (.inr (.inr h))
                refine hsm t ?_
                rw [hRR]
                rcases hmem with rfl | h
                · simp
                · simp only [List.mem_append, List.mem_cons] at h ⊢
                  rcases h with h | h
                  · exact .inl h
                  · exact .inr (.inr h)
              have hlen2 : (xs ++ y :: ys).length ≤ 1000000 := by rw [← hRR]; omega
              have H1 := Lib.hid hmv
              have HX := Lib.hid hx
              have HY := Lib.hid hy
              have HU := Lib.hid hu
              have HZ := Lib.hid hzb
              have HUV := Lib.hid huv
              have HW := Lib.hid hRR
              have HAB := Lib.hid hab
              have HIX := Lib.hid hix
              have HSM := Lib.hid hsm2
              clear hmv hRR hx hy hz hvl hnd hbm hnd2 hbm2 huv hu hzb hix hsm2 hab
              go_region_held3 (fun W => W.cell? ⟨G, 1, none⟩ = some (.int .i64 o.a) ∧ W.cell? ⟨G, 2, none⟩ = some (.int .i64 o.b))
                (first | exact K0 | exact K1 | exact K2)
                (first
                  | (go_at_call 16; refine H1.out.mono ?_; rintro e w4 ⟨rfl, h1⟩; have h1 := ChTos.drew h1; have hr1 := hB1.rc.side hB1.gd me1 me2 me3 me4 (by obtain ⟨_, _, _, _, _, ht, _⟩ := h1; exact ht); have HKB := Lib.hid (hk.side hB1.gd me5 me6 (by obtain ⟨_, _, _, _, _, ht, _⟩ := h1; exact ht)); have z1 := HKB.out.cell 1; have z2 := HKB.out.cell 2; simp at z1 z2; have K1 := And.intro z1 z2; clear z1 z2; have hs1 : w.heap.size ≤ w4.heap.size := (by obtain ⟨_, _, _, _, _, ht, _⟩ := h1; exact Nat.le_trans hB1.sz ht.size); rw [HW.out] at hr1; have HC := Lib.hid h1; have HR := Lib.hid hr1; clear h1 hr1)
                  | (go_at_call 17; refine (rmove_yes w.heap.size (C + 1) o.a o.b xs ys us vs y z s.g w4 HR.out HX.out HY.out HUV.out HU.out HZ.out HAB.out HIX.out hlen2 hs1).mono ?_; rintro e w5 ⟨rfl, h2⟩; have hkk2 := HKB.out.turns h2.2 (KB.ne HKB.out HR.out.choose_spec.1 (by decide)); have z1 := hkk2.cell 1; have z2 := hkk2.cell 2; simp at z1 z2; have K2 := And.intro z1 z2; clear z1 z2 hkk2; have HD := Lib.hid (Bts.step hB1 (by omega) (by omega) HSM.out HC.out h2); clear h2))
              all_goals
                go_wp2
                go_roundg (gk - 1)
                case rel => exact HD.out.rel (hb.trans hb1) hC hgi HI.out hlt
                case measure => have := HI.out; omega
          · have hn : o.a ∉ s.hs ∨ o.b ∉ s.hs := by
              by_cases h1 : o.a ∈ s.hs
              · exact .inr (fun h2 => hh ⟨h1, h2⟩)
              · exact .inl h1
            have hix : ixR o.a R < 0 ∨ ixR o.b R < 0 := hn.imp (fun h => by rw [ixR_no (tx_no hrow h)]; omega) (fun h => by rw [ixR_no (tx_no hrow h)]; omega)
            have H1 := Lib.hid (move_nos s o.a o.b wA.drew hB1.drew.gd ha hbw hn)
            have H2 := Lib.hid (rmove_none w.heap.size (C + 1) o.a o.b R s.g wA.drew hB1.drew.rc hix (by omega))
            have HD := Lib.hid (show TxTo w.heap.size (C + 1) wA wA.drew s from ⟨s, R, rfl, by omega, by omega, hB1.drew, hrow, hsm, (Below.refl _ _).drew⟩)
            have H1 := H1.out
            rw [hC] at H1
            have H1 := Lib.hid H1
            go_region_held3 (fun W => W.cell? ⟨G, 1, none⟩ = some (.int .i64 o.a) ∧ W.cell? ⟨G, 2, none⟩ = some (.int .i64 o.b))
              (first | exact K0)
              (first
                | (go_at_call 16; refine H1.out.mono ?_; rintro e w4 ⟨rfl, rfl⟩)
                | (go_at_call 17; refine H2.out.mono ?_; rintro e w5 ⟨rfl, rfl⟩))
            all_goals
              go_wp2
              go_roundg (gk - 1)
              case rel => exact HD.out.rel (hb.trans hb1) hC hgi HI.out hlt
              case measure => have := HI.out; omega
        · have q1 : (o.k == 1) = false := by simpa using h1
          have q4 : (o.k == 4) = false := by simpa using h4
          have q5 : (o.k == 5) = false := by simpa using h5
          clear h1 h4 h5
          go_wp2_with fail
          have HD := Lib.hid (show TxTo w.heap.size (C + 1) (wr.alloc (.cells #[.int .i64 o.k, .int .i64 o.a, .int .i64 o.b, .int .i64 o.v] 37)) (wr.alloc (.cells #[.int .i64 o.k, .int .i64 o.a, .int .i64 o.b, .int .i64 o.v] 37)) s from ⟨s, R, rfl, by omega, by omega, hB1, hrow, hsm, Below.refl _ _⟩)
          go_roundg (gk - 1)
          case rel => exact HD.out.rel (hb.trans hb1) hC hgi HI.out hlt
          case measure => have := HI.out; omega
      · have hlt' : ¬ ((i : Int) < (n : Int)) := by omega
        go_wp2_with fail
        refine (All_anys _ _).mono ?_
        rintro e w4 ⟨rfl, rfl⟩
        go_wp2_with fail
        have b0 := Boxed.new wr 9 (.string { data := #[] })
        have bN := Boxed.new (wr.alloc (.cells #[.string { data := #[] }] 9)) 40 (.pointer (some ⟨C, 0, none⟩))
        simp only [World.size_alloc] at bN
        have hbr : Below wr.heap.size wr ((wr.alloc (.cells #[.string { data := #[] }] 9)).alloc (.cells #[.pointer (some ⟨C, 0, none⟩)] 40)) := ((Below.refl _ wr).alloc (Nat.le_refl _) _).alloc (by simp) _
        have hft : ∀ b, s.foot b → b < wr.heap.size := fun b hf => hB.gd.ch.lt hf
        have hg2 := hB.gd.below hbr hft
        have bNc : ((wr.alloc (.cells #[.string { data := #[] }] 9)).alloc (.cells #[.pointer (some ⟨C, 0, none⟩)] 40)).cell? ⟨wr.heap.size + 1, 0, none⟩ = some (.pointer (some ⟨s.C, 0, none⟩)) := by rw [hC]; exact bN.cell
        have hS4 : ∀ x ∈ s.row, x.2.size ≤ 4 := fun x hx => by
          rw [hrow] at hx
          obtain ⟨y, _, rfl⟩ := List.mem_map.1 hx
          exact ch_size _
        refine (wpIn_wide (n := 3)).1 ?_
        refine wpIn_rangeFunc_ownG rfl (by omega) (gf := 39) (lb := #[.pointer (some ⟨wr.heap.size + 1, 0, none⟩)]) rfl trivial (enters_of Try.func39 (by kernel_rfl) rfl)
          (All_stopsms 2 (wr.heap.size + 1) wr.heap.size s _ (by simp) (by simp; omega) bNc hg2 hft (by omega)) belowK_t (belowK_b (by simp; omega)) (Below.refl _ _) (fun _ => rfl)
          (fun pre W => Boxed W wr.heap.size 9 (.string (cat1 { data := #[] } (pre.map (·.1)))) ∧ (cat1 { data := #[] } (pre.map (·.1))).size ≤ 4 * pre.length ∧ Below wr.heap.size wr W)
          (fun _ _ _ => False)
          (OwnFrom.and ((boxed_own _ _ (fun pre : List { x : Int × ByteArray // x ∈ s.row } => .string (cat1 { data := #[] } (pre.map (·.1))))).from _) (OwnFrom.and (ownFrom_pure _ _) (ownFrom_below (Nat.le_refl _) (by simp; omega))))
          (fun _ _ _ _ _ hs _ _ => hs)
          ⟨b0.alloc _, Nat.le_refl _, hbr⟩
          ?a1 ?assign ?body ?done ?stop
        case assign =>
          intro l x W K hK
          gi_wp2
          exact hK
        case body =>
          rintro l pre x W ⟨h0, hsz, hB0⟩ hlt
          have c0 := h0.cell
          have f0 := h0.frozen
          have hx4 := hS4 x.1 x.2
          have hadd : ¬ ((cat1 { data := #[] } (pre.map (·.1))).size + x.1.2.size > 9223372036854775807) := by omega
          have hsn : cat1 { data := #[] } ((pre ++ [x]).map (·.1)) = cat1 { data := #[] } (pre.map (·.1)) ++ x.1.2 := by rw [List.map_append]; exact cat1_snoc _ _ _
          have HS := Lib.hid hsn
          clear hsn
          generalize hcc : cat1 { data := #[] } (pre.map (·.1)) = cc at h0 c0 hsz hadd HS
          clear hcc
          gi_wp2
          refine ⟨(KeepsOthers.setCell _ _ _).from _, (Below.refl _ W).setCell (p := ⟨wr.heap.size, 0, none⟩) (Nat.le_refl _) _, ?_, ?_, hB0.setCell (p := ⟨wr.heap.size, 0, none⟩) (Nat.le_refl _) _⟩
          · rw [HS.out]; exact h0.set _
          · rw [HS.out, ByteArray.size_append]; simp; omega
        case done =>
          rintro D ys W hD hys ⟨h0, hsz, hB0⟩ hK
          rw [hys, hrow] at h0
          obtain ⟨vv, hkk, hown⟩ := hB.rc
          have hkW := hkk.below hB0 hkk.lt
          have hoW := own_below hown hB0 (fun g hg => (hown.lt g hg).2)
          have c0 := h0.cell
          have d0 := hkW.cell 0
          simp at d0
          obtain ⟨A3, c3, rfl⟩ := own_slices hoW
          have HO := Lib.hid hoW
          have hD' : D ≠ wr.heap.size := by simp at hD; omega
          have HB := Lib.hid (hb.trans (hB0.mono hb.size))
          have hR100 : R.length ≤ 1000 := by omega
          have hDw : w.heap.size ≤ D := by have := hb.size; simp at hD; omega
          clear hkk hown hkW hoW hB hg2 hft hbr bN bNc b0 hB0 hS4 h0 hsz hb
          dsimp only
          go_wp2_with fail
          go_loopg [14, 115] R.length (fun g sv tv wq => ∃ xs ys, R = xs ++ ys ∧ ys.length = g ∧ sv = .string (cat1 { data := #[] } (tx xs)) ∧ tv = .int .i64 (xs.length : Nat) ∧ wq = W)
          case atStart => exact ⟨[], R, rfl, rfl, rfl, rfl, rfl⟩
          case round =>
            obtain ⟨xs, zs, hR, hzl, rfl, rfl, rfl⟩ := hrel
            have hlR : R.length = xs.length + zs.length := by rw [hR]; simp
            cases zs with
            | nil =>
              have hkn' : ¬ ((xs.length : Int) < (R.length : Int)) := by simp at hlR; omega
              have HR := Lib.hid hR
              have hcat : cat1 { data := #[] } (tx xs) = cat1 { data := #[] } (tx R) := by rw [hR, List.append_nil]
              rw [hcat]
              clear hR hcat hlR
              go_wp2
              refine ⟨by simp, .inl ⟨_, _, rfl, run_takeDeferred hK, ?_⟩⟩
              exact ⟨_, results_tmp rfl _ _ _, by simp, HB.out.trans (belowK_b (w := w) (Nat.le_refl _) _ D _ _ hDw hK rfl rfl)⟩
            | cons y zs =>
              simp only [List.length_cons] at hlR hzl
              have hkn : xs.length < R.length := by omega
              have hkn' : (xs.length : Int) < (R.length : Int) := by omega
              rcases own_forms HO.out with ⟨_, h0, _⟩ | ⟨g3, d3, e3, _, hc3, _, _, _⟩
              · omega
              injection e3 with ea _ eb
              subst ea eb
              have hy2 := hsm y (by rw [hR]; simp)
              have y1 := (HO.out.cellAt (xs.length * 2 + 1) (by omega)).trans (rm_get R xs.length y (by rw [hR]; simp)).2
              have hcs := cat1_size xs
              have hc4 := ch_size y.2
              obtain ⟨T, hT⟩ : ∃ T, Utf8.encode (97 + y.2) = T := ⟨_, rfl⟩
              have hT2 : ch y.2 = T := hT
              rw [hT2] at hc4
              have hsn : cat1 { data := #[] } (tx (xs ++ [y])) = cat1 { data := #[] } (tx xs) ++ T := by
                rw [tx_append, ← hT2]; exact cat1_snoc _ _ _
              have HS := Lib.hid hsn
              have HR := Lib.hid hR
              have HZ := Lib.hid hzl
              generalize cat1 { data := #[] } (tx xs) = cc at hcs HS ⊢
              have hadd : ¬ (cc.size + T.size > 9223372036854775807) := by omega
              have hw1 : IntKind.i64.wrap (97 + y.2) = 97 + y.2 := IntWalk.i64_in _ (by omega)
              have hw2 : IntKind.i32.wrap (97 + y.2) = 97 + y.2 := IntWalk.i32_in _ (by omega)
              clear hsn hR hT2 hzl hlR
              go_wp2
              go_roundg (gk - 1)
              case rel => exact ⟨xs ++ [y], zs, by rw [HR.out]; simp, by have := HZ.out; omega, by rw [HS.out], by simp, by first | rfl | trivial⟩
              case measure => have := HZ.out; omega
        case stop =>
          rintro D c pre W _ _ h _
          exact h.elim
  · have hn' : (100 : Int) < (n : Int) := by omega
    go_wp2_with fail
    refine (awake_any _).mono ?_
    rintro e w1 ⟨rfl, hb1⟩
    go_wp2_with fail
    refine (awake_any _).mono ?_
    rintro e w2 ⟨rfl, hb2⟩
    go_wp2
    exact ⟨_, results_tmp rfl _ _ _, rfl, hb1.trans (hb2.mono hb1.size)⟩
end Go.Proofs.Ytlpaaehpcmnopaa
