/-
  The walk of the law VotersPlay: it returns true, whatever the thresholds, the calls and the number, and writes nothing that was there.
-/
import Derived.Test.YtblclpagfbpamaaVref2
import Derived.Deep.RegionHeld3
import Derived.Deep.CutBlock
import Derived.OpenShut
namespace Go.Proofs.Ytblclpagfbpamaa
open Go.RowKit
set_option linter.unusedVariables false

theorem RV.twV {base K : Nat} {w w' : World} {R : List Vt} {tv : Value} (h : RV base K w R tv) (ht : Tw isV w w') : RV base K w' R tv := by
  obtain ⟨v, hk, ho⟩ := h
  refine ⟨v, hk.tw ht (fun hv => by rcases (KB.isV_iff hk).1 hv with h | h | h | h <;> cases h), own_keep ho (fun g hg => ?_)⟩
  obtain ⟨cur, hkg⟩ := own_kb ho hg
  exact ht.block g hkg.lt (fun hv => by rcases (KB.isV_iff hkg).1 hv with h | h | h | h <;> cases h)
theorem RvTo.tw {base K : Nat} {w w' : World} {R0 R : List Vt} {tv tv' : Value} (h0 : RV base K w R0 tv') (h : RvTo base K w w' R tv) : Tw isR w w' := by
  obtain ⟨v, hk, _⟩ := h0
  exact ⟨h.2.os, h.2.tape, h.2.output, h.2.size, fun k hlt hn => h.2.block k hlt (fun e => hn (by subst e; exact (KB.isR_iff hk).2 (.inl rfl)))⟩
theorem RvTo.bel {base K B : Nat} {w w' : World} {R : List Vt} {tv : Value} (h : RvTo base K w w' R tv) (hB : B ≤ K) (hw : B ≤ w.heap.size) : Below B w w' :=
  ⟨h.2.os, h.2.tape, h.2.output, h.2.size, fun k hk => h.2.block k (by omega) (by omega)⟩
theorem op_v {w w' : World} {b : Nat} {cs : Array Value} (h : KB w b 36 cs) (ht : Tw isV w w') : KB w' b 36 cs := h.tw ht (fun hv => by rcases (KB.isV_iff h).1 hv with h | h | h | h <;> cases h)
theorem op_r {w w' : World} {b : Nat} {cs : Array Value} (h : KB w b 36 cs) (ht : Tw isR w w') : KB w' b 36 cs := h.tw ht (fun hv => by rcases (KB.isR_iff h).1 hv with h | h <;> cases h)
theorem op_cells9 {w : World} {b : Nat} {k a o v : Value} (h : KB w b 36 #[k, a, o, v]) : w.cell? ⟨b, 0, none⟩ = some k ∧ w.cell? ⟨b, 1, none⟩ = some a ∧ w.cell? ⟨b, 2, none⟩ = some o ∧ w.cell? ⟨b, 3, none⟩ = some v := by
  have h0 := h.cell 0
  have h1 := h.cell 1
  have h2 := h.cell 2
  have h3 := h.cell 3
  simp at h0 h1 h2 h3
  exact ⟨h0, h1, h2, h3⟩
/-- Both side by side: the program's voters hold L, the reference's hold R. -/
structure Bth (base p K : Nat) (T : List Nat) (L R : List Vt) (G : Nat) (tv : Value) (w1 W : World) : Prop where
  va : VA base W p T L G
  rv : RV base K W R tv
  kb : base ≤ K
  b1 : base = w1.heap.size
  bel : Below base w1 W
theorem Bth.sz {base p K : Nat} {T : List Nat} {L R : List Vt} {G : Nat} {tv : Value} {w1 W : World} (h : Bth base p K T L R G tv w1 W) : base ≤ W.heap.size := by have := h.b1; have := h.bel.size; omega
theorem Bth.below {base p K : Nat} {T : List Nat} {L R : List Vt} {G : Nat} {tv : Value} {w1 W W' : World} (h : Bth base p K T L R G tv w1 W) (hb : Below W.heap.size W W') : Bth base p K T L R G tv w1 W' :=
  ⟨h.va.below hb, h.rv.below hb, h.kb, h.b1, h.bel.trans (hb.mono h.sz)⟩
theorem Bth.drew {base p K : Nat} {T : List Nat} {L R : List Vt} {G : Nat} {tv : Value} {w1 W : World} (h : Bth base p K T L R G tv w1 W) : Bth base p K T L R G tv w1 W.drew := h.below (Below.refl _ _).drew
theorem Bth.vstep {base p K : Nat} {T : List Nat} {L L' R : List Vt} {G G' : Nat} {tv : Value} {w1 W W' : World} (h : Bth base p K T L R G tv w1 W) (t : VTo base W W' p T L' G') : Bth base p K T L' R G' tv w1 W' :=
  ⟨t.va, h.rv.twV t.tw, h.kb, h.b1, h.bel.trans t.bel⟩
theorem Bth.rstep {base p K : Nat} {T : List Nat} {L R R' : List Vt} {G : Nat} {tv : Value} {w1 W W' : World} (h : Bth base p K T L R G tv w1 W) (t : RvTo base K W W' R' tv) : Bth base p K T L R' G tv w1 W' :=
  ⟨h.va.twR (t.tw h.rv), t.1, h.kb, h.b1, h.bel.trans (t.bel h.kb h.sz)⟩
theorem Bth.mono {base p K : Nat} {T : List Nat} {L R : List Vt} {G G' : Nat} {tv : Value} {w1 W : World} (h : Bth base p K T L R G tv w1 W) (hG : G ≤ G') : Bth base p K T L R G' tv w1 W := ⟨h.va.mono hG, h.rv, h.kb, h.b1, h.bel⟩
set_option maxRecDepth 100000 in
set_option maxHeartbeats 12800000 in
theorem vplay_walk (P : Option Addr) (n c : Nat) (xs : List Nat) (Q : Option Addr) (m d : Nat) (os : List Cl) (z : Int) (w : World) (h : Rk .u64 w P n c xs) (hX : Bl 18446744073709551616 xs) (ho : IsOps w Q m d os) (hz : (Lit.int .i64 z).wf = true) :
    Calls Try.prog 3 #[.slice P n c, .slice Q m d, .int .i64 z] w fun e w' => e = .returned (.bool true) ∧ Below w.heap.size w w' := by
  have hlen := h.len
  have hcap := h.cap
  have hmax := h.max
  have hm1 := ho.2.1
  have hm2 := ho.2.2.1
  by_cases hbig : 200 < n ∨ 200 < m
  · have H := Lib.hid h
    have HO := Lib.hid ho
    clear h ho
    rcases Nat.lt_or_ge 200 n with h32 | h32
    · have k1 : (200 : Int) < (n : Int) := by omega
      go_enter Try.func3, Try.ntmps3
      go_wp2_with fail
      refine (wakeV_any _).mono ?_
      rintro e w1 ⟨rfl, hb1⟩
      go_wp2_with fail
      refine (wakeV_any _).mono ?_
      rintro e w2 ⟨rfl, hb2⟩
      go_wp2
      go_ret
      exact ⟨rfl, hb1.trans (hb2.mono hb1.size)⟩
    · have k1 : ¬ (200 : Int) < (n : Int) := by omega
      have k2 : (200 : Int) < (m : Int) := by omega
      go_enter Try.func3, Try.ntmps3
      go_wp2_with fail
      refine (wakeV_any _).mono ?_
      rintro e w1 ⟨rfl, hb1⟩
      go_wp2_with fail
      refine (wakeV_any _).mono ?_
      rintro e w2 ⟨rfl, hb2⟩
      go_wp2
      go_ret
      exact ⟨rfl, hb1.trans (hb2.mono hb1.size)⟩
  · have k1 : ¬ (200 : Int) < (n : Int) := by omega
    have k2 : ¬ (200 : Int) < (m : Int) := by omega
    have HR0 := Lib.hid h
    have HO0 := Lib.hid ho
    have HX := Lib.hid hX
    have HL := Lib.hid hlen
    have n32 : n ≤ 200 := by omega
    have m200 : m ≤ 200 := by omega
    clear h ho hX hlen hbig
    go_enter Try.func3, Try.ntmps3
    go_wp2_with fail
    refine (wakeV_any _).mono ?_
    rintro e w1 ⟨rfl, hb1⟩
    have hN := vnew_any P n c xs w1 (HR0.out.below hb1) HX.out
    have HN := Lib.hid hN
    clear hN
    go_wp2_with fail
    refine HN.out.mono ?_
    rintro e w2 ⟨hb2, ⟨hr, rfl⟩ | ⟨hr, p, rfl, hva⟩⟩
    · have hR := rising_any P n c xs w2 ((HR0.out.below hb1).below hb2) HX.out
      rw [decide_eq_false hr] at hR
      have HRI := Lib.hid hR
      have HB := Lib.hid (hb1.trans (hb2.mono hb1.size))
      clear hR hr HN hb1 hb2
      go_wp2_with fail
      refine HRI.out.mono ?_
      rintro e w3 ⟨rfl, q, rfl⟩
      have HB3 := Lib.hid (below_drewN HB.out q)
      go_wp2
      go_ret
      exact ⟨rfl, HB3.out⟩
    · have hR := rising_any P n c xs w2 ((HR0.out.below hb1).below hb2) HX.out
      rw [decide_eq_true hr] at hR
      have HRI := Lib.hid hR
      have hlow : ∀ b o, Q = some ⟨b, o, none⟩ → 0 < m → b < w1.heap.size := fun b o e h0 => by
        have h1 := (HO0.out.2.2.2.2 _ e).1 h0
        have h2 := hb1.size
        exact Nat.lt_of_lt_of_le h1 h2
      have HLOW := Lib.hid hlow
      have HRIS := Lib.hid hr
      have HVA := Lib.hid hva
      have HB1 := Lib.hid hb1
      have HO := Lib.hid (HO0.out.below hb1 (Nat.le_refl _))
      have HRT := Lib.hid (HR0.out.below hb1)
      have HB12 := Lib.hid hb2
      clear hlow hr hva HN HR0 HO0 hb1 hb2 hR
      go_wp2_with fail
      refine HRI.out.mono ?_
      rintro e w3 ⟨rfl, q, rfl⟩
      have b3 : Below (w2.drewN q).heap.size (w2.drewN q) ((w2.drewN q).alloc (.cells #[.slice P n c, .slice none 0 0] 33)) := (Below.refl _ _).alloc (Nat.le_refl _) _
      have hb : Bth w1.heap.size p w2.heap.size xs [] [] 0 (.slice P n c) w1 ((w2.drewN q).alloc (.cells #[.slice P n c, .slice none 0 0] 33)) := by
        have bq : Below w2.heap.size w2 (w2.drewN q) := below_drewN (Below.refl _ _) q
        refine ⟨(HVA.out.below bq).below b3, ⟨.slice none 0 0, KB.new _ _ _, ⟨rfl, .inl ⟨rfl, rfl⟩⟩⟩, HB12.out.size, rfl, (below_drewN HB12.out q).trans (b3.mono HB12.out.size)⟩
      have HB0 := Lib.hid hb
      obtain ⟨K, hK⟩ : ∃ K, w2.heap.size = K := ⟨_, rfl⟩
      rw [hK] at HB0
      clear hb b3 HVA HB12 HRI
      go_wp2_with fail
      try simp only [World.size_drewN]
      try simp only [hK]
      clear hK
      generalize ((w2.drewN q).alloc (.cells #[.slice P n c, .slice none 0 0] 33)) = w4 at HB0 ⊢
      go_loopg [49] m (fun gk tv wr => ∃ (i : Nat) (L : List Vt), i + gk = m ∧ tv = .int .i64 (i : Int) ∧ L.length ≤ i ∧ Hid (Bth w1.heap.size p K xs L L i (.slice P n c) w1 wr))
      case atStart => exact ⟨0, [], by omega, rfl, by simp, HB0⟩
      case round =>
        obtain ⟨i, L, hi, rfl, hLi, HBR⟩ := hrel
        clear HB0
        have hok := HBR.out.va.ok
        by_cases hlt : i < m
        · obtain ⟨b, o, cl, hQe, _, hcl, hok', c0, c1, c2, c3⟩ := HO.out.at_ hlt
          have hbl := HLOW.out b o hQe (by omega)
          subst hQe
          have hbw := HBR.out.bel
          have d0 := (hbw.cell (p := ⟨b, o + i * 4, none⟩) hbl).trans c0
          have d1 := (hbw.cell (p := ⟨b, o + i * 4 + 1, none⟩) hbl).trans c1
          have d2 := (hbw.cell (p := ⟨b, o + i * 4 + 2, none⟩) hbl).trans c2
          have d3 := (hbw.cell (p := ⟨b, o + i * 4 + 3, none⟩) hbl).trans c3
          obtain ⟨ok0, ok1, ok2, ok3⟩ := hok'
          obtain ⟨kk, aa, bb, vv⟩ := cl
          dsimp only at d0 d1 d2 d3 ok0 ok1 ok2 ok3
          have bv := bounds_u64 ok3
          obtain ⟨nn, rfl⟩ := Int.eq_ofNat_of_zero_le bv.1
          have hnn : nn < 18446744073709551616 := by omega
          clear c0 c1 c2 c3 hcl hbw
          have b7 : Below wr.heap.size wr (wr.alloc (.cells #[.int .i64 kk, .int .i64 aa, .int .i64 bb, .int .u64 (nn : Int)] 36)) := (Below.refl _ _).alloc (Nat.le_refl _) _
          have HKO := Lib.hid (KB.new wr 36 #[.int .i64 kk, .int .i64 aa, .int .i64 bb, .int .u64 (nn : Int)])
          have HB7 := Lib.hid (HBR.out.below b7)
          have hlmx : L.length < maxLen := by unfold maxLen; omega
          clear b7 HBR
          go_upto_block 2 with (fail)
          generalize (wr.alloc (.cells #[.int .i64 kk, .int .i64 aa, .int .i64 bb, .int .u64 (nn : Int)] 36)) = w7 at HKO HB7 ⊢
          generalize wr.heap.size = G0 at HKO ⊢
          clear d0 d1 d2 d3
          go_cut [12] (fun s12 wx => s12 = .bool true ∧ ∃ L', Bth w1.heap.size p K xs L' L' (i + 1) (.slice P n c) w1 wx ∧ L'.length ≤ i + 1 ∧ KB wx G0 36 #[.int .i64 kk, .int .i64 aa, .int .i64 bb, .int .u64 (nn : Int)])
          case first =>
            as_aux_lemma =>
              by_cases e1 : kk = 1
              · subst e1
                go_wp2_with fail
                have HC := Lib.hid (fun (W : World) (Rl : List Vt) (B : Bth w1.heap.size p K xs L Rl i (.slice P n c) w1 W) => vins_any B.va hlmx (by omega) aa ok1 nn hnn)
                have HD := Lib.hid (fun (W : World) (Ll : List Vt) (g : Nat) (B : Bth w1.heap.size p K xs Ll L g (.slice P n c) w1 W) => rvins_any B.rv (HRT.out.below (by have := B.b1; exact this ▸ B.bel)) HX.out HRIS.out (by omega) B.sz hok aa nn)
                have HLN := Lib.hid (insM_len (T := xs) (L := L) aa nn)
                obtain ⟨M, hM⟩ : ∃ M, insM xs L aa nn = M := ⟨_, rfl⟩
                rw [hM] at HLN
                simp only [hM] at HC HD
                clear hM
                have K0 : w7.cell? ⟨G0, 1, none⟩ = some (.int .i64 aa) ∧ w7.cell? ⟨G0, 3, none⟩ = some (.int .u64 (nn : Int)) := ⟨(op_cells9 HKO.out).2.1, (op_cells9 HKO.out).2.2.2⟩
                go_region_held3 (fun W => W.cell? ⟨G0, 1, none⟩ = some (.int .i64 aa) ∧ W.cell? ⟨G0, 3, none⟩ = some (.int .u64 (nn : Int)))
                  (first | exact K0 | exact K1 | exact K2)
                  (first
                    | (go_at_call 10; refine (HC.out _ _ HB7.out.drew).mono ?_; rintro e v1 ⟨rfl, t1⟩; have BB := HB7.out.drew.vstep t1; have kk1 := op_v (HKO.out.below (Below.refl _ _).drew HKO.out.lt) t1.tw; have K1 : v1.cell? ⟨G0, 1, none⟩ = some (.int .i64 aa) ∧ v1.cell? ⟨G0, 3, none⟩ = some (.int .u64 (nn : Int)) := ⟨(op_cells9 kk1).2.1, (op_cells9 kk1).2.2.2⟩; have HB8 := Lib.hid BB; have KK1 := Lib.hid kk1; clear BB kk1 t1)
                    | (go_at_call 11; refine (HD.out _ _ _ HB8.out).mono ?_; rintro e v2 ⟨rfl, t2⟩; have BB := HB8.out.rstep t2; have kk2 := op_r KK1.out (t2.tw HB8.out.rv); have K2 : v2.cell? ⟨G0, 1, none⟩ = some (.int .i64 aa) ∧ v2.cell? ⟨G0, 3, none⟩ = some (.int .u64 (nn : Int)) := ⟨(op_cells9 kk2).2.1, (op_cells9 kk2).2.2.2⟩; have HB9 := Lib.hid BB; have KK2 := Lib.hid kk2; clear BB kk2 t2))
                all_goals
                  go_wp2
                  go_meet
                  case rel => exact ⟨by first | rfl | simp, _, HB9.out.mono (by omega), by have := HLN.out; omega, KK2.out⟩
              by_cases e2 : kk = 2
              · subst e2
                go_wp2_with fail
                have HC := Lib.hid (fun (W : World) (Rl : List Vt) (B : Bth w1.heap.size p K xs L Rl i (.slice P n c) w1 W) => vrem_any B.va aa ok1)
                have HD := Lib.hid (fun (W : World) (Ll : List Vt) (g : Nat) (B : Bth w1.heap.size p K xs Ll L g (.slice P n c) w1 W) => rvrem_any (T := xs) B.rv (by omega) B.sz hok aa)
                have HLN := Lib.hid (remM_len (L := L) aa)
                obtain ⟨M, hM⟩ : ∃ M, remM L aa = M := ⟨_, rfl⟩
                rw [hM] at HLN
                simp only [hM] at HC HD
                clear hM
                have K0 : w7.cell? ⟨G0, 1, none⟩ = some (.int .i64 aa) := (op_cells9 HKO.out).2.1
                go_region_held3 (fun W => W.cell? ⟨G0, 1, none⟩ = some (.int .i64 aa))
                  (first | exact K0 | exact K1 | exact K2)
                  (first
                    | (go_at_call 12; refine (HC.out _ _ HB7.out.drew).mono ?_; rintro e v1 ⟨rfl, t1⟩; have BB := HB7.out.drew.vstep t1; have kk1 := op_v (HKO.out.below (Below.refl _ _).drew HKO.out.lt) t1.tw; have K1 : v1.cell? ⟨G0, 1, none⟩ = some (.int .i64 aa) := (op_cells9 kk1).2.1; have HB8 := Lib.hid BB; have KK1 := Lib.hid kk1; clear BB kk1 t1)
                    | (go_at_call 13; refine (HD.out _ _ _ HB8.out).mono ?_; rintro e v2 ⟨rfl, t2⟩; have BB := HB8.out.rstep t2; have kk2 := op_r KK1.out (t2.tw HB8.out.rv); have K2 : v2.cell? ⟨G0, 1, none⟩ = some (.int .i64 aa) := (op_cells9 kk2).2.1; have HB9 := Lib.hid BB; have KK2 := Lib.hid kk2; clear BB kk2 t2))
                all_goals
                  go_wp2
                  go_meet
                  case rel => exact ⟨by first | rfl | simp, _, HB9.out.mono (by omega), by have := HLN.out; omega, KK2.out⟩
              by_cases e3 : kk = 3
              · subst e3
                go_wp2_with fail
                have HC := Lib.hid (fun (W : World) (Rl : List Vt) (B : Bth w1.heap.size p K xs L Rl i (.slice P n c) w1 W) => vupd_any B.va hlmx aa ok1 nn hnn)
                have HD := Lib.hid (fun (W : World) (Ll : List Vt) (g : Nat) (B : Bth w1.heap.size p K xs Ll L g (.slice P n c) w1 W) => rvupd_any (T := xs) B.rv (by omega) B.sz hok aa nn)
                have HLN := Lib.hid (updM_len (L := L) aa nn)
                obtain ⟨M, hM⟩ : ∃ M, updM L aa nn = M := ⟨_, rfl⟩
                rw [hM] at HLN
                simp only [hM] at HC HD
                clear hM
                have K0 : w7.cell? ⟨G0, 1, none⟩ = some (.int .i64 aa) ∧ w7.cell? ⟨G0, 3, none⟩ = some (.int .u64 (nn : Int)) := ⟨(op_cells9 HKO.out).2.1, (op_cells9 HKO.out).2.2.2⟩
                go_region_held3 (fun W => W.cell? ⟨G0, 1, none⟩ = some (.int .i64 aa) ∧ W.cell? ⟨G0, 3, none⟩ = some (.int .u64 (nn : Int)))
                  (first | exact K0 | exact K1 | exact K2)
                  (first
                    | (go_at_call 14; refine (HC.out _ _ HB7.out.drew).mono ?_; rintro e v1 ⟨rfl, t1⟩; have BB := HB7.out.drew.vstep t1; have kk1 := op_v (HKO.out.below (Below.refl _ _).drew HKO.out.lt) t1.tw; have K1 : v1.cell? ⟨G0, 1, none⟩ = some (.int .i64 aa) ∧ v1.cell? ⟨G0, 3, none⟩ = some (.int .u64 (nn : Int)) := ⟨(op_cells9 kk1).2.1, (op_cells9 kk1).2.2.2⟩; have HB8 := Lib.hid BB; have KK1 := Lib.hid kk1; clear BB kk1 t1)
                    | (go_at_call 15; refine (HD.out _ _ _ HB8.out).mono ?_; rintro e v2 ⟨rfl, t2⟩; have BB := HB8.out.rstep t2; have kk2 := op_r KK1.out (t2.tw HB8.out.rv); have K2 : v2.cell? ⟨G0, 1, none⟩ = some (.int .i64 aa) ∧ v2.cell? ⟨G0, 3, none⟩ = some (.int .u64 (nn : Int)) := ⟨(op_cells9 kk2).2.1, (op_cells9 kk2).2.2.2⟩; have HB9 := Lib.hid BB; have KK2 := Lib.hid kk2; clear BB kk2 t2))
                all_goals
                  go_wp2
                  go_meet
                  case rel => exact ⟨by first | rfl | simp, _, HB9.out.mono (by omega), by have := HLN.out; omega, KK2.out⟩
              by_cases e4 : kk = 4
              · subst e4
                go_wp2_with fail
                have HC := Lib.hid (fun (W : World) (Rl : List Vt) (B : Bth w1.heap.size p K xs L Rl i (.slice P n c) w1 W) => vreb_any B.va hlmx (by omega) aa ok1)
                have HD := Lib.hid (fun (W : World) (Ll : List Vt) (g : Nat) (B : Bth w1.heap.size p K xs Ll L g (.slice P n c) w1 W) => rvreb_any B.rv (HRT.out.below (by have := B.b1; exact this ▸ B.bel)) HX.out HRIS.out (by omega) B.sz hok aa)
                have HLN := Lib.hid (rebM_len hok aa)
                obtain ⟨M, hM⟩ : ∃ M, rebM xs L aa = M := ⟨_, rfl⟩
                rw [hM] at HLN
                simp only [hM] at HC HD
                clear hM
                have K0 : w7.cell? ⟨G0, 1, none⟩ = some (.int .i64 aa) := (op_cells9 HKO.out).2.1
                go_region_held3 (fun W => W.cell? ⟨G0, 1, none⟩ = some (.int .i64 aa))
                  (first | exact K0 | exact K1 | exact K2)
                  (first
                    | (go_at_call 16; refine (HC.out _ _ HB7.out.drew).mono ?_; rintro e v1 ⟨rfl, t1⟩; have BB := HB7.out.drew.vstep t1; have kk1 := op_v (HKO.out.below (Below.refl _ _).drew HKO.out.lt) t1.tw; have K1 : v1.cell? ⟨G0, 1, none⟩ = some (.int .i64 aa) := (op_cells9 kk1).2.1; have HB8 := Lib.hid BB; have KK1 := Lib.hid kk1; clear BB kk1 t1)
                    | (go_at_call 17; refine (HD.out _ _ _ HB8.out).mono ?_; rintro e v2 ⟨rfl, t2⟩; have BB := HB8.out.rstep t2; have kk2 := op_r KK1.out (t2.tw HB8.out.rv); have K2 : v2.cell? ⟨G0, 1, none⟩ = some (.int .i64 aa) := (op_cells9 kk2).2.1; have HB9 := Lib.hid BB; have KK2 := Lib.hid kk2; clear BB kk2 t2))
                all_goals
                  go_wp2
                  go_meet
                  case rel => exact ⟨by first | rfl | simp, _, HB9.out.mono (by omega), by have := HLN.out; omega, KK2.out⟩
              by_cases e5 : kk = 5
              · subst e5
                go_wp2_with fail
                have HC := Lib.hid (fun (W : World) (Rl : List Vt) (B : Bth w1.heap.size p K xs L Rl i (.slice P n c) w1 W) => vfro_any B.va aa bb ok1 ok2)
                have HD := Lib.hid (fun (W : World) (Ll : List Vt) (g : Nat) (B : Bth w1.heap.size p K xs Ll L g (.slice P n c) w1 W) => rvfro_any (T := xs) B.rv (by omega) B.sz hok aa bb)
                have HLN := Lib.hid (froM_len2 hok aa bb)
                obtain ⟨M, hM⟩ : ∃ M, froM L aa bb = M := ⟨_, rfl⟩
                rw [hM] at HLN
                simp only [hM] at HC HD
                clear hM
                have K0 : w7.cell? ⟨G0, 1, none⟩ = some (.int .i64 aa) ∧ w7.cell? ⟨G0, 2, none⟩ = some (.int .i64 bb) := ⟨(op_cells9 HKO.out).2.1, (op_cells9 HKO.out).2.2.1⟩
                go_region_held3 (fun W => W.cell? ⟨G0, 1, none⟩ = some (.int .i64 aa) ∧ W.cell? ⟨G0, 2, none⟩ = some (.int .i64 bb))
                  (first | exact K0 | exact K1 | exact K2)
                  (first
                    | (go_at_call 18; refine (HC.out _ _ HB7.out.drew).mono ?_; rintro e v1 ⟨rfl, t1⟩; have BB := HB7.out.drew.vstep t1; have kk1 := op_v (HKO.out.below (Below.refl _ _).drew HKO.out.lt) t1.tw; have K1 : v1.cell? ⟨G0, 1, none⟩ = some (.int .i64 aa) ∧ v1.cell? ⟨G0, 2, none⟩ = some (.int .i64 bb) := ⟨(op_cells9 kk1).2.1, (op_cells9 kk1).2.2.1⟩; have HB8 := Lib.hid BB; have KK1 := Lib.hid kk1; clear BB kk1 t1)
                    | (go_at_call 19; refine (HD.out _ _ _ HB8.out).mono ?_; rintro e v2 ⟨rfl, t2⟩; have BB := HB8.out.rstep t2; have kk2 := op_r KK1.out (t2.tw HB8.out.rv); have K2 : v2.cell? ⟨G0, 1, none⟩ = some (.int .i64 aa) ∧ v2.cell? ⟨G0, 2, none⟩ = some (.int .i64 bb) := ⟨(op_cells9 kk2).2.1, (op_cells9 kk2).2.2.1⟩; have HB9 := Lib.hid BB; have KK2 := Lib.hid kk2; clear BB kk2 t2))
                all_goals
                  go_wp2
                  go_meet
                  case rel => exact ⟨by first | rfl | simp, _, HB9.out.mono (by omega), by have := HLN.out; omega, KK2.out⟩
              go_wp2
              go_meet
              case rel => exact ⟨rfl, L, HB7.out.mono (by omega), by omega, HKO.out⟩
          case rest =>
            obtain ⟨rfl, L', hB', hL', hk'⟩ := hcut
            clear HKO HB7 hlmx hok hLi L
            have hok := hB'.va.ok
            have HOK := Lib.hid hok
            have HBX := Lib.hid hB'
            have HKX := Lib.hid hk'
            have y2 := (op_cells9 hk').2.2.1
            have HBG := Lib.hid (vbag_any hB'.va bb ok2)
            have hfx : (hasA L' bb = true ∧ ∃ e : Nat, ixV bb L' = ((e : Nat) : Int)) ∨ (hasA L' bb = false ∧ ixV bb L' = -1) := by
              unfold hasA
              cases hf : fnd L' bb with
              | none => exact .inr ⟨rfl, ixV_none hf⟩
              | some x =>
                obtain ⟨us, vs, _, _, _, _, h4⟩ := ixV_some hok.nd hf
                exact .inl ⟨rfl, us.length, h4⟩
            clear hB' hk' hok
            go_wp2_with fail
            refine HBG.out.mono ?_
            rintro e w8 ⟨rfl, hb8⟩
            have HB8 := Lib.hid (HBX.out.below hb8)
            have HK8 := Lib.hid (HKX.out.below hb8 HKX.out.lt)
            have HSM := Lib.hid (sameV_any HB8.out.va HB8.out.rv (by omega) (by omega))
            clear hb8 HBX HKX HBG y2
            go_wp2_with fail
            refine HSM.out.mono ?_
            rintro e w9 ⟨rfl, hb9⟩
            have HB9 := Lib.hid (HB8.out.below hb9)
            have HK9 := Lib.hid (HK8.out.below hb9 HK8.out.lt)
            have y2 := (op_cells9 HK9.out).2.2.1
            have hfi := rvfind_any _ K bb L' _ w9 HB9.out.rv (by omega)
            clear hb9 HB8 HK8 HSM
            rcases hfx with ⟨ha, ee, he⟩ | ⟨ha, he⟩
            · rw [he] at hfi
              rw [ha]
              have k0 : (0 : Int) ≤ ((ee : Nat) : Int) := by omega
              have HFI := Lib.hid hfi
              clear hfi he ha
              go_wp2_with fail
              refine HFI.out.mono ?_
              rintro e w10 ⟨rfl, rfl⟩
              go_wp2
              go_roundg (m - (i + 1))
              case rel => exact ⟨i + 1, L', by omega, by go_num, hL', HB9⟩
              case measure => omega
            · rw [he] at hfi
              rw [ha]
              have HFI := Lib.hid hfi
              clear hfi he ha
              go_wp2_with fail
              refine HFI.out.mono ?_
              rintro e w10 ⟨rfl, rfl⟩
              go_wp2
              go_roundg (m - (i + 1))
              case rel => exact ⟨i + 1, L', by omega, by go_num, hL', HB9⟩
              case measure => omega
        · obtain rfl : i = m := by omega
          have HT := Lib.hid (vtake_any HBR.out.va (by omega) (by omega) z hz)
          go_wp2_with fail
          refine HT.out.mono ?_
          rintro e w5 ⟨⟨A5, c5, rfl, how⟩, hb5⟩
          have HB5 := Lib.hid (HBR.out.below hb5)
          obtain ⟨N, hN⟩ : ∃ N, (L.take z.toNat).length = N := ⟨_, rfl⟩
          have hI : Ir w5 wr.heap.size A5 N c5 ((L.take z.toNat).map Vt.id) := ⟨by rw [← hN]; exact how, by simp [← hN]⟩
          have hN2 : N = min z.toNat L.length := by rw [← hN, List.length_take]
          rw [hN]
          obtain ⟨Q5, q5, _, c1, hcap5, hmax5, hcell⟩ := HB5.out.rv.read
          have HI := Lib.hid hI
          have HCE := Lib.hid hcell
          have HN2 := Lib.hid hN2
          obtain ⟨Z, hZ⟩ : ∃ Z : Nat, Z = z.toNat := ⟨_, rfl⟩
          have hmx : (if z < 0 then (0 : Int) else z) = ((Z : Nat) : Int) := by split <;> omega
          have hmn : (if ((L.length : Nat) : Int) < ((Z : Nat) : Int) then ((L.length : Nat) : Int) else ((Z : Nat) : Int)) = ((N : Nat) : Int) := by split <;> omega
          have hmo : (if L.length < Z then ((L.length : Nat) : Int) else ((Z : Nat) : Int)) = ((N : Nat) : Int) := by split <;> omega
          clear hZ
          have HFIN := Lib.hid (fun t : Nat => (HB1.out.trans ((below_drewN HB5.out.bel t).mono HB1.out.size) : Below w.heap.size w (w5.drewN t)))
          have hN3 : N ≤ 200 := by omega
          clear how hb5 hI hN hN2 hcell HBR HT hok
          go_wp2_with fail
          go_loopg [166] N (fun gj tv wr => ∃ (j t : Nat), j + gj = N ∧ tv = .int .i64 (j : Int) ∧ wr = w5.drewN t)
          case atStart => exact ⟨0, 0, by omega, rfl, rfl⟩
          case round =>
            obtain ⟨j, t, hj, rfl, rfl⟩ := hrel
            by_cases hlj : j < N
            · obtain ⟨gA, x', rfl, hA1, hA2, hx', hcA⟩ := HI.out.at_ hlj
              rw [List.getElem?_map] at hx'
              obtain ⟨y, hy, rfl⟩ := Option.map_eq_some_iff.1 hx'
              have hyL : L[j]? = some y := by
                rw [List.getElem?_take] at hy
                split at hy
                · exact hy
                · cases hy
              obtain ⟨gQ, rfl, hcQ, _, _⟩ := HCE.out j y hyL
              have hjL : j < L.length := (List.getElem?_eq_some_iff.1 hyL).1
              clear hx' hy hyL hmn hmo hmx
              go_wp2_with fail
              go_quiet (fail)
              go_wp2
              go_roundg (N - (j + 1))
              case rel => exact ⟨j + 1, _, by omega, by go_num, rfl⟩
              case measure => omega
            · obtain rfl : j = N := by omega
              clear hmn hmo hmx
              go_wp2
              go_ret
              exact ⟨rfl, HFIN.out _⟩
end Go.Proofs.Ytblclpagfbpamaa
