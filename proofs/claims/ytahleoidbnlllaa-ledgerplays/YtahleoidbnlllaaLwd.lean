/-
  The program's Withdraw. The conditions stand in each theorem.
-/
import Derived.Test.YtahleoidbnlllaaLdel
import Derived.Test.YtahleoidbnlllaaLsix
namespace Go.Proofs.Ytahleoidbnlllaa
open Go.RowKit
set_option linter.unusedVariables false

/-- The chunks that are due are the first ones. -/
theorem due_take {ch : List Ck} {era : Int} {j : Nat} (hup : ch.Pairwise (fun x y => x.2 < y.2)) (h1 : ∀ (m : Nat) (c : Ck), m < j → ch[m]? = some c → c.2 ≤ era) (h2 : ∀ c, ch[j]? = some c → era < c.2) : dueC ch era = ch.take j ∧ leftC ch era = ch.drop j := by
  have hA : ∀ c ∈ ch.take j, c.2 ≤ era := fun c hc => by
    obtain ⟨m, hm⟩ := List.mem_iff_getElem?.1 hc
    rw [List.getElem?_take] at hm
    split at hm
    · exact h1 m c (by assumption) hm
    · cases hm
  have hB : ∀ c ∈ ch.drop j, era < c.2 := fun c hc => by
    obtain ⟨m, hm⟩ := List.mem_iff_getElem?.1 hc
    rw [List.getElem?_drop] at hm
    rcases Nat.eq_zero_or_pos m with rfl | hp
    · exact h2 c hm
    · have hl := (List.getElem?_eq_some_iff.1 hm).1
      have := List.pairwise_iff_getElem.1 hup j (j + m) (by omega) hl (by omega)
      rw [(List.getElem?_eq_some_iff.1 hm).2] at this
      have := h2 ch[j] (List.getElem?_eq_getElem (by omega))
      omega
  have e : ch = ch.take j ++ ch.drop j := (List.take_append_drop j ch).symm
  constructor
  · unfold dueC
    conv => lhs; rw [e]
    rw [List.filter_append, List.filter_eq_self.2 (fun c hc => by simpa using hA c hc), List.filter_eq_nil_iff.2 (fun c hc => by have := hB c hc; simp; omega), List.append_nil]
  · unfold leftC
    conv => lhs; rw [e]
    rw [List.filter_append, List.filter_eq_nil_iff.2 (fun c hc => by have := hA c hc; simp; omega), List.filter_eq_self.2 (fun c hc => by have := hB c hc; simp; omega), List.nil_append]
variable {base : Nat} {w : World} {s : Lm}
set_option maxHeartbeats 3200000 in
set_option maxRecDepth 100000 in
theorem wdr_any (h : Lg TP base w s) (hok : s.ab.ok) (i : Int) (era : Int) :
    Calls Try.prog 15 #[.pointer (some ⟨s.L, 0, none⟩), .int .i64 i, .int .i64 era] w fun e w' => e = .returned (.tuple #[.int .u64 ((wdrM s.ab i era).2.1 : Nat), .int .i64 (wdrM s.ab i era).2.2]) ∧ LgTo TP base w w' s (wdrM s.ab i era).1 := by
  have hl := hok.len32
  unfold wdrM
  rcases s.cases i with ⟨ha, hi⟩ | ⟨k, x, rfl, hx, ha⟩
  · rw [ha]
    go_enter Try.func15, Try.ntmps15
    go_wp2_with fail
    refine (fnd_no h hi hl).mono ?_
    rintro e w' ⟨rfl, rfl⟩
    go_wp2
    go_ret2
    exact ⟨rfl, LgTo.same h (Below.refl _ _)⟩
  · rw [ha]
    obtain ⟨g, cap, hv, hc, hg1, hg2⟩ := h.vform hx
    have hkl := (List.getElem?_eq_some_iff.1 hx).1
    have hf := fnd_yes h hx hv hl
    obtain ⟨e0, e1, e2, e3, ef⟩ := h.acell hx hv
    obtain ⟨hb1, hb2⟩ := hok.bounds hx
    have hco : chOk x.ch := ac_ch hok ha
    have hch := h.chs k x (fun e => e) hx
    obtain ⟨A, cc, hxv, hsc⟩ := own_sc hch (by have := hco.len; omega)
    have h8 := hco.len
    rw [hxv] at e3
    have H := Lib.hid h
    have HX := Lib.hid hxv
    have HF := Lib.hid hf
    have HO := Lib.hid hco
    have HC := Lib.hid hsc
    clear h hxv ha hf hch hco
    obtain ⟨n, hn⟩ : ∃ n, n = x.ch.length := ⟨_, rfl⟩
    have HN := Lib.hid hn
    have hsc4 := hsc.2.2.2
    have hcap := hsc.2.1
    rw [← hn] at e3 hsc4 h8 hcap
    clear hn hsc
    go_enter Try.func15, Try.ntmps15
    go_wp2_with fail
    refine HF.out.mono ?_
    rintro e w' ⟨rfl, rfl⟩
    go_wp2_with fail
    go_loopw [10] (fun dv wr => ∃ j : Nat, j ≤ n ∧ dv = .int .i64 (j : Int) ∧ (∀ (m : Nat) (c : Ck), m < j → x.ch[m]? = some c → c.2 ≤ era) ∧ w = wr) (fun dv _ => n - (intOf dv).toNat)
    case atStart => exact ⟨0, Nat.zero_le _, rfl, fun m c hm => by omega, rfl⟩
    case round =>
      obtain ⟨j, hjn, rfl, hlo, rfl⟩ := hrel
      have HLO := Lib.hid hlo
      clear hlo
      have hcase : (∃ c, x.ch[j]? = some c ∧ c.2 ≤ era) ∨ (∀ c, x.ch[j]? = some c → era < c.2) := by
        cases hcj : x.ch[j]? with
        | none => exact .inr (fun c e => by cases e)
        | some c => rcases Int.lt_or_le era c.2 with e | e
                    · exact .inr (fun c' e' => by cases e'; exact e)
                    · exact .inl ⟨c, rfl, e⟩
      rcases hcase with ⟨c, hcj, hce⟩ | hout
      · have hlt : j < n := by rw [HN.out]; exact (List.getElem?_eq_some_iff.1 hcj).1
        obtain ⟨gc, o, rfl, hg, hcl⟩ := hsc4 (by omega)
        obtain ⟨d0, d1⟩ := hcl j c hcj
        have HCJ := Lib.hid hcj
        clear hcl hcj hsc4
        go_wp2_with fail
        go_roundw
        case rel => exact ⟨j + 1, by omega, by go_num, fun m c' hm hc' => by
                      rcases Nat.lt_or_ge m j with h1 | h1
                      · exact HLO.out m c' h1 hc'
                      · obtain rfl : m = j := by omega
                        rw [HCJ.out] at hc'
                        cases hc'
                        exact hce, by first | rfl | trivial⟩
        case measure => simp [intOf]; omega
      · obtain ⟨hd1, hd2⟩ := due_take HO.out.up HLO.out hout
        have HD1 := Lib.hid hd1
        have HD2 := Lib.hid hd2
        have hat : Calls Try.prog 46 #[.slice A j cc] w fun e w' => e = .returned (.int .u64 (cht (x.ch.take j) : Nat)) ∧ Below w.heap.size w w' :=
          total_any A j cc (x.ch.take j) w (HC.out.take j (by rw [← HN.out]; exact hjn)) (by have := cht_split x.ch j; omega)
        have hcT : cht (x.ch.take j) ≤ cht x.ch := by have := cht_split x.ch j; omega
        have HOUT := Lib.hid hout
        have HAT := Lib.hid hat
        clear hd1 hd2 hout hat
        have key : ∀ w1, Below w.heap.size w w1 → Calls Try.prog 52 #[.slice A n cc, .int .i64 0, .int .i64 (j : Nat)] (w1.setCell ⟨g, k * 4, none⟩ (.int .u64 ((x.f + cht (x.ch.take j) : Nat) : Int))) fun e w2 => ∃ v', e = .returned v' ∧ (∃ P q r, v' = .slice P q r) ∧ (∃ u, w2.cell? ⟨g, k * 4 + 3, none⟩ = some u) ∧ w2.frozen? ⟨g, k * 4 + 3, none⟩ = false ∧ LgTo TP base w (w2.setCell ⟨g, k * 4 + 3, none⟩ v') s (s.ab.put (k : Int) { x.ac with f := x.f + cht (x.ch.take j), ch := x.ch.drop j }) := fun w1 hbw => by
          have h1 := H.out.below hbw
          have h2 := h1.set_f hx hv (x.f + cht (x.ch.take j))
          have hx2 := get_same (y := { x with f := x.f + cht (x.ch.take j) }) hx
          have hv2 : s.v = .slice (some ⟨g, 0, none⟩) (s.a.set k { x with f := x.f + cht (x.ch.take j) }).length cap := by simpa using hv
          have hch2 := h2.chs k _ (fun e => e) hx2
          dsimp only at hch2
          have hdel := del_any (due := j) hch2 (by rw [← HN.out]; exact hjn) (by rw [← HN.out]; exact h8)
          rw [HX.out, ← HN.out] at hdel
          refine hdel.mono ?_
          rintro e w2 ⟨v', rfl, hown, ht, hfr, hkb⟩
          have hX := h2.toX hx2 (by rw [HX.out, ← HN.out]; exact ht) (by rw [HX.out, ← HN.out]; exact hkb)
          obtain ⟨_, _, _, i3, if3⟩ := hX.acell hx2 hv2
          have hs := hX.set_v hx2 hv2 v' (x.ch.drop j) hown (fun g' e => by
            rcases hfr g' e with h1 | h1
            · exact .inl (by rw [HX.out, ← HN.out]; exact h1)
            · refine .inr fun k' z hz e' => ?_
              have := (h2.foot_lt (.inr (.inr ⟨k', z, hz, e'⟩))).2
              omega)
          have hform : ∃ P q r, v' = .slice P q r := by
            rcases own_forms hown with ⟨e, _⟩ | ⟨g', cap', e, _⟩
            · exact ⟨_, _, _, e⟩
            · exact ⟨_, _, _, e⟩
          refine ⟨v', rfl, hform, ⟨_, i3⟩, if3 _, LgTo.mk hs rfl ?_ ?_⟩
          · simp [Lm.ab, Ab.put, List.map_set, Am.ac]
          · refine ((((Turns.of_below (F := s.foot) hbw).trans (Turns.setCell (F := s.foot) w1 _ _ (foot_g hv)) (fun _ => .inl)).trans ht ?_).trans (Turns.setCell (F := s.foot) w2 _ v' (foot_g hv)) (fun _ => .inl))
            exact fun b e => .inl (.inr (.inr ⟨k, x, hx, by rw [HX.out, ← HN.out]; exact e⟩))
        have KEY := Lib.hid key
        clear key
        have hkf : IntKind.u64.wrap ((x.f : Int) + (cht (x.ch.take j) : Int)) = (x.f : Int) + (cht (x.ch.take j) : Int) := by rw [IntKind.wrap_u64]; omega
        have hjj : (j : Int) ≤ (n : Int) := by omega
        have hjc : j ≤ cc := by omega
        have hdt : cht (dueC x.ch era) = cht (x.ch.take j) := by rw [HD1.out]
        have HDT := Lib.hid hdt
        clear hdt
        generalize cht (x.ch.take j) = T at *
        have hsplit : (j < n ∧ ∃ gc o c, A = some ⟨gc, o, none⟩ ∧ x.ch[j]? = some c ∧ era < c.2 ∧ w.cell? ⟨gc, o + j * 2, none⟩ = some (.int .u64 (c.1 : Nat)) ∧ w.cell? ⟨gc, o + j * 2 + 1, none⟩ = some (.int .i64 c.2)) ∨ j = n := by
          rcases Nat.lt_or_ge j n with hlt | hge
          · obtain ⟨gc, o, rfl, hg, hcl⟩ := hsc4 (by omega)
            have hcj := List.getElem?_eq_getElem (l := x.ch) (i := j) (by rw [← HN.out]; exact hlt)
            exact .inl ⟨hlt, gc, o, _, rfl, hcj, HOUT.out _ hcj, (hcl j _ hcj).1, (hcl j _ hcj).2⟩
          · exact .inr (by omega)
        clear hsc4
        have tail : ∀ w1, Below w.heap.size w w1 → w1.cell? ⟨g, k * 4, none⟩ = some (.int .u64 (x.f : Nat)) ∧ w1.frozen? ⟨g, k * 4, none⟩ = false ∧ (w1.setCell ⟨g, k * 4, none⟩ (.int .u64 ((x.f + T : Nat) : Int))).cell? ⟨g, k * 4 + 3, none⟩ = some (.slice A n cc) := fun w1 hbw => by
          have h1 := H.out.below hbw
          have h2 := h1.set_f hx hv (x.f + T)
          have hx2 := get_same (y := { x with f := x.f + T }) hx
          have hv2 : s.v = .slice (some ⟨g, 0, none⟩) (s.a.set k { x with f := x.f + T }).length cap := by simpa using hv
          obtain ⟨z0, _, _, _, zf⟩ := h1.acell hx hv
          obtain ⟨_, _, _, z3, _⟩ := h2.acell hx2 hv2
          refine ⟨z0, zf _, ?_⟩
          rw [z3, HN.out, ← HX.out]
        have TAIL := Lib.hid tail
        clear tail
        rcases hsplit with ⟨hlt, gc, o, c, rfl, _, hce, d0, d1⟩ | rfl
        all_goals
          go_wp2_with fail
          refine HAT.out.mono ?_
          rintro e w1 ⟨rfl, hbw⟩
          obtain ⟨y0, yf, y3⟩ := TAIL.out w1 hbw
          have key2 := KEY.out w1 hbw
          push_cast at y3 key2
          have KEY2 := Lib.hid key2
          clear key2
          go_wp2_with fail
          refine KEY2.out.mono ?_
          rintro e w2 ⟨v', rfl, ⟨P, q, r, rfl⟩, ⟨u, hu⟩, hfu, hfin⟩
          have HFIN := Lib.hid hfin
          clear hfin
          go_wp2
          go_ret2
          refine ⟨?_, ?_⟩
          · show Ending.returned _ = Ending.returned (.tuple #[.int .u64 ((cht (dueC x.ch era) : Nat) : Int), .int .i64 0])
            rw [HDT.out]
            rfl
          · show LgTo TP base w _ s (s.ab.put (k : Int) { f := x.f + cht (dueC x.ch era), b := x.ac.b, d := x.ac.d, ch := leftC x.ch era })
            rw [HDT.out, HD2.out]
            exact HFIN.out
end Go.Proofs.Ytahleoidbnlllaa
