/-
  Withdraw of the reference's ledger. The conditions stand in each theorem.
-/
import Derived.Test.YtahleoidbnlllaaLsix
import Derived.Test.YtahleoidbnlllaaLins
import Derived.Deep.LoopGhost
namespace Go.Proofs.Ytahleoidbnlllaa
open Go.RowKit
set_option linter.unusedVariables false

theorem rckInfo : (Try.prog.info? 89).map (fun i => (i.zero, i.size, i.bytes)) = some (some (.agg #[.int .u64 0, .int .i64 0]), 2, 16) := by kernel_rfl
/-- One chunk, in a block of its own. -/
theorem sr_chunk (w : World) (t : TypeId) (c : Ck) : Sr 2 (w.alloc (.cells #[.int .u64 (c.1 : Nat), .int .i64 c.2] t)) (some ⟨w.heap.size, 0, none⟩) 1 1 (ccs [c]) := by
  have := Sr.new (sz := 2) w t #[.int .u64 (c.1 : Nat), .int .i64 c.2] rfl
  simpa [ccs] using this
/-- An owned row of chunks reads as its cells. -/
theorem own_sr {w : World} {base : Nat} {e : TypeId} {v : Value} {ch : List Ck} (h : w.ownsRow base e 2 v ch.length (ccs ch)) : ∃ A c, v = .slice A ch.length c ∧ Sr 2 w A ch.length c (ccs ch) ∧ ∀ a, A = some a → a.block < w.heap.size := by
  rcases own_forms h with ⟨rfl, hn, hcs⟩ | ⟨g, cap, rfl, _, hc, hm, hg, _⟩
  · obtain rfl : ch = [] := List.eq_nil_of_length_eq_zero hn
    exact ⟨none, 0, rfl, Sr.nil 2 w, fun a e => by cases e⟩
  · refine ⟨_, cap, rfl, ?_, fun a e => by cases e; exact hg⟩
    have := own_part h 0 ch.length (by omega)
    simpa [List.take_of_length_le, ccs_len] using this
theorem due_snoc (xs : List Ck) (c : Ck) (era : Int) : dueC (xs ++ [c]) era = if c.2 ≤ era then dueC xs era ++ [c] else dueC xs era := by
  unfold dueC
  rw [List.filter_append]
  by_cases h : c.2 ≤ era <;> simp [h]
theorem left_snoc (xs : List Ck) (c : Ck) (era : Int) : leftC (xs ++ [c]) era = if c.2 ≤ era then leftC xs era else leftC xs era ++ [c] := by
  unfold leftC
  rw [List.filter_append]
  by_cases h : c.2 ≤ era <;> simp [h]
theorem take_snoc {ch : List Ck} {k : Nat} {c : Ck} (h : ch[k]? = some c) : ch.take (k + 1) = ch.take k ++ [c] := by
  obtain ⟨hk, rfl⟩ := List.getElem?_eq_some_iff.1 h
  rw [List.take_succ_eq_append_getElem hk]
variable {base : Nat} {w : World} {s : Lm}
set_option maxRecDepth 100000 in
set_option maxHeartbeats 3200000 in
theorem rwdr_any (h : Lg TR base w s) (hok : s.ab.ok) (i : Int) (era : Int) :
    Calls Try.prog 35 #[.pointer (some ⟨s.L, 0, none⟩), .int .i64 i, .int .i64 era] w fun e w' => e = .returned (.tuple #[.int .u64 ((wdrM s.ab i era).2.1 : Nat), .int .i64 (wdrM s.ab i era).2.2]) ∧ LgTo TR base w w' s (wdrM s.ab i era).1 := by
  have hl := hok.len32
  unfold wdrM
  rcases s.cases i with ⟨ha, hi⟩ | ⟨k, x, rfl, hx, ha⟩
  · rw [ha]
    go_enter Try.func35, Try.ntmps35
    go_wp2_with fail
    refine (thr_no h hi hl).mono ?_
    rintro e w' ⟨rfl, rfl⟩
    go_wp2
    go_ret2
    exact ⟨rfl, LgTo.same h (Below.refl _ _)⟩
  · rw [ha]
    obtain ⟨g, cap, hv, hc, hg1, hg2⟩ := h.vform hx
    have hkl := (List.getElem?_eq_some_iff.1 hx).1
    have hf := thr_yes h hkl hl
    have c0 := h.cv
    rw [hv] at c0
    have hk0 : (0 : Int) ≤ (k : Int) := by omega
    have hk1 : (k : Int) < (s.a.length : Int) := by omega
    obtain ⟨hb1, hb2⟩ := hok.bounds hx
    have hco : chOk x.ch := ac_ch hok ha
    have h8 := hco.len
    have hch := h.chs k x (fun e => e) hx
    obtain ⟨A, cc, hxv, hsc⟩ := own_sc hch (by omega)
    obtain ⟨e0, e1, e2, e3, ef⟩ := h.acell hx hv
    rw [hxv] at e3
    have hbs := (h.foot_lt (foot_L s))
    obtain ⟨M, hM⟩ : ∃ M, M = x.ch.length := ⟨_, rfl⟩
    have HM := Lib.hid hM
    have hcM := hsc.2.1
    rw [← hM] at e3 h8 hcM
    have H := Lib.hid h
    have HXV := Lib.hid hxv
    have HSC := Lib.hid hsc
    have HBS := Lib.hid hbs
    clear h hM hxv hsc ha hco hch ef hbs
    dsimp only
    go_enter Try.func35, Try.ntmps35
    go_wp2_with fail
    refine hf.mono ?_
    rintro e w' ⟨rfl, rfl⟩
    go_wp2_with fail
    go_loopg [9, 10, 27] M (fun gk sv lv tv wr => ∃ (j S : Nat) (P : Option Addr) (q r : Nat), j + gk = M ∧ S = cht (dueC (x.ch.take j) era) ∧ sv = .int .u64 (S : Int) ∧ lv = .slice P q r ∧ q = (leftC (x.ch.take j) era).length ∧ tv = .int .i64 (j : Int) ∧ wr.ownsRow w.heap.size 89 2 (.slice P q r) q (ccs (leftC (x.ch.take j) era)) ∧ Below w.heap.size w wr)
    case atStart => exact ⟨0, 0, none, 0, 0, by omega, by simp [dueC, cht, tot], rfl, rfl, by simp [leftC], rfl, by simpa [leftC, ccs] using World.ownsRow_nil w w.heap.size _ 2, Below.refl _ _⟩
    case round =>
      obtain ⟨j, S, P, q, r, hj, hS, rfl, rfl, hq, rfl, hown, hb⟩ := hrel
      have hSl : S ≤ cht x.ch := by
        have h1 := due_left (x.ch.take j) era
        have h2 := cht_take_le x.ch j
        omega
      have hcell3 := (hb.cell (p := ⟨g, k * 4 + 3, none⟩) hg2).trans e3
      have hqM : q ≤ j := by
        rw [hq]
        refine Nat.le_trans (List.length_filter_le _ _) ?_
        rw [List.length_take]; omega
      have HS := Lib.hid hS
      have HQ := Lib.hid hq
      clear hS hq
      by_cases hlt : j < M
      · obtain ⟨_, _, _, h4⟩ := HSC.out.below hb
        obtain ⟨gc, o, hAe, hgc, hcc⟩ := h4 (by rw [← HM.out]; omega)
        subst hAe
        obtain ⟨y, hy⟩ : ∃ y, x.ch[j]? = some y := ⟨_, List.getElem?_eq_getElem (by rw [← HM.out]; exact hlt)⟩
        obtain ⟨d0, d1⟩ := hcc j y hy
        have hT := take_snoc hy
        have hlt' : (j : Int) < (M : Int) := by omega
        have hdue := due_snoc (x.ch.take j) y era
        have hleft := left_snoc (x.ch.take j) y era
        rw [← hT] at hdue hleft
        have hsz : S + y.1 < 18446744073709551616 := by
          have h1 := cht_take_succ hy
          have h2 := cht_take_le x.ch (j + 1)
          have h3 := due_left (x.ch.take j) era
          have := HS.out
          omega
        clear hcc hy h4 hT
        by_cases hle : y.2 ≤ era
        · rw [if_pos hle] at hdue hleft
          have HD := Lib.hid hdue
          have HLF := Lib.hid hleft
          have HOWN := Lib.hid hown
          clear hdue hleft hown
          have hw : IntKind.u64.wrap ((S : Int) + (y.1 : Int)) = ((S + y.1 : Nat) : Int) := by rw [IntKind.wrap_u64]; omega
          go_wp2_with fail
          go_roundg (M - (j + 1))
          case measure => omega
          case rel => exact ⟨j + 1, S + y.1, P, q, r, by omega, by rw [HD.out, cht_append, ← HS.out]; rfl, by go_num, rfl, by rw [HLF.out]; exact HQ.out, by go_num, by rw [HLF.out]; exact HOWN.out, hb⟩
        · rw [if_neg hle] at hdue hleft
          have HD := Lib.hid hdue
          have HLF := Lib.hid hleft
          clear hdue hleft
          have b1 : Below wr.heap.size wr (wr.alloc (.cells #[.int .u64 (y.1 : Nat), .int .i64 y.2] 89)) := (Below.refl _ _).alloc (Nat.le_refl _) _
          have own1 := own_below hown b1 (fun g' e => (hown.lt g' e).2)
          have hsr := sr_chunk wr 89 y
          have hb2 := hb.trans (b1.mono hb.size)
          have hs2 := hb2.size
          have HOWN := Lib.hid own1
          have HSR := Lib.hid hsr
          have HB2 := Lib.hid hb2
          clear own1 hsr hb2 b1 hown
          go_wp2_with (at_builtin; refine wpList_appS _ 2 16 _ 89 rfl _ _ 68 rfl w.heap.size Try.underlying68 rckInfo rfl (by decide) _ _ q r 1 1 _ (ccs [y]) rfl rfl HOWN.out HSR.out (ccs_one _) (by unfold maxLen; omega) (by omega) hs2 ?_; intro A1 d1' w1 o1 _ b1'; rw [← ccs_append] at o1; have O1 := Lib.hid o1; have B1 := Lib.hid b1'; clear o1 b1')
          go_roundg (M - (j + 1))
          case measure => omega
          case rel => exact ⟨j + 1, S, A1, q + 1, d1', by omega, by rw [HD.out]; exact HS.out, rfl, rfl, by rw [HLF.out, List.length_append, ← HQ.out]; rfl, by go_num, by rw [HLF.out]; exact O1.out, HB2.out.trans B1.out⟩
      · have hlt' : ¬ ((j : Int) < (M : Int)) := by omega
        have htk : x.ch.take j = x.ch := List.take_of_length_le (by rw [← HM.out]; omega)
        rw [htk] at HS HQ hown
        rw [HQ.out] at hown
        have h1 := H.out.below hb
        have hX := (h1.weak (X := fun k' => k' = k))
        obtain ⟨f0, _, _, f3, ff⟩ := h1.acell hx hv
        have hs := hX.set_v hx hv (.slice P q r) (leftC x.ch era) (own_base (by rw [HQ.out]; exact hown) (by have := HBS.out; omega)) (fun g' e => .inr fun k' z hz e' => by
          have h2 := (H.out.foot_lt (.inr (.inr ⟨k', z, hz, e'⟩))).2
          have h3 := (hown.lt g' (by rw [← HQ.out]; exact e)).1
          omega)
        have hx2 := get_same (y := { x with v := .slice P q r, ch := leftC x.ch era }) hx
        have hv2 : s.v = .slice (some ⟨g, 0, none⟩) (s.a.set k { x with v := .slice P q r, ch := leftC x.ch era }).length cap := by simpa using hv
        obtain ⟨z0, _, _, _, zf⟩ := hs.acell hx2 hv2
        have hs2 := hs.set_f hx2 hv2 (x.f + S)
        simp only [List.set_set] at hs2
        have ff3 := ff (k * 4 + 3)
        have zf0 := zf (k * 4)
        have hw : IntKind.u64.wrap ((x.f : Int) + (S : Int)) = ((x.f + S : Nat) : Int) := by rw [IntKind.wrap_u64]; omega
        have HS2 := Lib.hid hs2
        dsimp only at z0
        rw [HXV.out] at f3
        clear hs hs2 hX h1 hown hx2 hv2 ff zf
        go_wp2
        go_ret2
        refine ⟨?_, LgTo.mk HS2.out rfl ?_ (((Turns.of_below (F := s.foot) hb).trans (Turns.setCell (F := s.foot) _ _ _ (foot_g hv)) (fun _ => .inl)).trans (Turns.setCell (F := s.foot) _ _ _ (foot_g hv)) (fun _ => .inl))⟩
        · rw [show cht (dueC x.ac.ch era) = S from HS.out.symm]; rfl
        · rw [show cht (dueC x.ac.ch era) = S from HS.out.symm]
          simp [Lm.ab, Ab.put, List.map_set, Am.ac]
end Go.Proofs.Ytahleoidbnlllaa
