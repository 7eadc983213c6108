/-
  New and Issuance of the ledger, for every row of balances; the law's awake: true. The conditions stand in each theorem.
-/
import Derived.Test.YtahleoidbnlllaaLsix
import Derived.Deep.RegionHeld3
namespace Go.Proofs.Ytahleoidbnlllaa
open Go.RowKit
set_option linter.unusedVariables false

/-- An account that has only this free amount. -/
def mkA (f : Nat) : Am := ⟨f, 0, 0, .slice none 0 0, []⟩
def mkC (f : Nat) : Ac := ⟨f, 0, 0, []⟩
theorem mkA_ac (f : Nat) : (mkA f).ac = mkC f := rfl
/-- The accounts when so many balances have been laid. -/
def accsK (xs : List Nat) (k : Nat) : List Am := (xs.take k).map mkA ++ List.replicate (xs.length - k) (mkA 0)
theorem accsK_len (xs : List Nat) (k : Nat) (hk : k ≤ xs.length) : (accsK xs k).length = xs.length := by simp [accsK]; omega
theorem accsK_get (xs : List Nat) (k : Nat) (hk : k < xs.length) : (accsK xs k)[k]? = some (mkA 0) := by
  unfold accsK
  rw [List.getElem?_append_right (by simp; omega)]
  have e : k - (List.map mkA (xs.take k)).length = 0 := by simp; omega
  rw [e, List.getElem?_replicate, if_pos (by omega)]
theorem accsK_set (xs : List Nat) (k : Nat) (hk : k < xs.length) : (accsK xs k).set k (mkA (el xs k)) = accsK xs (k + 1) := by
  unfold accsK
  have e : xs.length - k = (xs.length - (k + 1)) + 1 := by omega
  rw [List.set_append_right _ _ (by simp; omega), e, List.replicate_succ]
  have e2 : k - (List.map mkA (xs.take k)).length = 0 := by simp; omega
  rw [e2, List.set_cons_zero, List.take_succ_eq_append_getElem hk, List.map_append, el_get xs k hk]
  simp
theorem accsK_all (xs : List Nat) : accsK xs xs.length = xs.map mkA := by simp [accsK]
theorem acs_zero (n : Nat) : (madeCells #[Value.int .u64 0, .int .u64 0, .int .u64 0, .slice none 0 0] (n * 4)).toList = acs (List.replicate n (mkA 0)) := by
  induction n with
  | zero => simp [madeCells, acs]
  | succ n ih =>
    rw [List.replicate_succ', acs_append, ← ih]
    apply List.ext_getElem?
    intro j
    rcases Nat.lt_or_ge j (n * 4) with h | h
    · rw [List.getElem?_append_left (by simp [madeCells]; exact h)]
      simp [madeCells, h, show j < (n + 1) * 4 by omega]
    · rw [List.getElem?_append_right (by simp [madeCells]; exact h)]
      have hl : (madeCells #[Value.int .u64 0, .int .u64 0, .int .u64 0, .slice none 0 0] (n * 4)).toList.length = n * 4 := by simp [madeCells]
      rw [hl]
      rcases Nat.lt_or_ge j ((n + 1) * 4) with h2 | h2
      · obtain ⟨d, rfl⟩ : ∃ d, j = n * 4 + d := ⟨j - n * 4, by omega⟩
        have hd : d < 4 := by omega
        have e : (n * 4 + d) % 4 = d := by omega
        have e' : n * 4 + d - n * 4 = d := by omega
        rw [e']
        have : (madeCells #[Value.int .u64 0, .int .u64 0, .int .u64 0, .slice none 0 0] ((n + 1) * 4)).toList[n * 4 + d]? = some (#[Value.int .u64 0, .int .u64 0, .int .u64 0, .slice none 0 0][d]!) := by
          simp [madeCells, h2, e]
        rw [this]
        match d, hd with
        | 0, _ => rfl
        | 1, _ => rfl
        | 2, _ => rfl
        | 3, _ => rfl
      · rw [List.getElem?_eq_none (by simp [madeCells]; omega), List.getElem?_eq_none (by simp [acs]; omega)]

/-- A ledger that was just begun with these balances. -/
def newB (xs : List Nat) : Ab := ⟨xs.map mkC, 0, 0⟩
theorem newB_tot (xs : List Nat) : (newB xs).tot = tot xs := by
  show 0 + 0 + acT (xs.map mkC) = tot xs
  induction xs with
  | nil => rfl
  | cons x xs ih =>
    rw [List.map_cons, acT_cons]
    show 0 + 0 + (x + 0 + 0 + 0 + _) = x + tot xs
    omega
theorem newB_ok {xs : List Nat} (h : tot xs < 18446744073709551616) (hl : xs.length ≤ 32) : (newB xs).ok :=
  ⟨by rw [newB_tot]; exact h, by simpa [newB] using hl, fun x hx => by
    obtain ⟨f, _, rfl⟩ := List.mem_map.1 hx
    exact chOk_nil⟩
/-- Nothing lies in the chunks of accounts that were just made. -/
theorem lg_new (T : Tys) (hT : T.L ≠ T.A ∧ T.L ≠ T.C ∧ T.A ≠ T.C) (base L : Nat) (v : Value) (w : World) (a : List Am) (t p : Nat) (hk : KB w L T.L #[v, .int .u64 (t : Nat), .int .u64 (p : Nat)]) (hr : w.ownsRow base T.A 4 v a.length (acs a)) (ha : ∀ x ∈ a, ∃ f, x = mkA f) (hb : base ≤ L) : Lg T base w ⟨L, v, a, t, p⟩ := by
  refine ⟨hk, hr, fun i x _ hx => ?_, fun i j x y g hx hy e _ => ?_, fun i x g hx e => ?_, hb, hT⟩
  · obtain ⟨f, rfl⟩ := ha x (List.mem_of_getElem? hx)
    exact World.ownsRow_nil _ _ _ _
  · obtain ⟨f, rfl⟩ := ha x (List.mem_of_getElem? hx)
    cases e
  · obtain ⟨f, rfl⟩ := ha x (List.mem_of_getElem? hx)
    cases e
theorem accsK_mk (xs : List Nat) (k : Nat) : ∀ x ∈ accsK xs k, ∃ f, x = mkA f := by
  intro x hx
  unfold accsK at hx
  rcases List.mem_append.1 hx with hx | hx
  · obtain ⟨f, _, rfl⟩ := List.mem_map.1 hx
    exact ⟨f, rfl⟩
  · exact ⟨0, (List.mem_replicate.1 hx).2⟩

theorem mkL {W : World} (n : Nat) (hn : n ≤ 32) :
    (Instr.makeSlice 62 (.int .i64 (n : Int)) (.int .i64 (n : Int))).run Try.prog W = .ok (.slice (some ⟨W.heap.size, 0, none⟩) n n) (W.alloc (.cells (madeCells #[Value.int .u64 0, .int .u64 0, .int .u64 0, .slice none 0 0] (n * 4)) 49)) := by
  obtain ⟨i0, hi, hz0, hz1, hz2⟩ := info_parts (show (Try.prog.info? 49).map (fun i => (i.zero, i.size, i.bytes)) = some (some (.agg #[.int .u64 0, .int .u64 0, .int .u64 0, .slice none 0 0]), 4, 48) by kernel_rfl)
  have h := run_make_rowK (P := Try.prog) 62 49 i0 _ Try.underlying62 hi hz0 .i64 .i64 n n (Nat.le_refl _) (by rw [hz2]; omega) (by omega) W
  rw [hz1] at h
  exact h

/-- What New answers. -/
def NewTo (T : Tys) (w : World) (xs : List Nat) (e : Ending) (w' : World) : Prop :=
  Below w.heap.size w w' ∧ ((32 < xs.length ∧ e = .returned (.tuple #[.pointer none, .int .i64 1])) ∨ (xs.length ≤ 32 ∧ 18446744073709551616 ≤ tot xs ∧ e = .returned (.tuple #[.pointer none, .int .i64 3])) ∨
    (xs.length ≤ 32 ∧ tot xs < 18446744073709551616 ∧ ∃ s : Lm, e = .returned (.tuple #[.pointer (some ⟨s.L, 0, none⟩), .int .i64 0]) ∧ s.ab = newB xs ∧ Lg T w.heap.size w' s))

set_option maxHeartbeats 1600000 in
theorem new_any (A : Option Addr) (n c : Nat) (xs : List Nat) (w : World) (h : Rk .u64 w A n c xs) (hX : Bl 18446744073709551616 xs) :
    Calls Try.prog 9 #[.slice A n c] w (NewTo TP w xs) := by
  have hlen := h.len
  have hcap := h.cap
  have hmax := h.max
  by_cases h32 : 32 < n
  · go_enter Try.func9, Try.ntmps9
    go_wp2
    go_ret2
    exact ⟨Below.refl _ _, .inl ⟨by omega, rfl⟩⟩
  · have hs := ysum_any A n c xs w h hX
    by_cases ht : tot xs < 18446744073709551616
    · rw [show sumM xs = (tot xs, 0) from if_pos ht] at hs
      have hmk := fun W : World => mkL (W := W) n (by omega)
      have HX := Lib.hid hX
      have HL := Lib.hid hlen
      have hb0 : Below w.heap.size w ((w.alloc (.cells (madeCells #[Value.int .u64 0, .int .u64 0, .int .u64 0, .slice none 0 0] (n * 4)) 49)).alloc (.cells #[.slice (some ⟨w.heap.size, 0, none⟩) n n, .int .u64 0, .int .u64 0] 64)) := ((Below.refl _ w).alloc (Nat.le_refl _) _).alloc (by simp) _
      have hg0 : Lg TP w.heap.size ((w.alloc (.cells (madeCells #[Value.int .u64 0, .int .u64 0, .int .u64 0, .slice none 0 0] (n * 4)) 49)).alloc (.cells #[.slice (some ⟨w.heap.size, 0, none⟩) n n, .int .u64 0, .int .u64 0] 64)) ⟨w.heap.size + 1, .slice (some ⟨w.heap.size, 0, none⟩) n n, accsK xs 0, 0, 0⟩ := by
        refine lg_new TP (by decide) _ _ _ _ _ _ _ ?_ ?_ (accsK_mk xs 0) (by omega)
        · have := KB.new (w.alloc (.cells (madeCells #[Value.int .u64 0, .int .u64 0, .int .u64 0, .slice none 0 0] (n * 4)) 49)) 64 #[.slice (some ⟨w.heap.size, 0, none⟩) n n, .int .u64 0, .int .u64 0]
          simp only [World.size_alloc] at this
          exact this
        · rw [accsK_len xs 0 (Nat.zero_le _), hlen]
          refine World.ownsRow.alloc ?_ _
          have := World.ownsRow_lit (base := w.heap.size) (e := 49) (size := 4) w (madeCells #[Value.int .u64 0, .int .u64 0, .int .u64 0, .slice none 0 0] (n * 4)) n (Nat.le_refl _) (by unfold maxLen; omega) (size_madeCells _ _)
          rw [acs_zero] at this
          simpa [accsK, hlen] using this
      have HG0 := Lib.hid hg0
      have HB0 := Lib.hid hb0
      have HR := Lib.hid h
      clear h hg0 hb0 hX hlen
      go_enter Try.func9, Try.ntmps9
      go_wp2_with fail
      refine hs.mono ?_
      rintro e w' ⟨rfl, rfl⟩
      go_wp2_with fail
      clear hmk hs
      generalize ((w.alloc (.cells (madeCells #[Value.int .u64 0, .int .u64 0, .int .u64 0, .slice none 0 0] (n * 4)) 49)).alloc (.cells #[.slice (some ⟨w.heap.size, 0, none⟩) n n, .int .u64 0, .int .u64 0] 64)) = w0 at HG0 HB0 ⊢
      go_loopw [27] (fun tv wr => ∃ k : Nat, k ≤ n ∧ tv = .int .i64 (k : Int) ∧ Lg TP w.heap.size wr ⟨w.heap.size + 1, .slice (some ⟨w.heap.size, 0, none⟩) n n, accsK xs k, 0, 0⟩ ∧ Below w.heap.size w wr) (fun tv _ => n - (intOf tv).toNat)
      case atStart => exact ⟨0, Nat.zero_le _, rfl, HG0.out, HB0.out⟩
      case round =>
        clear HG0 HB0
        obtain ⟨k, hk, rfl, hg, hb⟩ := hrel
        by_cases hlt : k < n
        · obtain ⟨b, o, rfl, hbb, hcc⟩ := HR.out.at_ (by omega)
          have hcell := (hb.cell (p := ⟨b, o + k, none⟩) hbb).trans (hcc k hlt)
          have hx0 := accsK_get xs k (by have := HL.out; omega)
          have hlk := accsK_len xs k (by have := HL.out; omega)
          have hvl : (Value.slice (some ⟨w.heap.size, 0, none⟩) n n) = .slice (some ⟨w.heap.size, 0, none⟩) (accsK xs k).length n := by rw [hlk, HL.out]
          have hset := hg.set_f (x := mkA 0) hx0 hvl (el xs k)
          have c0 := hg.cv
          obtain ⟨_, _, _, _, ef⟩ := hg.acell hx0 hvl
          have f0 := ef (k * 4)
          have e1 : (accsK xs k).set k { mkA 0 with f := el xs k } = accsK xs (k + 1) := accsK_set xs k (by have := HL.out; omega)
          dsimp only at hset c0
          rw [e1] at hset
          have HS := Lib.hid hset
          have HB := Lib.hid (hb.setCell (p := ⟨w.heap.size, k * 4, none⟩) (Nat.le_refl _) (.int .u64 (el xs k : Nat)))
          clear hset e1 hg hx0 hvl hcc hb ef hlk
          generalize el xs k = y at *
          go_wp2
          go_roundw
          case rel => exact ⟨k + 1, by omega, by go_num, HS.out, HB.out⟩
          case measure => simp [intOf]; omega
        · obtain rfl : k = n := by omega
          go_wp2
          go_ret2
          refine ⟨hb, .inr (.inr ⟨by have := HL.out; omega, ht, ⟨w.heap.size + 1, .slice (some ⟨w.heap.size, 0, none⟩) k k, accsK xs k, 0, 0⟩, rfl, ?_, hg⟩)⟩
          rw [show k = xs.length from HL.out.symm, accsK_all]
          simp [Lm.ab, newB, mkA_ac]
    · rw [show sumM xs = (0, 3) from if_neg ht] at hs
      go_enter Try.func9, Try.ntmps9
      go_wp2_with fail
      refine hs.mono ?_
      rintro e w' ⟨rfl, rfl⟩
      go_wp2
      go_ret2
      exact ⟨Below.refl _ _, .inr (.inl ⟨by omega, by omega, rfl⟩)⟩

/-- The sum of the first accounts. -/
theorem acT_take_succ {a : List Ac} {k : Nat} {x : Ac} (h : a[k]? = some x) : acT (a.take (k + 1)) = acT (a.take k) + x.all := by
  obtain ⟨hk, rfl⟩ := List.getElem?_eq_some_iff.1 h
  rw [List.take_succ_eq_append_getElem hk, acT_append]; rfl
theorem acT_take_le (a : List Ac) (k : Nat) : acT (a.take k) ≤ acT a := by
  have := acT_append (a.take k) (a.drop k)
  rw [List.take_append_drop] at this
  omega
set_option maxHeartbeats 1600000 in
theorem iss_any {base : Nat} {w : World} {s : Lm} (h : Lg TP base w s) (hok : s.ab.ok) :
    Calls Try.prog 13 #[.pointer (some ⟨s.L, 0, none⟩)] w fun e w' => e = .returned (.int .u64 (s.ab.tot : Nat)) ∧ Below w.heap.size w w' := by
  have hl := hok.len32
  obtain ⟨A, cap, hv, hc⟩ := h.vany
  have c0 := h.cv
  rw [hv] at c0
  have ct := h.ct
  have cp := h.cp
  have hbk := hok.tot
  have htt : s.ab.tot = s.t + s.p + acT s.ab.a := rfl
  have hw0 : IntKind.u64.wrap ((s.t : Int) + (s.p : Int)) = ((s.t + s.p : Nat) : Int) := by rw [IntKind.wrap_u64]; omega
  have H := Lib.hid h
  have HV := Lib.hid hv
  have HT := Lib.hid htt
  have HK := Lib.hid hok
  clear h hv htt hok
  go_enter Try.func13, Try.ntmps13
  go_wp2_with fail
  go_quiet (fail)
  go_wp2_with fail
  go_loopw [3, 22] (fun sv tv wr => ∃ k S : Nat, k ≤ s.a.length ∧ S = s.t + s.p + acT (s.ab.a.take k) ∧ sv = .int .u64 (S : Int) ∧ tv = .int .i64 (k : Int) ∧ Below w.heap.size w wr) (fun _ tv _ => s.a.length - (intOf tv).toNat)
  case atStart => exact ⟨0, s.t + s.p, Nat.zero_le _, by simp [acT, tot], by go_num, rfl, ⟨rfl, rfl, rfl, Nat.le_refl _, fun _ _ => rfl⟩⟩
  case round =>
    obtain ⟨k, S, hk, hS, rfl, rfl, hb⟩ := hrel
    have hSl : S < 18446744073709551616 := by have := acT_take_le s.ab.a k; have := HT.out; omega
    have HS := Lib.hid hS
    clear hS
    by_cases hlt : k < s.a.length
    · obtain ⟨x, hx⟩ : ∃ x, s.a[k]? = some x := ⟨_, List.getElem?_eq_getElem hlt⟩
      have hr := H.out.below hb
      obtain ⟨g, cap', hv', hc', hg1, hg2⟩ := hr.vform hx
      obtain ⟨e0, e1, e2, e3, ef⟩ := hr.acell hx hv'
      have hA : A = some ⟨g, 0, none⟩ := by have := HV.out.symm.trans hv'; injection this
      subst hA
      have hch := hr.chs k x (fun e => e) hx
      have hx8 : x.ch.length ≤ 8 := (ac_ch HK.out (Lm.ab_ac hx)).len
      obtain ⟨A', c', hxv, hsc⟩ := own_sc hch (by omega)
      rw [hxv] at e3
      have hT := acT_take_succ (Lm.ab_get hx)
      have hall : x.ac.all = x.f + x.b + x.d + cht x.ch := rfl
      have hsum : S + (x.f + x.b + x.d + cht x.ch) < 18446744073709551616 := by have := acT_take_le s.ab.a (k + 1); have := HS.out; have := HT.out; omega
      have HTT := Lib.hid hT
      have HALL := Lib.hid hall
      have HSC := Lib.hid hsc
      have HBB := Lib.hid hb
      have hk1 : (k : Int) < (s.a.length : Int) := by omega
      have q1 : IntKind.u64.wrap ((x.f : Int) + (x.b : Int)) = (x.f : Int) + (x.b : Int) := by rw [IntKind.wrap_u64]; omega
      have q2 : IntKind.u64.wrap ((x.f : Int) + (x.b : Int) + (x.d : Int)) = (x.f : Int) + (x.b : Int) + (x.d : Int) := by rw [IntKind.wrap_u64]; omega
      have q3 : IntKind.u64.wrap ((x.f : Int) + (x.b : Int) + (x.d : Int) + (cht x.ch : Nat)) = (x.f : Int) + (x.b : Int) + (x.d : Int) + (cht x.ch : Nat) := by rw [IntKind.wrap_u64]; omega
      have q4 : IntKind.u64.wrap ((S : Int) + ((x.f : Int) + (x.b : Int) + (x.d : Int) + (cht x.ch : Nat))) = (S : Int) + ((x.f : Int) + (x.b : Int) + (x.d : Int) + (cht x.ch : Nat)) := by rw [IntKind.wrap_u64]; omega
      clear hr hch hsc hT hall hx ef hb hv' hxv
      have hkb := KB.new wr 49 #[.int .u64 (x.f : Nat), .int .u64 (x.b : Nat), .int .u64 (x.d : Nat), .slice A' x.ch.length c']
      have hsc1 := HSC.out.below ((Below.refl _ wr).alloc (Nat.le_refl _) (.cells #[.int .u64 (x.f : Nat), .int .u64 (x.b : Nat), .int .u64 (x.d : Nat), .slice A' x.ch.length c'] 49))
      have hb1 := HBB.out.alloc HBB.out.size (.cells #[.int .u64 (x.f : Nat), .int .u64 (x.b : Nat), .int .u64 (x.d : Nat), .slice A' x.ch.length c'] 49)
      have HKB := Lib.hid hkb
      have HS1 := Lib.hid hsc1
      have HB1 := Lib.hid hb1
      clear hkb hsc1 hb1
      go_wp2_with fail
      generalize wr.heap.size = G at HKB ⊢
      generalize (wr.alloc (.cells #[.int .u64 (x.f : Nat), .int .u64 (x.b : Nat), .int .u64 (x.d : Nat), .slice A' x.ch.length c'] 49)) = w1 at HKB HS1 HB1 ⊢
      have z0 := HKB.out.cell 0
      have z1 := HKB.out.cell 1
      have z2 := HKB.out.cell 2
      have z3 := HKB.out.cell 3
      simp at z0 z1 z2 z3
      have K0 := And.intro z0 (And.intro z1 (And.intro z2 z3))
      have ht := Lib.hid (total_any A' x.ch.length c' x.ch w1.drew HS1.out (by omega))
      have hG := HKB.out.lt
      clear z0 z1 z2 z3 e0 e1 e2 e3 c0 ct cp
      go_region_held3 (fun W => W.cell? ⟨G, 0, none⟩ = some (.int .u64 (x.f : Nat)) ∧ W.cell? ⟨G, 1, none⟩ = some (.int .u64 (x.b : Nat)) ∧ W.cell? ⟨G, 2, none⟩ = some (.int .u64 (x.d : Nat)) ∧ W.cell? ⟨G, 3, none⟩ = some (.slice A' x.ch.length c'))
        (first | exact K0 | exact K1)
        (first
          | (go_at_call 46; refine ht.out.mono ?_; rintro e w2 ⟨rfl, hb2⟩
             have K1 : w2.cell? ⟨G, 0, none⟩ = some (.int .u64 (x.f : Nat)) ∧ w2.cell? ⟨G, 1, none⟩ = some (.int .u64 (x.b : Nat)) ∧ w2.cell? ⟨G, 2, none⟩ = some (.int .u64 (x.d : Nat)) ∧ w2.cell? ⟨G, 3, none⟩ = some (.slice A' x.ch.length c') := ⟨(hb2.cell (p := ⟨G, 0, none⟩) hG).trans K0.1, (hb2.cell (p := ⟨G, 1, none⟩) hG).trans K0.2.1, (hb2.cell (p := ⟨G, 2, none⟩) hG).trans K0.2.2.1, (hb2.cell (p := ⟨G, 3, none⟩) hG).trans K0.2.2.2⟩
             have HB2 := Lib.hid hb2
             clear hb2))
      all_goals
        go_wp2
        go_roundw
        case rel => exact ⟨k + 1, S + (x.f + x.b + x.d + cht x.ch), by omega, by have a1 := HTT.out; have a2 := HALL.out; have a3 := HS.out; omega, by go_num, by go_num, HB1.out.drew.trans (HB2.out.mono HB1.out.size)⟩
        case measure => simp [intOf]; omega
    · have hlt' : ¬ ((k : Int) < (s.a.length : Int)) := by omega
      have : S = s.ab.tot := by
        rw [HS.out, HT.out, List.take_of_length_le (by rw [s.ab_len]; omega)]
      subst this
      go_wp2
      go_ret
      exact ⟨rfl, hb⟩

set_option maxHeartbeats 1600000 in
theorem wakeL_any (w : World) : Calls Try.prog 8 #[] w fun e w' => e = .returned (.bool true) ∧ Below w.heap.size w w' := by
  have hr : Rk .u64 (w.alloc (.cells #[.int .u64 5] 33)) (some ⟨w.heap.size, 0, none⟩) 1 1 [5] := rk_one .u64 33 w 5 5 rfl
  have hN := new_any _ 1 1 [5] _ hr (by intro x hx; simp at hx; omega)
  have hb0 : Below w.heap.size w (w.alloc (.cells #[.int .u64 5] 33)) := (Below.refl _ _).alloc (Nat.le_refl _) _
  go_enter Try.func8, Try.ntmps8
  go_wp2_with fail
  refine hN.mono ?_
  rintro e w1 ⟨hb1, ⟨h1, _⟩ | ⟨_, h1, _⟩ | ⟨_, _, s, rfl, hab, hg⟩⟩
  · simp at h1
  · simp [tot] at h1
  · have hb2 := hb0.trans (hb1.mono (by simp))
    have hlen : s.a.length = 1 := by rw [← s.ab_len, hab]; rfl
    have hok : s.ab.ok := by rw [hab]; exact newB_ok (by decide) (by decide)
    have hi := iss_any hg hok
    have htot : s.ab.tot = 5 := by rw [hab]; rfl
    rw [htot] at hi
    clear hN hr
    go_wp2_with fail
    refine hi.mono ?_
    rintro e w2 ⟨rfl, hb3⟩
    have ha := accs_any (hg.below hb3)
    rw [hlen] at ha
    go_wp2_with fail
    refine ha.mono ?_
    rintro e w3 ⟨rfl, rfl⟩
    go_wp2
    go_ret
    exact ⟨rfl, hb2.trans (hb3.mono (by have := hb2.size; omega))⟩
end Go.Proofs.Ytahleoidbnlllaa
