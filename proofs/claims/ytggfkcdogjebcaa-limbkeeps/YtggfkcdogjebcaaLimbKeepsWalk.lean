/-
  The walk of the law LimbKeeps: for every two slices that can be read the call returns true and writes nothing that was there.
-/
import Derived.Test.YtggfkcdogjebcaaAwake
import Derived.Test.YtggfkcdogjebcaaGcd
import Derived.Test.YtggfkcdogjebcaaDivide
import Derived.Test.YtggfkcdogjebcaaSubs
import Derived.Deep.DeepCutAuto
import Derived.Deep.LoopGhost
namespace Go.Proofs.Ytggfkcdogjebcaa
open Go.RowKit

/-- make(Nat, n, k). -/
theorem mk32c (n k : Nat) (hnk : n ≤ k) (K : Int) (hK : K = k) (hn : k ≤ 1000000) (W : World) :
    (Instr.makeSlice 32 (.int .i64 (n : Int)) (.int .i64 K)).run Try.prog W = .ok (.slice (some ⟨W.heap.size, 0, none⟩) n k) (W.alloc (.cells (vals (zeros k)) 50)) := by
  obtain ⟨i0, hi, hz0, hz1, hz2⟩ := info_parts info50
  subst hK
  have h := run_make_rowN (P := Try.prog) 32 50 i0 (.int .u32 0) Try.underlying32 hi hz0 .i64 .i64 n k hnk (by rw [hz2]; omega) (by omega) W
  rw [hz1, Nat.mul_one, vals_made] at h
  exact h
/-- copy of a whole slice over the beginning of a row of the call's own: no other block changes. -/
theorem wpList_cpk {P : Program} {w : World} {ops : Array Oper} {rest : List Oper} {o : Oper} {a : Act} {Q : Exit → Act → World → Prop} (hgd : o.guard = none) (d s : Operand) (dT sT : TypeId)
    (ho : o.op = .call { callee := .builtin .copy, args := #[d, s], argTypes := #[dT, sT] }) (hu : P.underlying dT = some (.slice 50))
    (hinfo : (P.info? 50).map (fun i => (i.zero, i.size, i.bytes)) = some (some (.int .u32 0), 1, 4))
    (B : Option Addr) (g n c dCap : Nat) (xs zs : List Nat) (hd : a.eval d = .slice (some ⟨g, 0, none⟩) n dCap) (hs : a.eval s = .slice B n c)
    (hB : Blk w g zs) (hl : n ≤ zs.length) (hr : Rd w B n c xs) (L : Nat) (w0 : World) (hb : Below L w0 w) (hLg : L ≤ g)
    (h : ∀ w', Blk w' g (xs ++ zs.drop n) → Below L w0 w' → Hid (∀ k, k ≠ g → w'.heap[k]? = w.heap[k]?) → wpList P ops Q rest (a.put o.dst (goInt n)) w') : wpList P ops Q (o :: rest) a w := by
  obtain ⟨i0, hi, hz0, hz1, hz2⟩ := info_parts hinfo
  have hlen : (lits32 xs).length = n := by rw [lits32_len, hr.len]
  by_cases h0 : n = 0
  · subst h0
    obtain rfl := List.eq_nil_of_length_eq_zero hr.len
    refine wpList_copy_nothing hgd d s dT sT ho 50 hu (by rw [hi]; simp [hz1]) _ _ _ _ _ _ hd hs (by simp) ?_
    exact h w (by simpa using hB) hb (fun _ _ => rfl)
  · obtain ⟨b, off, rfl, _, hc⟩ := hr.at_ (by omega)
    refine wpList_copy_own hgd d s dT sT ho 50 hu (by rw [hi]; simp [hz1]) g 0 n dCap ⟨b, off, none⟩ n c hd hs (vals zs) 50 hB (lits32 xs) (by rw [hlen]; simp) (fun j v hv => ?_) (by rw [hlen, vals_size]; omega) (lits32_one xs) ?_
    · obtain ⟨hj, rfl⟩ := lits32_at xs j v hv
      rw [hr.len] at hj
      have := hc j hj
      unfold Addr.add
      by_cases h1 : j = 0
      · subst h1; simpa using this
      · simpa [h1] using this
    · rw [hlen]
      refine h _ ?_ (below_setRow hb hLg _) fun k hk => setRow_other w g k _ hk
      have h1 := setRow_heap w g (vals zs) ((vals zs).toList.take 0 ++ (lits32 xs ++ (vals zs).toList.drop (0 + n))).toArray 50 (0, 0) hB
      unfold Blk
      rw [h1]
      simp [vals, lits32, List.map_drop]

set_option maxRecDepth 100000 in
set_option maxHeartbeats 1600000 in
theorem keeps_few (A B : Option Addr) (n c m d : Nat) (xs ys : List Nat) (w : World) (ha : Rd w A n c xs) (hb : Rd w B m d ys) (hor : 410 < n ∨ 410 < m) :
    Calls Try.prog 9 #[.slice A n c, .slice B m d] w fun e w' => e = .returned (.bool true) ∧ Below w.heap.size w w' := by
  have h1 := ha.cap
  have h2 := ha.max
  have h3 := hb.cap
  have h4 := hb.max
  go_enter Try.func9, Try.ntmps9
  go_wp2_with fail
  refine (awake_any _).mono ?_
  rintro e w1 ⟨rfl, hb1⟩
  go_wp2_with fail
  refine (few2_no A B n c m d w1 hor (by omega) (by omega)).mono ?_
  rintro e w2 ⟨rfl, hb2⟩
  have HB2 := Lib.hid (hb1.trans (hb2.mono hb1.size))
  clear hb1 hb2
  go_wp2_with fail
  refine (awake_any _).mono ?_
  rintro e w3 ⟨rfl, hb3⟩
  have HC := Lib.hid (HB2.out.trans (hb3.mono HB2.out.size))
  clear hb3
  go_wp2
  go_ret
  exact ⟨rfl, HC.out⟩

set_option maxRecDepth 100000 in
set_option maxHeartbeats 1600000 in
theorem keeps_len1 (A B : Option Addr) (n c m d : Nat) (xs ys : List Nat) (w : World) (ha : Rd w A n c xs) (hb : Rd w B m d ys) (f1 : n ≤ 410) (f2 : m ≤ 410) (hx : 30 < n) :
    Calls Try.prog 9 #[.slice A n c, .slice B m d] w fun e w' => e = .returned (.bool true) ∧ Below w.heap.size w w' := by
  have h1 := ha.cap
  have h2 := ha.max
  have h3 := hb.cap
  have h4 := hb.max
  have g1 : 30 < (n : Int) := by omega
  go_enter Try.func9, Try.ntmps9
  go_wp2_with fail
  refine (awake_any _).mono ?_
  rintro e w1 ⟨rfl, hb1⟩
  go_wp2_with fail
  refine (few2_yes A B n c m d w1 f1 f2).mono ?_
  rintro e w2 ⟨rfl, hb2⟩
  have HB2 := Lib.hid (hb1.trans (hb2.mono hb1.size))
  clear hb1 hb2
  go_wp2_with fail
  refine (awake_any _).mono ?_
  rintro e w3 ⟨rfl, hb3⟩
  have HC := Lib.hid (HB2.out.trans (hb3.mono HB2.out.size))
  clear hb3
  go_wp2
  go_ret
  exact ⟨rfl, HC.out⟩

set_option maxRecDepth 100000 in
set_option maxHeartbeats 1600000 in
theorem keeps_len2 (A B : Option Addr) (n c m d : Nat) (xs ys : List Nat) (w : World) (ha : Rd w A n c xs) (hb : Rd w B m d ys) (f1 : n ≤ 410) (f2 : m ≤ 410) (hx : n ≤ 30) (hy : 30 < m) :
    Calls Try.prog 9 #[.slice A n c, .slice B m d] w fun e w' => e = .returned (.bool true) ∧ Below w.heap.size w w' := by
  have h1 := ha.cap
  have h2 := ha.max
  have h3 := hb.cap
  have h4 := hb.max
  have g1 : ¬ (30 < (n : Int)) := by omega
  have g2 : 30 < (m : Int) := by omega
  go_enter Try.func9, Try.ntmps9
  go_wp2_with fail
  refine (awake_any _).mono ?_
  rintro e w1 ⟨rfl, hb1⟩
  go_wp2_with fail
  refine (few2_yes A B n c m d w1 f1 f2).mono ?_
  rintro e w2 ⟨rfl, hb2⟩
  have HB2 := Lib.hid (hb1.trans (hb2.mono hb1.size))
  clear hb1 hb2
  go_wp2_with fail
  refine (awake_any _).mono ?_
  rintro e w3 ⟨rfl, hb3⟩
  have HC := Lib.hid (HB2.out.trans (hb3.mono HB2.out.size))
  clear hb3
  go_wp2
  go_ret
  exact ⟨rfl, HC.out⟩

/-- Two rows of the call's own. -/
def Two (w : World) (gx gy : Nat) (xs ys : List Nat) (W : World) : Prop := gx ≠ gy ∧ w.heap.size ≤ gx ∧ w.heap.size ≤ gy ∧ Blk W gx xs ∧ Blk W gy ys ∧ Below w.heap.size w W
theorem two_xy (w : World) (us vs : List Nat) : Two w w.heap.size (w.heap.size + 1) us vs ((w.alloc (.cells (vals us) 50)).alloc (.cells (vals vs) 50)).drew := by
  have hs : (w.alloc (.cells (vals us) 50)).heap.size = w.heap.size + 1 := by simp
  refine ⟨by omega, Nat.le_refl _, by omega, ((Blk.new w us).alloc _).drew, ?_, (((Below.refl _ w).alloc (Nat.le_refl _) _).alloc (by omega) _).drew⟩
  have := Blk.new (w.alloc (.cells (vals us) 50)) vs
  rw [hs] at this
  exact this.drew
theorem two_yx (w : World) (us vs : List Nat) : Two w (w.heap.size + 1) w.heap.size us vs ((w.alloc (.cells (vals vs) 50)).alloc (.cells (vals us) 50)).drew := by
  obtain ⟨h1, h2, h3, h4, h5, h6⟩ := two_xy w vs us
  exact ⟨fun e => h1 e.symm, h3, h2, h5, h4, h6⟩
/-- The row's beginning, as a slice. -/
theorem rd_of_blk {W : World} {g n : Nat} {xs : List Nat} (hB : Blk W g (xs ++ zeros 8)) (hl : xs.length = n) (hL : Lim xs) (hn : n ≤ 1000) : Rd W (some ⟨g, 0, none⟩) n (n + 8) xs :=
  ⟨hl, by omega, by omega, hL, fun _ => ⟨g, 0, rfl, hB.lt, fun j hj => by rw [Nat.zero_add, hB.cell (by rw [List.length_append]; omega), el_append_left _ _ _ (by omega)]⟩⟩
theorem drop_zeros (n : Nat) : (zeros (n + 8)).drop n = zeros 8 := by
  unfold zeros; rw [List.drop_replicate]; congr 1; omega

/-- The first limb of a slice in new memory: it is there, and may be written. -/
def Cel (w : World) (lo : Nat) (A : Option Addr) (n : Nat) : Prop :=
  0 < n → ∃ (b o : Nat) (v : Int), A = some ⟨b, o, none⟩ ∧ lo ≤ b ∧ w.cell? ⟨b, o, none⟩ = some (.int .u32 v) ∧ w.frozen? ⟨b, o, none⟩ = false
theorem Nw.cel {w : World} {lo n c : Nat} {A : Option Addr} {xs : List Nat} (h : Nw w lo A n c xs) : Cel w lo A n := fun hn => by
  obtain ⟨b, o, rfl, _, _⟩ := h.1.at_ hn
  obtain ⟨h1, _, h3, h4⟩ := h.addr hn
  exact ⟨b, o, _, rfl, h1, by simpa using h3 0 hn, by simpa using h4 0 hn⟩
theorem Cel.set_ {w : World} {lo n : Nat} {A : Option Addr} (h : Cel w lo A n) (p : Addr) (z v : Int) (hp : w.cell? p = some (.int .u32 v)) : Cel (w.setCell p (.int .u32 z)) lo A n := fun hn => by
  obtain ⟨b, o, u, rfl, h1, h2, h3⟩ := h hn
  by_cases he : p = ⟨b, o, none⟩
  · subst he
    exact ⟨b, o, z, rfl, h1, World.cell?_setCell_same _ _ _ hp, by rw [World.frozen?_setCell]; exact h3⟩
  · exact ⟨b, o, u, rfl, h1, by rw [World.cell?_setCell_other _ _ _ _ he]; exact h2, by rw [World.frozen?_setCell]; exact h3⟩

set_option maxRecDepth 100000 in
set_option maxHeartbeats 3200000 in
theorem keeps_good (A B : Option Addr) (n c m d : Nat) (xs ys : List Nat) (w : World) (ha : Rd w A n c xs) (hb : Rd w B m d ys) (hx : n ≤ 30) (hy : m ≤ 30) :
    Calls Try.prog 9 #[.slice A n c, .slice B m d] w fun e w' => e = .returned (.bool true) ∧ Below w.heap.size w w' := by
  have h1 := ha.cap
  have h2 := ha.max
  have h3 := hb.cap
  have h4 := hb.max
  have g1 : ¬ (30 < (n : Int)) := by omega
  have g2 : ¬ (30 < (m : Int)) := by omega
  have mkx := mk32c n (n + 8) (by omega) ((n : Int) + 8) (by omega) (by omega)
  have mky := mk32c m (m + 8) (by omega) ((m : Int) + 8) (by omega) (by omega)
  have k1 : IntKind.i64.wrap ((n : Int) + 8) = (n : Int) + 8 := IntWalk.i64_in _ (by omega)
  have k2 : IntKind.i64.wrap ((m : Int) + 8) = (m : Int) + 8 := IntWalk.i64_in _ (by omega)
  go_enter Try.func9, Try.ntmps9
  go_wp2_with fail
  refine (awake_any _).mono ?_
  rintro e w1 ⟨rfl, hb1⟩
  go_wp2_with fail
  refine (few2_yes A B n c m d w1 (by omega) (by omega)).mono ?_
  rintro e w2 ⟨rfl, hb2⟩
  have HB2 := Lib.hid (hb1.trans (hb2.mono hb1.size))
  clear hb1 hb2
  go_upto_region 3 with (fail)
  go_cut [5, 6] (fun s5 s6 wx => ∃ gx gy : Nat, s5 = .slice (some ⟨gx, 0, none⟩) n (n + 8) ∧ s6 = .slice (some ⟨gy, 0, none⟩) m (m + 8) ∧ Hid (Two w2 gx gy (zeros (n + 8)) (zeros (m + 8)) wx))
  case first =>
    go_region
    all_goals (go_wp2_with fail; go_meet; first | exact ⟨_, _, rfl, rfl, two_xy _ _ _⟩ | exact ⟨_, _, rfl, rfl, two_yx _ _ _⟩)
  case rest =>
    obtain ⟨gx, gy, rfl, rfl, HC⟩ := hcut
    clear mkx mky
    obtain ⟨hne, hx0, hy0, hBx, hBy, hbc⟩ := HC.out
    have HNE := Lib.hid hne
    have hA2 := (ha.below HB2.out).below hbc
    have hlx : n ≤ (zeros (n + 8)).length := by rw [zeros_len]; omega
    have hly : m ≤ (zeros (m + 8)).length := by rw [zeros_len]; omega
    clear hne HC
    go_wp2_with (first
      | ((with_reducible refine wpList_cpk rfl (.tmp 49) (.tmp 50) 32 22 rfl Try.underlying32 info50 A gx n c (n + 8) xs (zeros (n + 8)) rfl rfl hBx hlx hA2 w2.heap.size w2 hbc hx0 ?_); intro w3 hB3 hb3 ho3; have hY3 : Blk w3 gy (zeros (m + 8)) := (ho3.out gy (Ne.symm HNE.out)).trans hBy; have hB2 := (hb.below HB2.out).below hb3)
      | ((with_reducible refine wpList_cpk rfl (.tmp 52) (.tmp 53) 32 22 rfl Try.underlying32 info50 B gy m d (m + 8) ys (zeros (m + 8)) rfl rfl hY3 hly hB2 w2.heap.size w2 hb3 hy0 ?_); intro W hY hbW ho4; have hX : Blk W gx (xs ++ (zeros (n + 8)).drop n) := (ho4.out gx HNE.out).trans hB3))
    rw [drop_zeros] at hX hY
    have hRX := rd_of_blk hX ha.len ha.lim (by omega)
    have hRY := rd_of_blk hY hb.len hb.lim (by omega)
    have HLX := Lib.hid ha.len
    have HLY := Lib.hid hb.len
    have hA := (ha.below HB2.out).below hbW
    have hBB := (hb.below HB2.out).below hbW
    have HBW := Lib.hid (HB2.out.trans (hbW.mono HB2.out.size))
    clear hB3 hb3 ho3 hY3 ho4 hbW HB2 ha hb hBx hBy hbc hA2 hB2 hlx hly HNE hx0 hy0
    refine (add_any _ _ _ _ _ _ xs ys _ hRX hRY).mono ?_
    rintro e w5 ⟨S, sn, sc, rfl, hS, hb5⟩
    have hSc := hS.cel
    clear hS
    generalize (addR xs ys).2 = ee at *
    go_upto_region 7 with (fail)
    go_cut [67] (fun s67 wx => ∃ t : Bool, s67 = .bool t ∧ wx = w5 ∧ Hid (t = true → 0 < sn))
    case first =>
      obtain ⟨be, hbe⟩ : ∃ be, (ee == 0) = be := ⟨_, rfl⟩
      cases be
      · go_wp2_with fail
        go_meet
        exact ⟨false, rfl, rfl, fun e => by cases e⟩
      · by_cases hsn : 0 < sn
        · have hsn' : 0 < (sn : Int) := by omega
          go_wp2_with fail
          go_meet
          exact ⟨true, rfl, rfl, fun _ => hsn⟩
        · have hsn' : ¬ (0 < (sn : Int)) := by omega
          go_wp2_with fail
          go_meet
          exact ⟨false, rfl, rfl, fun e => by cases e⟩
    case rest =>
    obtain ⟨t, rfl, rfl, HT⟩ := hcut
    go_upto_if 67 with (fail)
    go_cut [] (fun wx => Hid (Below W.heap.size W wx))
    case first =>
      cases t
      · go_wp2_with fail
        go_meet
        exact hb5
      · obtain ⟨b, o, v, rfl, hlo, hcell, hfr⟩ := hSc (HT.out rfl)
        have hsn := HT.out rfl
        have hsn' : 0 < (sn : Int) := by omega
        go_wp2_with fail
        go_meet
        exact hb5.setCell hlo _
    case rest =>
    clear hSc hb5 HT
    have HB := hcut
    clear hcut
    go_wp2_with fail
    refine (Sub_any _ _ _ _ _ _ xs ys _ (hRX.below HB.out) (hRY.below HB.out)).mono ?_
    rintro e w6 ⟨_, _, _, rfl, _, hb6⟩
    have HB6 := Lib.hid (HB.out.trans (hb6.mono HB.out.size))
    clear HB hb6
    go_wp2_with fail
    refine (mul_any _ _ _ _ _ _ xs ys _ (hRX.below HB6.out) (hRY.below HB6.out)).mono ?_
    rintro e w7 ⟨_, _, _, rfl, _, hb7⟩
    have HB7 := Lib.hid (HB6.out.trans (hb7.mono HB6.out.size))
    clear HB6 hb7
    go_wp2_with fail
    refine (gcd_any _ _ _ _ _ _ xs ys _ (hRX.below HB7.out) (hRY.below HB7.out)).mono ?_
    rintro e w8 ⟨_, _, _, rfl, _, hb8⟩
    have HB8 := Lib.hid (HB7.out.trans (hb8.mono HB7.out.size))
    clear HB7 hb8
    go_wp2_with fail
    refine (div_any _ _ _ _ _ _ xs ys _ (hRX.below HB8.out) (hRY.below HB8.out)).mono ?_
    rintro e w9 ⟨QA, qn, qc, RA, rn, rc, rfl, hQ, hR, hb9⟩
    have HB9 := Lib.hid (HB8.out.trans (hb9.mono HB8.out.size))
    have hQc := (hQ.mono HB8.out.size).cel
    have hRc := (hR.mono HB8.out.size).cel
    clear HB8 hb9 hQ hR
    generalize (divR xs ys).2.2 = de at *
    go_upto_if 91 with (fail)
    go_cut [] (fun wx => Hid (Below W.heap.size W wx ∧ Cel wx W.heap.size RA rn))
    case first =>
      by_cases hqn : 0 < qn
      · obtain ⟨b, o, v, rfl, hlo, hcell, hfr⟩ := hQc hqn
        have hqn' : 0 < (qn : Int) := by omega
        go_wp2_with fail
        go_meet
        exact ⟨HB9.out.setCell hlo _, hRc.set_ _ _ _ hcell⟩
      · have hqn' : ¬ (0 < (qn : Int)) := by omega
        go_wp2_with fail
        go_meet
        exact ⟨HB9.out, hRc⟩
    case rest =>
    clear hQc hRc HB9
    have HBA := hcut
    clear hcut
    go_upto_if 99 with (fail)
    go_cut [] (fun wx => Hid (Below W.heap.size W wx))
    case first =>
      by_cases hqn : 0 < rn
      · obtain ⟨b, o, v, rfl, hlo, hcell, hfr⟩ := HBA.out.2 hqn
        have hqn' : 0 < (rn : Int) := by omega
        go_wp2_with fail
        go_meet
        exact HBA.out.1.setCell hlo _
      · have hqn' : ¬ (0 < (rn : Int)) := by omega
        go_wp2_with fail
        go_meet
        exact HBA.out.1
    case rest =>
    clear HBA
    have HBE := hcut
    clear hcut
    have hXE : Blk wc gx (xs ++ zeros 8) := hX.below HBE.out hX.lt
    have hYE : Blk wc gy (ys ++ zeros 8) := hY.below HBE.out hY.lt
    have hAE := hA.below HBE.out
    have hBE := hBB.below HBE.out
    have HFin := Lib.hid (HBW.out.trans (HBE.out.mono HBW.out.size))
    clear hX hY hA hBB HBE HBW hRX hRY
    go_wp2
    go_loopg [107] n (fun g t wr => ∃ k q : Nat, k + g = n ∧ t = .int .i64 k ∧ wr = wc.drewN q)
    case atStart => exact ⟨0, 0, Nat.zero_add _, rfl, rfl⟩
    case round =>
      obtain ⟨k, q, hk, rfl, rfl⟩ := hrel
      have HK := Lib.hid hk
      clear hk
      by_cases hkn : k < n
      · have hcx : wc.cell? ⟨gx, k, none⟩ = some (.int .u32 (el xs k)) := by
          rw [hXE.cell (by rw [List.length_append, hAE.len]; omega), el_append_left _ _ _ (by rw [hAE.len]; exact hkn)]
        obtain ⟨b, o, rfl, hbb, hc⟩ := hAE.at_ (by omega)
        have hca := hc k hkn
        clear hc
        have hkn' : (k : Int) < (n : Int) := by omega
        go_wp2
        go_quiet (fail)
        go_wp2
        go_roundg (gk - 1)
        case rel => exact ⟨k + 1, _, by have := HK.out; omega, rfl, rfl⟩
        case measure => have := HK.out; omega
      · have hkn' : ¬ ((k : Int) < (n : Int)) := by omega
        clear hAE
        go_wp2
        go_loopg [122] m (fun g t wr => ∃ k q : Nat, k + g = m ∧ t = .int .i64 k ∧ wr = wc.drewN q)
        case atStart => exact ⟨0, _, Nat.zero_add _, rfl, rfl⟩
        case round =>
          clear hkn hkn' HK
          obtain ⟨k2, q2, hk, rfl, rfl⟩ := hrel
          have HK2 := Lib.hid hk
          clear hk
          by_cases hkn : k2 < m
          · have hcx : wc.cell? ⟨gy, k2, none⟩ = some (.int .u32 (el ys k2)) := by
              rw [hYE.cell (by rw [List.length_append, hBE.len]; omega), el_append_left _ _ _ (by rw [hBE.len]; exact hkn)]
            obtain ⟨b, o, rfl, hbb, hc⟩ := hBE.at_ (by omega)
            have hca := hc k2 hkn
            clear hc
            have hkn' : (k2 : Int) < (m : Int) := by omega
            go_wp2
            go_quiet (fail)
            go_wp2
            go_roundg (gk - 1)
            case rel => exact ⟨k2 + 1, _, by have := HK2.out; omega, rfl, rfl⟩
            case measure => have := HK2.out; omega
          · have hkn' : ¬ ((k2 : Int) < (m : Int)) := by omega
            go_wp2
            go_quiet (fail)
            go_wp2
            go_loopg [143] 8 (fun g t wr => ∃ k q : Nat, k + g = 8 ∧ t = .int .i64 k ∧ wr = wc.drewN q)
            case atStart => first | exact ⟨0, _, Nat.zero_add _, rfl, World.drewN_drewN ..⟩ | exact ⟨0, _, Nat.zero_add _, rfl, rfl⟩
            case round =>
              clear hkn hkn' HK2
              obtain ⟨k3, q3, hk, rfl, rfl⟩ := hrel
              have HK3 := Lib.hid hk
              clear hk
              by_cases hk8 : k3 < 8
              · have hk8' : (k3 : Int) < 8 := by omega
                have hlx := HLX.out
                have hly := HLY.out
                have hcx : wc.cell? ⟨gx, n + k3, none⟩ = some (.int .u32 0) := by
                  rw [hXE.cell (by rw [List.length_append, hlx, zeros_len]; omega), el_append_right _ _ _ (by omega), el_zeros]; rfl
                have hcy : wc.cell? ⟨gy, m + k3, none⟩ = some (.int .u32 0) := by
                  rw [hYE.cell (by rw [List.length_append, hly, zeros_len]; omega), el_append_right _ _ _ (by omega), el_zeros]; rfl
                have e1 : IntKind.i64.wrap ((n : Int) + (k3 : Int)) = (n : Int) + (k3 : Int) := IntWalk.i64_in _ (by omega)
                have e2 : IntKind.i64.wrap ((m : Int) + (k3 : Int)) = (m : Int) + (k3 : Int) := IntWalk.i64_in _ (by omega)
                have e3 : ((n : Int) + (k3 : Int)).toNat = n + k3 := by omega
                have e4 : ((m : Int) + (k3 : Int)).toNat = m + k3 := by omega
                clear hlx hly
                go_wp2
                go_roundg (gk - 1)
                case rel => exact ⟨k3 + 1, _, by have := HK3.out; omega, rfl, rfl⟩
                case measure => have := HK3.out; omega
              · have hk8' : ¬ ((k3 : Int) < 8) := by omega
                go_wp2
                go_ret
                exact ⟨rfl, below_drewN' HFin.out _⟩
theorem keeps_walk (A B : Option Addr) (n c m d : Nat) (xs ys : List Nat) (w : World) (ha : Rd w A n c xs) (hb : Rd w B m d ys) :
    Calls Try.prog 9 #[.slice A n c, .slice B m d] w fun e w' => e = .returned (.bool true) ∧ Below w.heap.size w w' := by
  by_cases h0 : 410 < n ∨ 410 < m
  · exact keeps_few A B n c m d xs ys w ha hb h0
  by_cases h1 : 30 < n
  · exact keeps_len1 A B n c m d xs ys w ha hb (by omega) (by omega) h1
  by_cases h2 : 30 < m
  · exact keeps_len2 A B n c m d xs ys w ha hb (by omega) (by omega) (by omega) h2
  exact keeps_good A B n c m d xs ys w ha hb (by omega) (by omega)
end Go.Proofs.Ytggfkcdogjebcaa
