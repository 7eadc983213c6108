/-
  The walk of the law LedgerSlashes: it returns true, whatever the amounts, and writes nothing that was there.
-/
import Derived.Test.YtahleoidbnlllaaLla
namespace Go.Proofs.Ytahleoidbnlllaa
open Go.RowKit
set_option linter.unusedVariables false

/-- The chunks when so many parts have been unbonded, each in the era of its place. -/
def chK (ps : List Nat) : Nat → List Ck
  | 0 => []
  | k + 1 => if el ps k = 0 then chK ps k else chK ps k ++ [(el ps k, (k : Int))]
theorem chK_lt (ps : List Nat) (k : Nat) : ∀ c ∈ chK ps k, c.2 < (k : Int) := by
  induction k with
  | zero => intro c hc; cases hc
  | succ k ih =>
    intro c hc
    unfold chK at hc
    split at hc
    · have := ih c hc; omega
    · rcases List.mem_append.1 hc with hc | hc
      · have := ih c hc; omega
      · simp at hc; subst hc; show (k : Int) < _; omega
theorem chK_len (ps : List Nat) (k : Nat) : (chK ps k).length ≤ k := by
  induction k with
  | zero => simp [chK]
  | succ k ih =>
    unfold chK
    split
    · omega
    · simp; omega
theorem chK_sum (ps : List Nat) (k : Nat) (hk : k ≤ ps.length) : cht (chK ps k) = tot (ps.take k) := by
  induction k with
  | zero => simp [chK, cht]
  | succ k ih =>
    have := ih (by omega)
    rw [tot_take_succ ps k]
    unfold chK
    split
    · omega
    · rw [cht_append, this]; rfl
/-- The ledger when so many parts have been unbonded. -/
def slB (f S : Nat) (ps : List Nat) (k : Nat) : Ab := ⟨[⟨f, S - tot (ps.take k), 0, chK ps k⟩, ⟨7, 0, 0, []⟩], 0, 0⟩
theorem sl_bond (f S : Nat) (ps : List Nat) : bondM (newB [f + S, 7]) 0 S = (slB f S ps 0, 0) := by
  have h : (newB [f + S, 7]).ac 0 = some (mkC (f + S)) := rfl
  unfold bondM
  rw [h]
  have h2 : ¬ (mkC (f + S)).f < S := by show ¬ f + S < S; omega
  simp only [h2, if_false]
  simp [Ab.put, newB, mkC, slB, chK, tot]
theorem sl_unb (f S : Nat) (ps : List Nat) (k : Nat) (hk : k < ps.length) (h8 : ps.length ≤ 8) (hS : tot ps ≤ S) : ∃ q, unbM (slB f S ps k) 0 (el ps k) k = (slB f S ps (k + 1), q) := by
  have h : (slB f S ps k).ac 0 = some ⟨f, S - tot (ps.take k), 0, chK ps k⟩ := rfl
  have e1 := tot_take_succ ps k
  have e2 := tot_take_le ps (k + 1)
  have hl := chK_len ps k
  unfold unbM
  rw [h]
  dsimp only
  by_cases h0 : el ps k = 0
  · rw [if_pos h0]
    refine ⟨1, ?_⟩
    unfold slB
    rw [e1, h0, Nat.add_zero, show chK ps (k + 1) = chK ps k by rw [chK, if_pos h0]]
  · rw [if_neg h0, if_neg (by omega)]
    have hp : posC (chK ps k) (k : Int) = (chK ps k).length := posC_eq (Nat.le_refl _) (fun m c _ hc => chK_lt ps k c (List.mem_of_getElem? hc)) (fun c hc => by simp at hc)
    have hi : insC (chK ps k) (k : Int) (el ps k) = some (chK ps k ++ [(el ps k, (k : Int))]) := by
      unfold insC
      dsimp only
      rw [hp]
      simp [show ¬ 8 ≤ (chK ps k).length by omega]
    rw [hi]
    refine ⟨0, ?_⟩
    simp only [slB, Ab.put]
    rw [show chK ps (k + 1) = chK ps k ++ [(el ps k, (k : Int))] by rw [chK, if_neg h0], e1]
    simp
    omega
theorem sl_ok (f S : Nat) (ps : List Nat) (k : Nat) (hk : k ≤ ps.length) (h8 : ps.length ≤ 8) (hS : tot ps ≤ S) (hb : f + S + 7 < 18446744073709551616) : (slB f S ps k).ok := by
  induction k with
  | zero =>
    have := bond_good (newB_ok (xs := [f + S, 7]) (by simp [tot]; omega) (by simp)) 0 S
    rw [sl_bond f S ps] at this
    exact this.1
  | succ k ih =>
    obtain ⟨q, hq⟩ := sl_unb f S ps k (by omega) h8 hS
    have := unb_good (ih (by omega)) 0 (el ps k) (k : Int) (by simp [Lit.wf, IntKind.min, IntKind.max, IntKind.signed, IntKind.bits]; omega)
    rw [hq] at this
    exact this.1
/-- What a slash makes of it. -/
theorem sl_sla (f bo S : Nat) (ps : List Nat) (am : Nat) (hS : S = bo + tot ps) : ∃ ch, slaM (slB f S ps ps.length) 0 am = (⟨[⟨f, bo - min am bo, 0, ch⟩, ⟨7, 0, 0, []⟩], min am S, 0⟩, min am S, 0) ∧ bo - min am bo + cht ch = S - min am S := by
  have h : (slB f S ps ps.length).ac 0 = some ⟨f, S - tot (ps.take ps.length), 0, chK ps ps.length⟩ := rfl
  have e0 : S - tot (ps.take ps.length) = bo := by rw [List.take_length]; omega
  have e1 := chK_sum ps ps.length (Nat.le_refl _)
  rw [List.take_length] at e1
  have e2 := takC_amount (chK ps ps.length) (am - min am bo)
  have e3 := takC_sum (chK ps ps.length) (am - min am bo)
  have e4 := nz_sum (takC (chK ps ps.length) (am - min am bo)).1
  unfold slaM
  rw [h, e0]
  dsimp only
  have e5 : min am bo + (takC (chK ps ps.length) (am - min am bo)).2 = min am S := by rw [e2, e1]; omega
  refine ⟨nzC (takC (chK ps ps.length) (am - min am bo)).1, ?_, by rw [e4]; omega⟩
  rw [e5]
  simp [slB, Ab.put]
theorem tot_bl {M : Nat} {ps : List Nat} (h : Bl M ps) : tot ps ≤ ps.length * M := by
  induction ps with
  | nil => simp [tot]
  | cons p ps ih =>
    have h1 := h p (by simp)
    have h2 := ih (fun x hx => h x (by simp [hx]))
    rw [List.length_cons, Nat.add_mul]
    show p + tot ps ≤ _
    omega
theorem rk_two (k : IntKind) (T : TypeId) (w : World) (v u : Int) (N M : Nat) (h : v = N) (h2 : u = M) : Rk k (w.alloc (.cells #[.int k v, .int k u] T)) (some ⟨w.heap.size, 0, none⟩) 2 2 [N, M] := by
  subst h h2
  refine ⟨rfl, Nat.le_refl _, by omega, fun _ => ⟨_, _, rfl, by simp, fun j hj => ?_⟩⟩
  have hk := KB.new w T #[.int k (N : Int), .int k (M : Int)]
  rw [Nat.zero_add, hk.cell]
  match j, hj with
  | 0, _ => rfl
  | 1, _ => rfl
set_option maxRecDepth 100000 in
set_option maxHeartbeats 6400000 in
theorem lslash_walk (f bo : Nat) (P : Option Addr) (n c : Nat) (ps : List Nat) (am : Nat) (w : World) (hf : f < 4294967296) (hbo : bo < 4294967296) (h : Rk .u16 w P n c ps) (hps : Bl 65536 ps) (ham : am < 18446744073709551616) :
    Calls Try.prog 7 #[.int .u32 f, .int .u32 bo, .slice P n c, .int .u64 am] w fun e w' => e = .returned (.bool true) ∧ Below w.heap.size w w' := by
  have hlen := h.len
  have hcap := h.cap
  have hmax := h.max
  by_cases h8 : 8 < n
  · have hn' : ((8 : Int) < (n : Int)) := by omega
    clear h
    go_enter Try.func7, Try.ntmps7
    go_wp2_with fail
    refine (wakeL_any _).mono ?_
    rintro e w1 ⟨rfl, hb1⟩
    go_wp2_with fail
    refine (wakeL_any _).mono ?_
    rintro e w2 ⟨rfl, hb2⟩
    go_wp2
    go_ret
    exact ⟨rfl, hb1.trans (hb2.mono hb1.size)⟩
  · have hn' : ¬ ((8 : Int) < (n : Int)) := by omega
    have q1 : IntKind.u64.wrap (f : Int) = (f : Int) := by rw [IntKind.wrap_u64]; omega
    have q2 : IntKind.u64.wrap (bo : Int) = (bo : Int) := by rw [IntKind.wrap_u64]; omega
    have htb := tot_bl hps
    rw [hlen] at htb
    have htb2 : tot ps ≤ 524288 := by have : n * 65536 ≤ 8 * 65536 := Nat.mul_le_mul_right _ (by omega); omega
    have HL := Lib.hid hlen
    have HPS := Lib.hid hps
    have HR0 := Lib.hid h
    clear h hlen hps htb
    go_enter Try.func7, Try.ntmps7
    go_wp2_with fail
    refine (wakeL_any _).mono ?_
    rintro e w1 ⟨rfl, hb1⟩
    have HR := Lib.hid (HR0.out.below hb1)
    clear HR0
    go_wp2_with fail
    go_loopw [9, 35] (fun sv tv wr => ∃ k S : Nat, k ≤ n ∧ S = bo + tot (ps.take k) ∧ sv = .int .u64 (S : Int) ∧ tv = .int .i64 (k : Int) ∧ w1 = wr) (fun _ tv _ => n - (intOf tv).toNat)
    case atStart => exact ⟨0, bo, Nat.zero_le _, by simp [tot], rfl, rfl, rfl⟩
    case round =>
      obtain ⟨k, S, hk, hS, rfl, rfl, rfl⟩ := hrel
      have hSl : S ≤ bo + 524288 := by have := tot_take_le ps k; omega
      have HS := Lib.hid hS
      clear hS
      by_cases hlt : k < n
      · obtain ⟨b, o, rfl, hbb, hcc⟩ := HR.out.at_ (by omega)
        have hcell := hcc k hlt
        have hel : el ps k < 65536 := by rw [el_get ps k (by rw [HL.out]; exact hlt)]; exact HPS.out _ (List.getElem_mem _)
        have hT := tot_take_succ ps k
        have HT := Lib.hid hT
        clear hcc hT
        generalize el ps k = y at hcell hel HT
        have q4 : IntKind.u64.wrap (y : Int) = (y : Int) := by rw [IntKind.wrap_u64]; omega
        have q5 : IntKind.u64.wrap ((S : Int) + (y : Int)) = (S : Int) + (y : Int) := by rw [IntKind.wrap_u64]; omega
        go_wp2_with fail
        go_roundw
        case rel => exact ⟨k + 1, S + y, by omega, by rw [HT.out, HS.out]; omega, by go_num, by go_num, by first | rfl | trivial⟩
        case measure => simp [intOf]; omega
      · have hkn : k = n := by omega
        have hSe : S = bo + tot ps := by rw [HS.out, List.take_of_length_le (by rw [HL.out]; omega)]
        have HSE := Lib.hid hSe
        clear HS hSe
        have hlt' : ¬ ((k : Int) < (n : Int)) := by omega
        clear hkn
        have q3 : IntKind.u64.wrap ((f : Int) + (S : Int)) = (f : Int) + (S : Int) := by rw [IntKind.wrap_u64]; omega
        have hr2 : Rk .u64 (w1.alloc (.cells #[.int .u64 ((f : Int) + (S : Int)), .int .u64 7] 33)) (some ⟨w1.heap.size, 0, none⟩) 2 2 [f + S, 7] := rk_two .u64 33 w1 _ _ (f + S) 7 (by omega) (by omega)
        have hN := new_any _ 2 2 [f + S, 7] _ hr2 (by intro x hx; simp at hx; omega)
        have hbA := hb1.alloc hb1.size (.cells #[.int .u64 ((f : Int) + (S : Int)), .int .u64 7] 33)
        have hRA := HR.out.alloc (.cells #[.int .u64 ((f : Int) + (S : Int)), .int .u64 7] 33)
        have HN := Lib.hid hN
        have HBA := Lib.hid hbA
        have HRA := Lib.hid hRA
        clear hN hbA hr2 hRA HR
        go_wp2_with fail
        generalize hW : (w1.alloc (.cells #[.int .u64 ((f : Int) + (S : Int)), .int .u64 7] 33)) = W at HN HBA HRA ⊢
        have hWs : W.heap.size = w1.heap.size + 1 := by rw [← hW]; simp
        clear hW
        refine HN.out.mono ?_
        rintro e w2 ⟨hb2, ⟨h1, _⟩ | ⟨_, h1, _⟩ | ⟨_, _, s, rfl, hab, hg⟩⟩
        · simp at h1
        · simp [tot] at h1; omega
        · have hla : LA TP W.heap.size w2 s.L (newB [f + S, 7]) := ⟨s, rfl, hab, hg⟩
          have hok0 : (newB [f + S, 7]).ok := newB_ok (by simp [tot]; omega) (by simp)
          generalize s.L = L at hla ⊢
          clear hab hg s
          have hB2 := HBA.out.trans (hb2.mono (by have := hb1.size; omega))
          have hbnd := bondL hla hok0 0 S (by omega)
          rw [sl_bond f S ps] at hbnd
          have HR2 := Lib.hid (HRA.out.below hb2)
          have HBO := Lib.hid hbnd
          have HB2 := Lib.hid hB2
          have hRb := HRA.out
          have hlow : ∀ b o, P = some ⟨b, o, none⟩ → 0 < n → b < W.heap.size := fun b o e h0 => by
            obtain ⟨b', o', e', hb', _⟩ := hRb.at_ h0
            rw [e] at e'
            cases e'
            exact hb'
          have HLOW := Lib.hid hlow
          clear hbnd hB2 HBA HN HRA hb2 hla hRb hlow
          go_wp2_with fail
          refine HBO.out.mono ?_
          rintro e w3 ⟨rfl, hT3⟩
          have HT3 := Lib.hid hT3
          clear hT3
          go_wp2_with fail
          go_loopw [65] (fun tv wr => ∃ k : Nat, k ≤ n ∧ tv = .int .i64 (k : Int) ∧ LA TP W.heap.size wr L (slB f S ps k) ∧ Below W.heap.size w2 wr) (fun tv _ => n - (intOf tv).toNat)
          case atStart => exact ⟨0, Nat.zero_le _, rfl, HT3.out.la, HT3.out.bel⟩
          case round =>
            obtain ⟨j, hj, rfl, hlaj, hbj⟩ := hrel
            by_cases hlt2 : j < n
            · obtain ⟨b, o, hPe, hbb, hcc⟩ := HR2.out.at_ (by omega)
              have hcell := (hbj.cell (p := ⟨b, o + j, none⟩) (HLOW.out b o hPe (by omega))).trans (hcc j hlt2)
              subst hPe
              have hel : el ps j < 65536 := by rw [el_get ps j (by rw [HL.out]; exact hlt2)]; exact HPS.out _ (List.getElem_mem _)
              obtain ⟨q, hq⟩ := sl_unb f S ps j (by rw [HL.out]; exact hlt2) (by rw [HL.out]; omega) (by have := HSE.out; omega)
              have hcu := unbL hlaj (sl_ok f S ps j (by rw [HL.out]; omega) (by rw [HL.out]; omega) (by have := HSE.out; omega) (by omega)) 0 (el ps j) (by omega) j
              rw [hq] at hcu
              dsimp only at hcu
              have HCU := Lib.hid hcu
              clear hcc hcu hq hlaj
              generalize el ps j = y at hcell hel HCU
              have q4 : IntKind.u64.wrap (y : Int) = (y : Int) := by rw [IntKind.wrap_u64]; omega
              go_wp2_with fail
              refine HCU.out.mono ?_
              rintro e w4 ⟨rfl, hT4⟩
              have HT4 := Lib.hid hT4
              clear hT4
              go_wp2_with fail
              go_roundw
              case rel => exact ⟨j + 1, by omega, by go_num, HT4.out.la, hbj.trans HT4.out.bel⟩
              case measure => simp [intOf]; omega
            · have hlt2' : ¬ ((j : Int) < (n : Int)) := by omega
              obtain rfl : j = ps.length := by have := HL.out; omega
              have hok5 := sl_ok f S ps ps.length (Nat.le_refl _) (by rw [HL.out]; omega) (by have := HSE.out; omega) (by omega)
              obtain ⟨ch, hsl, hleft⟩ := sl_sla f bo S ps am HSE.out
              have hcs := slaL hlaj hok5 0 am ham
              have hok6 := (sla_good hok5 0 am).1
              rw [hsl] at hcs hok6
              dsimp only at hcs hok6
              have hch8 : ch.length ≤ 8 := (hok6.ch ⟨f, bo - min am bo, 0, ch⟩ (by simp)).len
              have HCS := Lib.hid hcs
              have HLE := Lib.hid hleft
              clear hcs hlaj hsl hleft
              have hBj := HB2.out.trans (hbj.mono (by have := hb1.size; omega))
              go_wp2_with fail
              refine HCS.out.mono ?_
              rintro e w5 ⟨rfl, hT5⟩
              have hB5 := hBj.trans (hT5.bel.mono (by have := hb1.size; omega))
              have hA5 := accL_yes hT5.la hok6 (i := 0) (x := ⟨f, bo - min am bo, 0, ch⟩) rfl
              have HLA5 := Lib.hid hT5.la
              have HA5 := Lib.hid hA5
              have HB5 := Lib.hid hB5
              clear hT5 hA5 hB5 hBj hbj
              go_wp2_with fail
              refine HA5.out.mono ?_
              rintro e w6 ⟨va, rfl, hoa, hb6⟩
              try dsimp only at hoa
              obtain ⟨PA, ca, rfl, hsa⟩ := own_sc hoa (by omega)
              have hla6 := HLA5.out.below hb6
              have hB6 := HB5.out.trans (hb6.mono HB5.out.size)
              have kA := KB.new w6 49 #[.int .u64 (f : Nat), .int .u64 ((bo - min am bo : Nat) : Int), .int .u64 0, .slice PA ch.length ca]
              have b7 : Below w6.heap.size w6 (w6.alloc (.cells #[.int .u64 (f : Nat), .int .u64 ((bo - min am bo : Nat) : Int), .int .u64 0, .slice PA ch.length ca] 49)) := (Below.refl _ _).alloc (Nat.le_refl _) _
              have hla7 := hla6.below b7
              have hB7 := hB6.trans (b7.mono hB6.size)
              have hsa7 := hsa.below b7
              have hA7 := accL_yes hla7 hok6 (i := 1) (x := ⟨7, 0, 0, []⟩) rfl
              have HA7 := Lib.hid hA7
              have HLA7 := Lib.hid hla7
              have HB7 := Lib.hid hB7
              have HSA := Lib.hid hsa7
              have HKA := Lib.hid kA
              clear hla6 hB6 kA b7 hla7 hB7 hsa7 hsa hA7 hoa
              generalize hd : bo - min am bo = D at *
              have HD := Lib.hid hd
              clear hd
              go_wp2_with fail
              generalize (w6.alloc (.cells #[.int .u64 (f : Nat), .int .u64 (D : Int), .int .u64 0, .slice PA ch.length ca] 49)) = w7 at HA7 HLA7 HB7 HSA HKA ⊢
              refine HA7.out.mono ?_
              rintro e w8 ⟨vb, rfl, hob, hb8⟩
              try dsimp only at hob
              obtain ⟨PB, cb, rfl, _⟩ := own_sc hob (by simp)
              have hla8 := HLA7.out.below hb8
              have hB8 := HB7.out.trans (hb8.mono HB7.out.size)
              have kA8 := HKA.out.below hb8 HKA.out.lt
              have hsa8 := HSA.out.below hb8
              have kB := KB.new w8 49 #[.int .u64 7, .int .u64 0, .int .u64 0, .slice PB 0 cb]
              have b9 : Below w8.heap.size w8 (w8.alloc (.cells #[.int .u64 7, .int .u64 0, .int .u64 0, .slice PB 0 cb] 49)) := (Below.refl _ _).alloc (Nat.le_refl _) _
              have kA9 := kA8.below b9 kA8.lt
              have hsa9 := hsa8.below b9
              have hla9 := hla8.below b9
              have hB9 := hB8.trans (b9.mono hB8.size)
              have a0 := kA9.cell 0
              have a1 := kA9.cell 1
              have a3 := kA9.cell 3
              simp at a0 a1 a3
              have HKB := Lib.hid kB
              have HLA9 := Lib.hid hla9
              have HB9 := Lib.hid hB9
              have HSA9 := Lib.hid hsa9
              clear hla8 hB8 kA8 hsa8 kB b9 kA9 hsa9 hla9 hB9 hob HA7 HSA HKA HLA7 HB7
              go_wp2_with fail
              generalize (w8.alloc (.cells #[.int .u64 7, .int .u64 0, .int .u64 0, .slice PB 0 cb] 49)) = w9 at a0 a1 a3 HKB HLA9 HB9 HSA9 ⊢
              have z0 := HKB.out.cell 0
              simp at z0
              clear HKB
              obtain ⟨N, hN⟩ : ∃ N, N = ch.length := ⟨_, rfl⟩
              have HNN := Lib.hid hN
              rw [← hN] at a3 hch8
              have hac := HSA9.out.2.1
              rw [← hN] at hac ⊢
              clear hN
              go_loopw [20, 98] (fun sv tv wr => ∃ k X : Nat, k ≤ N ∧ X = D + cht (ch.take k) ∧ sv = .int .u64 (X : Int) ∧ tv = .int .i64 (k : Int) ∧ w9 = wr) (fun _ tv _ => N - (intOf tv).toNat)
              case atStart => exact ⟨0, D, Nat.zero_le _, by simp [cht, tot], rfl, rfl, rfl⟩
              case round =>
                obtain ⟨k, X, hk, hX, rfl, rfl, rfl⟩ := hrel
                have hXl : X ≤ S := by have := cht_take_le ch k; have := HLE.out; have := HD.out; omega
                have HX := Lib.hid hX
                clear hX
                by_cases hlt3 : k < N
                · obtain ⟨_, _, _, h4⟩ := HSA9.out
                  obtain ⟨g, o, rfl, hg, hc⟩ := h4 (by rw [← HNN.out]; omega)
                  obtain ⟨x, hx⟩ : ∃ x, ch[k]? = some x := ⟨_, List.getElem?_eq_getElem (by rw [← HNN.out]; exact hlt3)⟩
                  obtain ⟨c0, c1⟩ := hc k x hx
                  have hT := cht_take_succ hx
                  have hsum : X + x.1 ≤ S := by have := cht_take_le ch (k + 1); have := HX.out; have := HLE.out; have := HD.out; omega
                  have HT := Lib.hid hT
                  clear hT hc hx h4
                  obtain ⟨x1, x2⟩ := x
                  dsimp only at c0 c1 hsum HT
                  have hw : IntKind.u64.wrap ((X : Int) + (x1 : Int)) = ((X + x1 : Nat) : Int) := by rw [IntKind.wrap_u64]; omega
                  go_wp2_with fail
                  go_roundw
                  case rel => exact ⟨k + 1, X + x1, by omega, by rw [HT.out, HX.out]; omega, by go_num, by go_num, by first | rfl | trivial⟩
                  case measure => simp [intOf]; omega
                · have hlt3' : ¬ ((k : Int) < (N : Int)) := by omega
                  have hXe : X = S - min am S := by rw [HX.out, List.take_of_length_le (by rw [← HNN.out]; omega)]; have := HLE.out; have := HD.out; omega
                  subst hXe
                  have htr := treL HLA9.out
                  have hiss := issL HLA9.out hok6
                  have htt : (⟨[⟨f, D, 0, ch⟩, ⟨7, 0, 0, []⟩], min am S, 0⟩ : Ab).tot = f + S + 7 := by
                    have h1 := HLE.out
                    have h2 := HD.out
                    simp [Ab.tot, acT, tot, Ac.all]
                    show min am S + (f + D + cht ch + (7 + cht [])) = _
                    rw [cht_nil]
                    omega
                  rw [htt] at hiss
                  try dsimp only at htr
                  have HTR := Lib.hid htr
                  have HIS := Lib.hid hiss
                  have hSb : bo ≤ S := by have := HSE.out; omega
                  clear htr hiss htt
                  have q6 : IntKind.u64.wrap ((f : Int) + (S : Int) + 7) = (f : Int) + (S : Int) + 7 := by rw [IntKind.wrap_u64]; omega
                  have hd := HD.out
                  clear HLE HX HD
                  rcases Nat.lt_or_ge S am with h1 | h1
                  · have k1 : (S : Int) < (am : Int) := by omega
                    have k2 : (bo : Int) < (am : Int) := by omega
                    have em1 : min am S = S := by omega
                    have em2 : min am bo = bo := by omega
                    have hm1 : min (am : Int) (S : Int) = (S : Int) := by omega
                    have hm2 : min (am : Int) (bo : Int) = (bo : Int) := by omega
                    rw [em2] at hd
                    rw [em1] at HTR ⊢
                    clear em1 em2
                    rw [Nat.sub_self]
                    rw [Nat.sub_self] at hd
                    subst hd
                    go_wp2_with fail
                    refine HTR.out.mono ?_
                    rintro e w10 ⟨rfl, rfl⟩
                    go_wp2_with fail
                    refine HIS.out.mono ?_
                    rintro e w10 ⟨rfl, hb10⟩
                    go_wp2
                    go_ret
                    exact ⟨by simp, HB9.out.trans (hb10.mono HB9.out.size)⟩
                  · rcases Nat.lt_or_ge bo am with h2 | h2
                    · have k1 : ¬ (S : Int) < (am : Int) := by omega
                      have k2 : (bo : Int) < (am : Int) := by omega
                      have em1 : min am S = am := by omega
                      have em2 : min am bo = bo := by omega
                      have hm1 : min (am : Int) (S : Int) = (am : Int) := by omega
                      have hm2 : min (am : Int) (bo : Int) = (bo : Int) := by omega
                      rw [em2] at hd
                      rw [em1] at HTR ⊢
                      clear em1 em2
                      obtain ⟨V, hV⟩ : ∃ V, V = S - am := ⟨_, rfl⟩
                      rw [← hV]
                      have q7 : IntKind.u64.wrap ((S : Int) - (am : Int)) = (V : Int) := by rw [IntKind.wrap_u64]; omega
                      clear hV
                      rw [Nat.sub_self] at hd
                      subst hd
                      go_wp2_with fail
                      refine HTR.out.mono ?_
                      rintro e w10 ⟨rfl, rfl⟩
                      go_wp2_with fail
                      refine HIS.out.mono ?_
                      rintro e w10 ⟨rfl, hb10⟩
                      go_wp2
                      go_ret
                      exact ⟨by simp, HB9.out.trans (hb10.mono HB9.out.size)⟩
                    · have k1 : ¬ (S : Int) < (am : Int) := by omega
                      have k2 : ¬ (bo : Int) < (am : Int) := by omega
                      have em1 : min am S = am := by omega
                      have em2 : min am bo = am := by omega
                      have hm1 : min (am : Int) (S : Int) = (am : Int) := by omega
                      have hm2 : min (am : Int) (bo : Int) = (am : Int) := by omega
                      rw [em2] at hd
                      rw [em1] at HTR ⊢
                      clear em1 em2
                      obtain ⟨V, hV⟩ : ∃ V, V = S - am := ⟨_, rfl⟩
                      rw [← hV]
                      have q7 : IntKind.u64.wrap ((S : Int) - (am : Int)) = (V : Int) := by rw [IntKind.wrap_u64]; omega
                      clear hV
                      have q8 : IntKind.u64.wrap ((bo : Int) - (am : Int)) = (D : Int) := by rw [IntKind.wrap_u64]; omega
                      clear hd
                      go_wp2_with fail
                      refine HTR.out.mono ?_
                      rintro e w10 ⟨rfl, rfl⟩
                      go_wp2_with fail
                      refine HIS.out.mono ?_
                      rintro e w10 ⟨rfl, hb10⟩
                      go_wp2
                      go_ret
                      exact ⟨by simp, HB9.out.trans (hb10.mono HB9.out.size)⟩
end Go.Proofs.Ytahleoidbnlllaa
