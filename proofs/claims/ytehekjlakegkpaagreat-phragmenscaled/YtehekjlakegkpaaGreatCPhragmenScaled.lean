/-
  PROVED: for every snapshot, every number of seats and every factor the law PhragmenScaled returns true: with all stakes so many times as great the same ones are elected, in the same order, with scores as many times less. No conditions.
  The walk of the law PhragmenScaled: it returns true, whatever the snapshot and the numbers, and writes nothing that was there.
  Snapshots that a law makes: voters in a row of the call's own; stakes all so many times as great; a voter more. No program is walked here.
-/
import Derived.Test.YtehekjlakegkpaaGreatX28
import Derived.Test.YtehekjlakegkpaaGreatX31
import Derived.Test.YtehekjlakegkpaaGreatX30
import Derived.Test.YtehekjlakegkpaaGreatRows
import Derived.WalkKit
import Derived.ProofKit
import Derived.OpenShut
import Derived.ShutString
import Derived.ChangeOld
import Derived.Below
import Derived.Lib.SmallJoins
section
namespace Go.Proofs.YtehekjlakegkpaaGreat
open Go.RowKit
set_option linter.unusedVariables false

def Vr.lst (v : Vr) : List Value := [.int .i64 v.id, .int .u64 (v.st : Int), .slice v.a v.n v.c]
def vrC (l : List Vr) : List Value := l.flatMap Vr.lst
theorem vrC_append (l k : List Vr) : vrC (l ++ k) = vrC l ++ vrC k := List.flatMap_append
theorem vrInfo : (Tryz.prog.info? 43).map (fun i => (i.zero, i.size, i.bytes)) = some (some (.agg #[.int .i64 0, .int .u64 0, .slice none 0 0]), 3, 40) := by kernel_rfl
theorem rv_of_own {w : World} {base n c : Nat} {A : Option Addr} {T : TypeId} {l : List Vr} (h : w.ownsRow base T 3 (.slice A n c) n (vrC l)) (hl : l.length = n) (hv : ∀ v ∈ l, v.ok ∧ Ri w v.a v.n v.c v.ps) : Rv w A n c l := by
  subst hl
  have hcap := own_caps h
  refine ⟨rfl, hcap.1, hcap.2, hv, fun h0 => ?_⟩
  obtain ⟨g, c', e, hb, hg, hnc, hc, hi⟩ := ownK_at h h0
  injection e with e1 e2 e3
  refine ⟨g, 0, e1, hg, fun j s hj => ?_⟩
  have hjl := (List.getElem?_eq_some_iff.1 hj).1
  obtain ⟨g', c'', e', _, _, _, _, hi'⟩ := ownK_at h hjl
  injection e' with e1' _ _
  rw [e1] at e1'
  injection e1' with e1'
  injection e1' with e1' _ _
  subst e1'
  have key : ∀ i, i < 3 → w.cell? ⟨g, j * 3 + i, none⟩ = s.lst[i]? := fun i h4 => by
    have := hi' i h4
    unfold vrC at this
    rw [flatK_get 3 Vr.lst (fun _ => rfl) l j i s hj h4] at this
    exact this
  rw [Nat.zero_add]
  exact ⟨key 0 (by omega), key 1 (by omega), key 2 (by omega)⟩
theorem tot_mul (t : Nat) (vs : List Vr) : tot (stk (vs.map (mulV t))) = tot (stk vs) * t := by
  induction vs with
  | nil => simp [stk, tot]
  | cons v vs ih =>
    simp only [stk, List.map_cons, tot] at ih ⊢
    rw [ih, Nat.add_mul]
    rfl
theorem tot_le (M : Nat) (vs : List Vr) (h : ∀ v ∈ vs, v.st ≤ M) : tot (stk vs) ≤ vs.length * M := by
  induction vs with
  | nil => simp [stk, tot]
  | cons v vs ih =>
    have h1 := ih fun u hu => h u (List.mem_cons_of_mem _ hu)
    have h2 := h v List.mem_cons_self
    simp only [stk, List.map_cons, tot, List.length_cons] at h1 ⊢
    rw [Nat.succ_mul]
    omega
theorem fd_mul {vs : List Vr} {cs : List Int} {t : Nat} (h : Fd vs cs) (ht : t < 65536) (hs : ∀ v ∈ vs, v.st ≤ 1099511627776) : Fd (vs.map (mulV t)) cs := by
  obtain ⟨h1, h2, h3, h4, h5, h6⟩ := h
  refine ⟨by rw [List.length_map]; exact h1, h2, fun v hv => ?_, ?_, fun v hv => ?_, ?_⟩
  · obtain ⟨u, hu, rfl⟩ := List.mem_map.1 hv; exact h3 u hu
  · rw [tot_mul]
    have h7 := tot_le 1099511627776 vs hs
    have h8 : tot (stk vs) * t ≤ (32 * 1099511627776) * 65535 := Nat.mul_le_mul (Nat.le_trans h7 (Nat.mul_le_mul_right _ h1)) (by omega)
    omega
  · obtain ⟨u, hu, rfl⟩ := List.mem_map.1 hv; exact h5 u hu
  · have : idl (vs.map (mulV t)) = idl vs := by unfold idl; rw [List.map_map]; rfl
    rw [this]; exact h6
theorem supR_mul {vs : List Vr} {cs : List Int} {t : Nat} (h : Fd vs cs) (h' : Fd (vs.map (mulV t)) cs) (ht : 0 < t) : supR (vs.map (mulV t)) cs = supR vs cs := by
  rw [supR_eq h, supR_eq h']
  refine List.filter_congr fun x _ => ?_
  rw [List.any_map]
  congr 1
  funext v
  exact apv_mul ht v x
theorem fd_front {vs : List Vr} {cs : List Int} {u : Vr} (h : Fd (vs ++ [u]) cs) : Fd vs cs := by
  obtain ⟨h1, h2, h3, h4, h5, h6⟩ := h
  refine ⟨by rw [List.length_append] at h1; omega, h2, fun v hv => h3 v (List.mem_append_left _ hv), ?_, fun v hv => h5 v (List.mem_append_left _ hv), ?_⟩
  · rw [stk, List.map_append, tot_append] at h4
    rw [stk]; omega
  · unfold idl at h6 ⊢
    rw [List.map_append, List.nodup_append] at h6
    exact h6.1
theorem supR_idle {vs : List Vr} {cs : List Int} {u : Vr} (h : Fd (vs ++ [u]) cs) (hu : ∀ c ∈ cs, ¬ apv u c = true) : supR (vs ++ [u]) cs = supR vs cs := by
  rw [supR_eq h, supR_eq (fd_front h)]
  refine List.filter_congr fun x hx => ?_
  rw [List.any_append]
  simp [hu x hx]
theorem mul_es {vs : List Vr} {cs : List Int} {t k : Nat} (h : Fd vs cs) (h' : Fd (vs.map (mulV t)) cs) (ht : 0 < t) {es es' : List Se} (he : es.map Se.out = ((rc0 vs (supR vs cs)).run (min k (supR vs cs).length)).es) (he' : es'.map Se.out = ((rc0 (vs.map (mulV t)) (supR (vs.map (mulV t)) cs)).run (min k (supR (vs.map (mulV t)) cs).length)).es) :
    es'.length = es.length ∧ ∀ (i : Nat) (x y : Se), es[i]? = some x → es'[i]? = some y → y.cd = x.cd ∧ y.x * (t : Rat) = x.x := by
  rw [supR_mul h h' ht, run_mul ht vs _ (supR_nodup h) (supR_some h) _ (Nat.min_le_right _ _)] at he'
  have e : es'.map Se.out = (es.map Se.out).map fun e => (e.1, e.2 / (t : Rat)) := by rw [he', he]; rfl
  have htr : (t : Rat) ≠ 0 := by
    have : t ≠ 0 := by omega
    exact_mod_cast this
  refine ⟨by have := congrArg List.length e; simpa using this, fun i x y hx hy => ?_⟩
  have h1 := congrArg (fun l : List (Int × Rat) => l[i]?) e
  simp only [List.getElem?_map, hx, hy, Option.map_some] at h1
  injection h1 with h1
  have h2 := congrArg Prod.fst h1
  have h3 := congrArg Prod.snd h1
  refine ⟨h2, ?_⟩
  show y.out.2 * (t : Rat) = x.x
  rw [h3]
  exact Rat.div_mul_cancel htr
theorem idle_es {vs : List Vr} {cs : List Int} {u : Vr} {k : Nat} (h : Fd (vs ++ [u]) cs) (hu : ∀ c ∈ cs, ¬ apv u c = true) {es es' : List Se} (he : es.map Se.out = ((rc0 vs (supR vs cs)).run (min k (supR vs cs).length)).es) (he' : es'.map Se.out = ((rc0 (vs ++ [u]) (supR (vs ++ [u]) cs)).run (min k (supR (vs ++ [u]) cs).length)).es) :
    es'.map Se.out = es.map Se.out := by
  have hf := fd_front h
  rw [supR_idle h hu, run_idle vs _ (supR_nodup hf) (supR_some hf) (fun c hc => hu c ((supR_mem hf).1 hc).1) _ (Nat.min_le_right _ _)] at he'
  rw [he', he]
  rfl
theorem wts_idle {u : Vr} {L : List (Int × Rat)} (h : ∀ e ∈ L, ¬ apv u e.1 = true) {a : List Sh} (ha : GivL u L a) : a = [] := ha.nil_iff.2 h
theorem shR_idle {L : List (Int × Rat)} {vs : List Vr} {u : Vr} (hu : ∀ e ∈ L, ¬ apv u e.1 = true) {l : List Sh} (h : ShR L (vs ++ [u]) l) : ShR L vs l := by
  induction vs generalizing l with
  | nil =>
    obtain ⟨a, b, rfl, ha, hb⟩ := h
    rw [wts_idle hu ha, show b = [] from hb]
    rfl
  | cons v vs ih =>
    obtain ⟨a, b, rfl, ha, hb⟩ := h
    exact ⟨a, b, rfl, ha, ih hb⟩
end Go.Proofs.YtehekjlakegkpaaGreat
end
section
namespace Go.Proofs.YtehekjlakegkpaaGreat
open Go.RowKit
set_option linter.unusedVariables false

theorem cmpX_self (x : Rat) : cmpX x x = 0 := by
  unfold cmpX
  rw [if_neg (by grind), if_pos rfl]
set_option maxRecDepth 100000 in
set_option maxHeartbeats 12800000 in
theorem pscaled_walk (s : Sn) (p t : Nat) (w : World) (h : s.In w) (hp : p < 256) (ht : t < 65536) : Calls Tryz.prog 6 #[s.val, .int .u8 (p : Int), .int .u16 (t : Int)] w (OutF w true) := by
  obtain ⟨A, n, c, B, m, d, vs, cs⟩ := s
  have HIN := Lib.hid h
  have HV := Lib.hid h.1
  have HC := Lib.hid h.2
  have hb1 : Below w.heap.size w (w.alloc (.cells #[.slice A n c, .slice B m d] 25)) := (Below.refl _ _).alloc (Nat.le_refl _) _
  have hk1 := KB.new w 25 #[.slice A n c, .slice B m d]
  have HB1 := Lib.hid hb1
  have HK1 := Lib.hid hk1
  have HSM := Lib.hid (fun W g => small_any ⟨A, n, c, B, m, d, vs, cs⟩ W g)
  have HFM := Lib.hid (fun W g => rsnap_any ⟨A, n, c, B, m, d, vs, cs⟩ W g)
  unfold Sn.val at HSM HFM ⊢
  dsimp only at HV HC HSM HFM ⊢
  have HL := Lib.hid HV.out.len
  have HLC := Lib.hid HC.out.len
  have hcap := HV.out.cap
  have hmax := HV.out.max
  have hcap2 := HC.out.cap
  have hmax2 := HC.out.max
  clear h hb1 hk1
  go_enter Tryz.func6, Tryz.ntmps6
  go_wp2_with fail
  refine (wakeP_any _).mono ?_
  rintro e w2 ⟨rfl, hb2⟩
  have HB2 := Lib.hid (HB1.out.trans (hb2.mono HB1.out.size))
  have HK2 := Lib.hid (HK1.out.below hb2 HK1.out.lt)
  have x0 := HK2.out.cell 0
  have x1 := HK2.out.cell 1
  simp at x0 x1
  clear hb2 HB1 HK1
  go_wp2_with fail
  refine (HSM.out w2 (HIN.out.below HB2.out (Nat.le_refl _))).mono ?_
  rintro e w3 ⟨r, rfl, hb3⟩
  have HB3 := Lib.hid (HB2.out.trans (hb3.mono HB2.out.size))
  have HK3 := Lib.hid (HK2.out.below hb3 HK2.out.lt)
  clear hb3 HB2 HK2 x0 x1 HSM
  cases r with
  | false =>
    go_wp2_with fail
    refine (wakeP_any _).mono ?_
    rintro e w4 ⟨rfl, hb4⟩
    go_wp2
    go_ret
    exact ⟨rfl, HB3.out.trans (hb4.mono HB3.out.size)⟩
  | true =>
  have x0 := HK3.out.cell 0
  have x1 := HK3.out.cell 1
  simp at x0 x1
  have hF := HFM.out w3 (HIN.out.below HB3.out (Nat.le_refl _))
  by_cases hfd : Fd vs cs
  case neg =>
    rw [decide_eq_false hfd] at hF
    go_wp2_with fail
    refine hF.mono ?_
    rintro e w4 ⟨rfl, hb4⟩
    have HB4 := Lib.hid (HB3.out.trans (hb4.mono HB3.out.size))
    go_wp2_with fail
    refine (wakeP_any _).mono ?_
    rintro e w5 ⟨rfl, hb5⟩
    go_wp2
    go_ret
    exact ⟨rfl, HB4.out.trans (hb5.mono HB4.out.size)⟩
  rw [decide_eq_true hfd] at hF
  by_cases ht0 : t = 0
  · subst ht0
    go_wp2_with fail
    refine hF.mono ?_
    rintro e w4 ⟨rfl, hb4⟩
    have HB4 := Lib.hid (HB3.out.trans (hb4.mono HB3.out.size))
    go_wp2_with fail
    refine (wakeP_any _).mono ?_
    rintro e w5 ⟨rfl, hb5⟩
    go_wp2
    go_ret
    exact ⟨rfl, HB4.out.trans (hb5.mono HB4.out.size)⟩
  have ht1 : 0 < t := by omega
  have hte : ((t : Int) == 0) = false := by simp; omega
  have hte2 : decide ((t : Int) = 0) = false := by simp; omega
  go_wp2_with fail
  refine hF.mono ?_
  rintro e w4 ⟨rfl, hb4⟩
  have HB4 := Lib.hid (HB3.out.trans (hb4.mono HB3.out.size))
  have HK4 := Lib.hid (HK3.out.below hb4 HK3.out.lt)
  clear hb4 HB3 HK3 x0 x1 HFM hF
  have x0 := HK4.out.cell 0
  have x1 := HK4.out.cell 1
  simp at x0 x1
  have hn32 : n ≤ 32 := by have := hfd.1; have := HL.out; omega
  have hA5 : Below w4.heap.size w4 (w4.alloc (.cells #[.slice none 0 0, .slice B m d] 25)) := (Below.refl _ _).alloc (Nat.le_refl _) _
  have HT5 := Lib.hid (KB.new w4 25 #[.slice none 0 0, .slice B m d])
  have HK5 := Lib.hid (HK4.out.below hA5 HK4.out.lt)
  have HB5 := Lib.hid (HB4.out.trans (hA5.mono HB4.out.size))
  have hg4 := HK4.out.lt
  have hs5 : (w4.alloc (.cells #[.slice none 0 0, .slice B m d] 25)).heap.size = w4.heap.size + 1 := by simp
  clear hA5 HB4 HK4
  go_upto_region 4 with (fail)
  generalize hw5 : w4.alloc (.cells #[.slice none 0 0, .slice B m d] 25) = w5 at *
  generalize hG : w4.heap.size = G at *
  clear x0 x1 hw5
  have x0 := HK5.out.cell 0
  have x1 := HK5.out.cell 1
  simp at x0 x1
  go_wp2_with fail
  clear x0 x1
  go_loopw [44] (fun tv wr => ∃ (k : Nat) (SA : Option Addr) (sc : Nat), k ≤ n ∧ tv = .int .i64 (k : Int) ∧ KB wr w.heap.size 25 #[.slice A n c, .slice B m d] ∧ KB wr G 25 #[.slice SA k sc, .slice B m d] ∧ wr.ownsRow (G + 1) 43 3 (.slice SA k sc) k (vrC ((vs.take k).map (mulV t))) ∧ (∀ v ∈ vs.take k, v.st ≤ 1099511627776) ∧ Below w.heap.size w wr) (fun tv _ => n - (intOf tv).toNat)
  case atStart => exact ⟨0, none, 0, by omega, rfl, HK5.out, HT5.out, World.ownsRow_nil _ _ _ _, fun v hv => by simp at hv, HB5.out⟩
  case round =>
    obtain ⟨k, SA, sc, hk, rfl, hkb, htb, hown, hst, hbw⟩ := hrel
    clear HK5 HT5 HB5
    have HO := Lib.hid hown
    have HST := Lib.hid hst
    have HKB := Lib.hid hkb
    have HTB := Lib.hid htb
    have HBW := Lib.hid hbw
    have x0 := hkb.cell 0
    have x1 := hkb.cell 1
    simp at x0 x1
    have hgl := hkb.lt
    have hGl := htb.lt
    clear hown hst hkb htb
    by_cases hlt : k < n
    · obtain ⟨b, o, v, rfl, hbb, hve, ok, ri, c0, c1, c2⟩ := HV.out.at_ hlt
      have d0 := (hbw.cell (p := ⟨b, o + k * 3, none⟩) hbb).trans c0
      have d1 := (hbw.cell (p := ⟨b, o + k * 3 + 1, none⟩) hbb).trans c1
      have d2 := (hbw.cell (p := ⟨b, o + k * 3 + 2, none⟩) hbb).trans c2
      have htk : vs.take (k + 1) = vs.take k ++ [v] := by rw [List.take_add_one, hve]; rfl
      have HTK := Lib.hid htk
      have hki : (k : Int) < (n : Int) := by omega
      have hA7 : Below wr.heap.size wr (wr.alloc (.cells #[.int .i64 v.id, .int .u64 (v.st : Int), .slice v.a v.n v.c] 43)) := (Below.refl _ _).alloc (Nat.le_refl _) _
      have HY7 := Lib.hid (KB.new wr 43 #[.int .i64 v.id, .int .u64 (v.st : Int), .slice v.a v.n v.c])
      have HK7 := Lib.hid (HKB.out.below hA7 hgl)
      have HT7 := Lib.hid (HTB.out.below hA7 hGl)
      have HO7 := Lib.hid (own_below HO.out hA7 (fun g e => (HO.out.lt _ e).2))
      have HB7 := Lib.hid (hbw.trans (hA7.mono hbw.size))
      have hoq : ∀ g, (Value.slice SA k sc).ownBlock = some g → g ≠ wr.heap.size := fun g e => by have := (HO.out.lt _ e).2; omega
      have HOQ := Lib.hid hoq
      clear c0 c1 c2 hve ok ri hbw htk hA7 hoq HKB HTB HO HBW
      obtain ⟨vi, vst, va, vn, vc, vp⟩ := v
      dsimp only at *
      go_upto_region 8 with (fail)
      generalize hw7 : (wr.alloc (.cells #[.int .i64 vi, .int .u64 (vst : Int), .slice va vn vc] 43)) = w7 at *
      generalize hQ : wr.heap.size = Q at *
      have y0 := HY7.out.cell 0
      have y1 := HY7.out.cell 1
      have y2 := HY7.out.cell 2
      simp at y0 y1 y2
      clear x0 x1 d0 d1 d2 hw7
      by_cases hbig : 1099511627776 < vst
      · have hbi : (1099511627776 : Int) < (vst : Int) := by omega
        go_wp2
        go_ret
        exact ⟨rfl, HB7.out⟩
      have hbi : ¬ (1099511627776 : Int) < (vst : Int) := by omega
      have hmul : vst * t ≤ 1099511627776 * 65535 := Nat.mul_le_mul (by omega) (by omega)
      have hw : IntKind.u64.wrap ((vst : Int) * (t : Int)) = (vst : Int) * (t : Int) := by rw [wrap_u, ← Int.natCast_mul]; omega
      have f1 := HY7.out.frozen 1
      have HY8 := Lib.hid (show KB (w7.setCell ⟨Q, 1, none⟩ (.int .u64 ((vst : Int) * (t : Int)))) Q 43 #[.int .i64 vi, .int .u64 ((vst : Int) * (t : Int)), .slice va vn vc] from by simpa using HY7.out.set 1 (.int .u64 ((vst : Int) * (t : Int))))
      have hQg : w.heap.size ≠ Q := fun e => by have h1 := HK7.out; have h2 := HY7.out; rw [← e] at h2; exact h1.ne h2 (by decide) rfl
      have hQG : G ≠ Q := fun e => by have h1 := HT7.out; have h2 := HY7.out; rw [← e] at h2; exact h1.ne h2 (by decide) rfl
      have HK8 := Lib.hid (HK7.out.far (p := ⟨Q, 1, none⟩) hQg (.int .u64 ((vst : Int) * (t : Int))))
      have HT8 := Lib.hid (HT7.out.far (p := ⟨Q, 1, none⟩) hQG (.int .u64 ((vst : Int) * (t : Int))))
      have HB8 := Lib.hid (HB7.out.setCell (p := ⟨Q, 1, none⟩) (show w.heap.size ≤ Q by omega) (.int .u64 ((vst : Int) * (t : Int))))
      have HO8 := Lib.hid (own_turns HO7.out ((Turns.refl (fun b => b = Q) w7).setCell' (p := ⟨Q, 1, none⟩) rfl (.int .u64 ((vst : Int) * (t : Int)))) (fun g e h => HOQ.out g e h))
      clear hQg hQG hmul
      go_upto_region 11 with (fail)
      generalize hw8 : w7.setCell ⟨Q, 1, none⟩ (.int .u64 ((vst : Int) * (t : Int))) = w8 at *
      clear y0 y1 y2 f1 hw8 HY7 HK7 HT7 HO7 HB7
      have y0 := HY8.out.cell 0
      have y1 := HY8.out.cell 1
      have y2 := HY8.out.cell 2
      have g0 := HT8.out.cell 0
      have g1 := HT8.out.cell 1
      simp at y0 y1 y2 g0 g1
      have hA9 : Below w8.heap.size w8 (w8.alloc (.cells #[.int .i64 vi, .int .u64 ((vst : Int) * (t : Int)), .slice va vn vc] 43)) := (Below.refl _ _).alloc (Nat.le_refl _) _
      have HSR := Lib.hid (Sr.new (sz := 3) w8 43 #[.int .i64 vi, .int .u64 ((vst : Int) * (t : Int)), .slice va vn vc] rfl)
      have HO9 := Lib.hid (own_below HO8.out hA9 (fun g e => (HO8.out.lt _ e).2))
      have HB9 := Lib.hid (HB8.out.trans (hA9.mono HB8.out.size))
      have HK9 := Lib.hid (HK8.out.below hA9 HK8.out.lt)
      have HT9 := Lib.hid (HT8.out.below hA9 HT8.out.lt)
      have hs9 := HT9.out.lt
      have hs9' := HT8.out.lt
      clear hA9
      go_wp2_with (at_builtin; go_loud (refine wpList_appT 3 40 _ 43 rfl (.tmp 62) (.tmp 64) 22 rfl (G + 1) Tryz.underlying22 vrInfo rfl (by decide) (.slice SA k sc) ⟨w8.heap.size, 0, none⟩ k 1 (vrC ((vs.take k).map (mulV t))) [.int .i64 vi, .int .u64 ((vst : Int) * (t : Int)), .slice va vn vc] (by simp [Act.eval]) (by simp [Act.eval]) HO9.out HSR.out (by simp [Value.oneCell']) (by unfold maxLen; omega) (by omega) hs9 ?_); intro A1 c1 w11 o1 t1 h5; have HT11 := Lib.hid (HT9.out.turns t1 (fun e => by have := (HO9.out.lt _ e).1; omega)); have q0 := HT11.out.cell 0; have f2 := HT11.out.frozen 0; go_loud (simp at q0))
      have hGQ : ∀ g, (Value.slice A1 (k + 1) c1).ownBlock = some g → g ≠ G := fun g e => by have := (o1.lt _ e).1; omega
      have hkF := (HK9.out.turns t1 (fun e => by have := (HO9.out.lt _ e).1; omega)).far (p := ⟨G, 0, none⟩) (show w.heap.size ≠ G by omega) (.slice A1 (k + 1) c1)
      have htF : KB (w11.setCell ⟨G, 0, none⟩ (.slice A1 (k + 1) c1)) G 25 #[.slice A1 (k + 1) c1, .slice B m d] := by simpa using HT11.out.set 0 (.slice A1 (k + 1) c1)
      have hoF := own_far o1 (p := ⟨G, 0, none⟩) (show G < G + 1 by omega) (.slice A1 (k + 1) c1)
      have hbF := (HB9.out.trans (t1.below HB9.out.size (fun y hy => by have := (HO9.out.lt _ hy).1; omega))).setCell (p := ⟨G, 0, none⟩) (show w.heap.size ≤ G by omega) (.slice A1 (k + 1) c1)
      have HN := Lib.hid (And.intro hkF (And.intro htF (And.intro hoF hbF)))
      clear o1 t1 h5 hkF htF hoF hbF y0 y1 y2 g0 g1 q0 f2 hGQ
      go_roundw
      case measure => simp [intOf]; omega
      case rel => exact ⟨k + 1, A1, c1, by omega, by go_num, HN.out.1, HN.out.2.1, by rw [HTK.out, List.map_append, vrC_append, show vrC (List.map (mulV t) [⟨vi, vst, va, vn, vc, vp⟩]) = [.int .i64 vi, .int .u64 ((vst : Int) * (t : Int)), .slice va vn vc] from by simp [vrC, Vr.lst, mulV]]; exact HN.out.2.2.1, fun u hu => by
        rw [HTK.out] at hu
        rcases List.mem_append.1 hu with hu | hu
        · exact HST.out u hu
        · obtain rfl := List.mem_singleton.1 hu
          show vst ≤ _
          omega, HN.out.2.2.2⟩
    · obtain rfl : k = n := by omega
      have htk : vs.take k = vs := List.take_of_length_le (by rw [HL.out]; exact Nat.le_refl _)
      rw [htk] at HO HST
      have hrv2 : Rv wr SA k sc (vs.map (mulV t)) := rv_of_own HO.out (by rw [List.length_map]; exact HL.out) (fun v hv => by
        obtain ⟨u, hu, rfl⟩ := List.mem_map.1 hv
        obtain ⟨ok, ri⟩ := HV.out.mem hu
        have h1 := HST.out u hu
        have h2 : u.st * t ≤ 1099511627776 * 65535 := Nat.mul_le_mul h1 (by omega)
        exact ⟨⟨by show u.st * t < _; omega, ok.2⟩, ri.below hbw (Nat.le_refl _)⟩)
      have HR2 := Lib.hid (show Sn.In wr ⟨SA, k, sc, B, m, d, vs.map (mulV t), cs⟩ from ⟨hrv2, HC.out.below hbw (Nat.le_refl _)⟩)
      have hfd2 := fd_mul hfd ht HST.out
      have hk8 : p % 9 ≤ 8 := by omega
      have hEl := elect_ok ⟨A, k, c, B, m, d, vs, cs⟩ (p % 9) wr (HIN.out.below hbw (Nat.le_refl _)) hfd hk8
      have HE2 := Lib.hid (fun W g => elect_ok ⟨SA, k, sc, B, m, d, vs.map (mulV t), cs⟩ (p % 9) W g hfd2 hk8)
      unfold Sn.val at hEl HE2
      dsimp only at hEl HE2
      rw [show ((p % 9 : Nat) : Int) = (p : Int) % 9 by omega] at hEl HE2
      clear hrv2 hbw
      go_wp2_with fail
      refine hEl.mono ?_
      rintro e w6 ⟨EA, ec, es, SB, sd, ss, rfl, hown, hrx, heq, hAl, hSR, hb6⟩
      dsimp only at heq
      obtain ⟨⟨D, hok⟩, hlen⟩ := esOk_of (k := min (p % 9) (supR vs cs).length) hfd (by omega) (Nat.min_le_right _ _)
      rw [← heq] at hok hlen
      rw [List.length_map] at hlen
      have he8 : es.length ≤ 8 := by omega
      have HB6 := Lib.hid hb6
      have HES := Lib.hid (seIn_of hown hrx)
      have hec := own_caps hown
      have HT6 := Lib.hid (HTB.out.below hb6 hGl)
      have HX := Lib.hid (And.intro heq hok)
      clear hEl hown hrx heq hAl hSR hb6 hok hlen x0 x1
      have g0 := HT6.out.cell 0
      have g1 := HT6.out.cell 1
      simp at g0 g1
      go_wp2_with fail
      refine (HE2.out w6 (HR2.out.below HB6.out (Nat.le_refl _))).mono ?_
      rintro e w8 ⟨FA, fc, fs, SB2, sd2, ss2, rfl, hown, hrx, heq, hAl, hSR, hb8⟩
      dsimp only at heq
      obtain ⟨⟨D2, hok2⟩, hlen⟩ := esOk_of (k := min (p % 9) (supR (vs.map (mulV t)) cs).length) hfd2 (by omega) (Nat.min_le_right _ _)
      rw [← heq] at hok2
      obtain ⟨hle, hes⟩ := mul_es hfd hfd2 ht1 HX.out.1 heq
      have HB8 := Lib.hid (HB6.out.trans (hb8.mono HB6.out.size))
      have HFS := Lib.hid (seIn_of hown hrx)
      have hfc := own_caps hown
      have HE8 := Lib.hid (show SeIn w8 EA es.length es from HES.out.below hb8)
      have HLE := Lib.hid (And.intro hle hes)
      have HOK2 := Lib.hid hok2
      rw [hle] at HFS hfc ⊢
      clear hown hrx heq hAl hSR hb8 hok2 hlen g0 g1 HE2 hle hes HES
      go_wp2_with fail
      refine (xof_any t w8 (by omega)).mono ?_
      rintro e w9 ⟨⟨A9, n9, c9, B9, m9, d9⟩, rfl, hf9, hb9⟩
      unfold Fp.val
      dsimp only
      have hA10 : Below w9.heap.size w9 (w9.alloc (.cells #[.slice A9 n9 c9, .slice B9 m9 d9] 38)) := (Below.refl _ _).alloc (Nat.le_refl _) _
      have HS10 := Lib.hid (Bs.new w9 38 (.slice A9 n9 c9) (.slice B9 m9 d9))
      have HB10 := Lib.hid (hb9.trans (hA10.mono hb9.size))
      have HF10 := Lib.hid (hf9.rx.below hA10 (Nat.le_refl _))
      clear hA10 hb9 hf9
      go_wp2_with fail
      generalize hw10 : w9.alloc (.cells #[.slice A9 n9 c9, .slice B9 m9 d9] 38) = w10 at *
      generalize hS : w9.heap.size = S at *
      clear hw10 hS
      have hSl := HS10.out.lt
      generalize wr = wo at *
      go_loopw [107] (fun tv wz => ∃ (i : Nat), i ≤ es.length ∧ tv = .int .i64 (i : Int) ∧ Below w10.heap.size w10 wz) (fun tv _ => es.length - (intOf tv).toNat)
      case atStart => exact ⟨0, by omega, rfl, Below.refl _ _⟩
      case round =>
        obtain ⟨i, hi, rfl, hbz⟩ := hrel
        have HBZ := Lib.hid hbz
        have hb8z := HB10.out.trans (hbz.mono HB10.out.size)
        by_cases hlt2 : i < es.length
        · obtain ⟨⟨xcd, ⟨xA, xn, xc, xB, xm, xd⟩, xx⟩, hx⟩ : ∃ y, es[i]? = some y := ⟨_, List.getElem?_eq_getElem hlt2⟩
          obtain ⟨⟨ycd, ⟨yA, yn, yc, yB, ym, yd⟩, yx⟩, hy⟩ : ∃ y, fs[i]? = some y := ⟨_, List.getElem?_eq_getElem (by rw [HLE.out.1]; exact hlt2)⟩
          obtain ⟨bE, e1, hbE, z0, z1, z2⟩ := HE8.out.at_ i _ hx
          obtain ⟨bF, e2, hbF, u0, u1, u2⟩ := HFS.out.at_ i _ hy
          obtain rfl := e1
          obtain rfl := e2
          have hxr := HE8.out.rx _ (List.mem_of_getElem? hx)
          have hyr := HFS.out.rx _ (List.mem_of_getElem? hy)
          obtain ⟨hcd, hmul⟩ := HLE.out.2 i _ _ hx hy
          dsimp only at z0 z1 z2 u0 u1 u2 hxr hyr hcd hmul
          have hxs : Sm xx := by
            obtain ⟨h1, h2, h3⟩ := HX.out.2.den (xcd, xx) (List.mem_map.2 ⟨_, List.mem_of_getElem? hx, rfl⟩)
            exact x8_sm HX.out.2.pos HX.out.2.le h1 h2
          have hys : Sm yx := by
            obtain ⟨h1, h2, h3⟩ := HOK2.out.den (ycd, yx) (List.mem_map.2 ⟨_, List.mem_of_getElem? hy, rfl⟩)
            exact x8_sm HOK2.out.pos HOK2.out.le h1 h2
          subst hcd
          have hww := hbz.size
          have hSw : S < wr.heap.size := Nat.lt_of_lt_of_le hSl hww
          have HSZ := Lib.hid (HS10.out.below hbz hSl)
          have HKF := Lib.hid (fun W' (hb' : Below wr.heap.size wr W') => (⟨(HSZ.out.below hb' hSw).cells.1, (HSZ.out.below hb' hSw).cells.2, ((hb8z.trans (hb'.mono hb8z.size)).cell (p := ⟨bF, i * 3 + 1, none⟩) hbF).trans u1, ((hb8z.trans (hb'.mono hb8z.size)).cell (p := ⟨bF, i * 3 + 2, none⟩) hbF).trans u2⟩ : _ ∧ _ ∧ _ ∧ _))
          have HKC := Lib.hid (fun W' (hb' : Below w10.heap.size w10 W') => (⟨((HB10.out.trans (hb'.mono HB10.out.size)).cell (p := ⟨bE, i * 3, none⟩) hbE).trans z0, ((HB10.out.trans (hb'.mono HB10.out.size)).cell (p := ⟨bE, i * 3 + 1, none⟩) hbE).trans z1, ((HB10.out.trans (hb'.mono HB10.out.size)).cell (p := ⟨bE, i * 3 + 2, none⟩) hbE).trans z2, ((HB10.out.trans (hb'.mono HB10.out.size)).cell (p := ⟨bF, i * 3, none⟩) hbF).trans u0⟩ : _ ∧ _ ∧ _ ∧ _))
          have hMU := fun W (g1 : RX W ⟨yA, yn, yc, yB, ym, yd⟩ yx) (g2 : RX W ⟨A9, n9, c9, B9, m9, d9⟩ (t : Rat)) => xmul2_any g1 g2 hys (Sm.word (n := t) (by omega))
          rw [hmul] at hMU
          have HMU := Lib.hid hMU
          have HCM := Lib.hid (fun W f (g1 : RX W f xx) (g2 : RX W ⟨xA, xn, xc, xB, xm, xd⟩ xx) => xcmp2_any g1 g2 hxs hxs)
          rw [cmpX_self] at HCM
          unfold Fp.val at HMU HCM
          dsimp only at HMU
          have hAZ : Below wr.heap.size wr (wr.alloc (.cells #[.slice none 0 0, .slice none 0 0] 38)) := (Below.refl _ _).alloc (Nat.le_refl _) _
          have HYR := Lib.hid (hyr.below hb8z (Nat.le_refl _))
          have HXR := Lib.hid (hxr.below HB10.out (Nat.le_refl _))
          have HMR := Lib.hid (HF10.out.below hbz (Nat.le_refl _))
          have HSA := Lib.hid (And.intro (HYR.out.below hAZ (Nat.le_refl _)) (HMR.out.below hAZ (Nat.le_refl _)))
          have K0 := HKF.out wr (Below.refl _ _)
          have K2 := HKF.out _ hAZ
          have hii : (i : Int) < (es.length : Int) := by omega
          clear z0 z1 z2 u0 u1 u2 hxr hyr hMU hbz hb8z hx hy hxs hys hmul hAZ
          go_upto_region 21 with (fail)
          go_region_held3 (fun W' => W'.cell? ⟨S, 0, none⟩ = some (.slice A9 n9 c9) ∧ W'.cell? ⟨S, 1, none⟩ = some (.slice B9 m9 d9) ∧ W'.cell? ⟨bF, i * 3 + 1, none⟩ = some (.slice yA yn yc) ∧ W'.cell? ⟨bF, i * 3 + 2, none⟩ = some (.slice yB ym yd))
            (first | exact K0 | exact K1 | exact K2 | exact K4 | exact K3)
            (first
              | (go_at_call 26; refine (HMU.out _ ?_ ?_).mono ?_; exact (show RX wr _ _ from HYR.out); exact (show RX wr _ _ from HMR.out); rintro e w4 ⟨⟨A4, n4, c4, B4, m4, d4⟩, rfl, hf4, hb4⟩; have HB4 := Lib.hid ((belN wr 0).drew.trans (hb4.mono (Nat.le_refl wr.heap.size))); have hS4 := HSZ.out.below HB4.out hSw; have HN := Lib.hid (fill_a (g := ⟨A9, n9, c9, B9, m9, d9⟩) hS4 hf4); have HNB := Lib.hid (HB4.out.trans (HN.out.2.2.2.mono HB4.out.size)); have K1 := HKF.out w4 HB4.out; have K3 := HKF.out _ (HB4.out.alloc HB4.out.size (.cells #[.slice none 0 0, .slice none 0 0] 38)); have K4 := HKF.out _ HNB.out; clear hb4 hf4; unfold Fp.val; dsimp only)
              | (go_at_call 26; go_loud (refine (HMU.out _ ?_ ?_).mono ?_); go_loud (exact (show RX (wr.alloc (.cells #[.slice none 0 0, .slice none 0 0] 38)) _ _ from HSA.out.1)); go_loud (exact (show RX (wr.alloc (.cells #[.slice none 0 0, .slice none 0 0] 38)) _ _ from HSA.out.2)); go_loud (rintro e w4 ⟨⟨A4, n4, c4, B4, m4, d4⟩, rfl, hf4, hb4⟩); go_loud (have HC := Lib.hid (fill_c (g := ⟨A9, n9, c9, B9, m9, d9⟩) HSZ.out hSw hb4 hf4)); go_loud (have HN := Lib.hid HC.out.2.2); have HNB := Lib.hid HC.out.2.2.2.2.2; have p0 := HC.out.1.cells.1; have p1 := HC.out.1.cells.2; have q0 := HC.out.1.frozen 0; have q1 := HC.out.1.frozen 1; have K1 := HKF.out w4 HC.out.2.1; have K4 := HKF.out _ HNB.out; clear hb4 hf4; unfold Fp.val; dsimp only))
          all_goals
            clear K0 K2
            first
              | (generalize hw5 : w4.alloc (.cells #[.slice A4 n4 c4, .slice B4 m4 d4] 38) = w5 at *; have HB5 := Lib.hid (HBZ.out.trans (HNB.out.mono hww)); have HR5 := Lib.hid HN.out.2.2.1.rx; have HP5 := Lib.hid HN.out.1; clear HN HNB K1 K3 K4 hw5; generalize hP : w4.heap.size = P at *)
              | (generalize hw5 : (w4.setCell ⟨wr.heap.size, 0, none⟩ (.slice A4 n4 c4)).setCell ⟨wr.heap.size, 1, none⟩ (.slice B4 m4 d4) = w5 at *; have HB5 := Lib.hid (HBZ.out.trans (HNB.out.mono hww)); have HR5 := Lib.hid HN.out.2.2.1.rx; have HP5 := Lib.hid HN.out.1; clear HN HNB HC K1 K4 hw5; generalize hP : wr.heap.size = P at *)
            have HKD := Lib.hid (fun W' (hb' : Below w5.heap.size w5 W') => (⟨(HKC.out W' (HB5.out.trans (hb'.mono HB5.out.size))).1, (HKC.out W' (HB5.out.trans (hb'.mono HB5.out.size))).2.1, (HKC.out W' (HB5.out.trans (hb'.mono HB5.out.size))).2.2.1, (HKC.out W' (HB5.out.trans (hb'.mono HB5.out.size))).2.2.2, (HP5.out.below hb' HP5.out.lt).cells.1, (HP5.out.below hb' HP5.out.lt).cells.2⟩ : _ ∧ _ ∧ _ ∧ _ ∧ _ ∧ _))
            have K0 := HKD.out w5 (Below.refl _ _)
            have HXR5 := Lib.hid (HXR.out.below HB5.out (Nat.le_refl _))
            go_upto_region 22 with (fail)
            go_region_held3 (fun W' => W'.cell? ⟨bE, i * 3, none⟩ = some (.int .i64 ycd) ∧ W'.cell? ⟨bE, i * 3 + 1, none⟩ = some (.slice xA xn xc) ∧ W'.cell? ⟨bE, i * 3 + 2, none⟩ = some (.slice xB xm xd) ∧ W'.cell? ⟨bF, i * 3, none⟩ = some (.int .i64 ycd) ∧ W'.cell? ⟨P, 0, none⟩ = some (.slice A4 n4 c4) ∧ W'.cell? ⟨P, 1, none⟩ = some (.slice B4 m4 d4))
              (first | exact K0 | exact K1)
              (first | (go_at_call 15; go_loud (refine (HCM.out _ ⟨A4, n4, c4, B4, m4, d4⟩ ?_ ?_).mono ?_); go_loud (exact HR5.out.drew); go_loud (exact HXR5.out.drew); go_loud (rintro e w6 ⟨rfl, hb6⟩); go_loud (have HB6 := Lib.hid ((Below.refl w5.heap.size w5).drew.trans (hb6.mono (Nat.le_refl w5.heap.size)))); have K1 := HKD.out w6 HB6.out; clear hb6))
            all_goals
              clear K0 K1
              go_wp2
              go_roundw
              case rel => exact ⟨i + 1, by omega, by go_num, HB5.out.trans (HB6.out.mono HB5.out.size)⟩
              case measure => simp [intOf]; omega
        · go_wp2
          go_ret
          exact ⟨rfl, HBW.out.trans ((HB8.out.trans (hb8z.mono HB8.out.size)).mono HBW.out.size)⟩
end Go.Proofs.YtehekjlakegkpaaGreat
end
section
namespace Go.Proofs.YtehekjlakegkpaaGreat.phragmenScaled
open Go.ChangeShapes Go.WideShapes Go.ChangeAt Go.RowKit
open Go.ChangeMaps (open_string shut_string)
set_option linter.unusedVariables false

theorem own : ownKnob Tryz.prog.godebug = none := by kernel_rfl
theorem laidOut : laidOutB Tryz.prog = true := by kernel_rfl

set_option maxRecDepth 100000 in
theorem lifted (os : Os) (started : os.Started) (H : Type) (enc : TypeId × Value → H) :
    ReturnsInHanded {} Tryz.checked os 6 .any (Rows.phragmenScaledSpec.pre6 enc Tryz.prog Tryz.f6 Rows.phragmenScaledRow.domain false) (Rows.phragmenScaledSpec.post enc Tryz.prog Tryz.f6 false true false false) := by
  refine returnsInHanded_of_change (C := Tryz.checked) own started (by kernel_rfl) Tryz.func6
    (ChangeSpec.witness6 (enc := enc) (C := Tryz.checked) false ⟨#[], #[.agg #[.slice none 0 0, .slice none 0 0], .int .u8 0, .int .u16 0], []⟩ 8 (by kernel_rfl) (by kernel_rfl) (by kernel_rfl) (by kernel_rfl)) ?_
  intro W base args ds gs before hval0 hW hcnd _
  have hval : ∀ (j : Nat) t v, Tryz.f6.params[j]? = some t → args[j]? = some v → Value.okWide Tryz.prog W .any base t v := hval0
  have hW' := hW
  obtain ⟨p, q, hA0, hV, rfl, hfz, hnd⟩ := hW
  have hA : DataW.TrodAll enc Tryz.prog W 0 (fun _ => true) true Tryz.f6.params.toList args.toList ds p := hA0
  rw [Tryz.params6] at hA hval
  obtain ⟨v0, vs0, d0, ds0, p0', q0', hargs, rfl, rfl, h0, r0⟩ := trodAll_cons hA
  obtain ⟨v1, vs1, d1, ds1, p1', q1', rfl, rfl, rfl, h1, r1⟩ := trodAll_cons r0
  obtain ⟨v2, vs2, d2, ds2, p2', q2', rfl, rfl, rfl, h2, r2⟩ := trodAll_cons r1
  obtain ⟨rfl, rfl, rfl⟩ := trodAll_nil r2
  obtain rfl : args = #[v0, v1, v2] := by cases args; simp_all
  obtain ⟨rfl, rfl⟩ := trodVars_none hV
  have k0 := h0
  have lt0 : ∀ x ∈ p0', x.block < W.heap.size := by obtain ⟨m, hm⟩ := k0; exact DataW.trod_lt m _ _ _ hm
  obtain ⟨f0, g0, s0', t0, u0, rfl, _, _, hf0, hg0⟩ := Go.Joins.open_agg2 Tryz.underlying25 (by kernel_rfl) (by kernel_rfl) (hval 0 25 v0 rfl rfl) h0
  obtain ⟨A0, n0, c0, vs0', rfl, hv0⟩ := open_rv hf0
  obtain ⟨B0, m0, e0, cs0, rfl, hc0⟩ := open_ri hg0
  obtain ⟨a1, rfl, rfl, rfl, w1⟩ := open_int Tryz.underlying5 (hval 1 5 v1 rfl rfl) h1
  obtain ⟨N1, rfl⟩ := Int.eq_ofNat_of_zero_le (bounds_u8 w1).1
  obtain ⟨a2, rfl, rfl, rfl, w2⟩ := open_int Tryz.underlying67 (hval 2 67 v2 rfl rfl) h2
  obtain ⟨N2, rfl⟩ := Int.eq_ofNat_of_zero_le (bounds_u16 w2).1
  clear hA0 hval0
  refine (pscaled_walk ⟨A0, n0, c0, B0, m0, e0, vs0', cs0⟩ N1 N2 W ⟨hv0, hc0⟩ (by have := (bounds_u8 w1).2; omega) (by have := (bounds_u16 w2).2; omega)).mono fun e W' ⟨he, bel⟩ => ?_
  subst he
  exact ⟨_, rfl, _, _, _, [], _, [], hW', trodAll_mk1 (shut_bool Tryz.underlying4 _), (trodAll_cons_mk (Below.trod laidOut (by kernel_rfl) (of_decide_eq_true (by kernel_rfl)) k0 bel lt0) (trodAll_cons_mk (shut_int Tryz.underlying5 w1) (trodAll_cons_mk (shut_int Tryz.underlying67 w2) trodAll_mk0))), rfl, bel.frame _, fun h => by cases h⟩

theorem over : Rows.phragmenScaledRow.holds Tryz.pinned (OpenSpec.ofChange Rows.phragmenScaledSpec) :=
  OpenClaim.holds_of_wide 6 Tryz.f6 rfl rfl rfl rfl rfl rfl rfl ⟨rfl, rfl, rfl, rfl, rfl⟩ rfl rfl rfl rfl rfl (by kernel_rfl) Tryz.func6 (by kernel_rfl)
    (of_decide_eq_true (by kernel_rfl)) (by unfold Func.isWrapper; first | (rw [if_pos (by decide +kernel)]; kernel_rfl) | (rw [if_neg (by decide +kernel)]; exact ⟨rfl, rfl⟩))
    (fun os started H enc _ => lifted os started H enc)

theorem proved : Rows.PhragmenScaledSaid := over
end Go.Proofs.YtehekjlakegkpaaGreat.phragmenScaled
namespace Go.Proofs.YtehekjlakegkpaaGreat
theorem phragmenScaled_holds : Rows.PhragmenScaledSaid := phragmenScaled.proved
#print axioms phragmenScaled_holds
end Go.Proofs.YtehekjlakegkpaaGreat
end
