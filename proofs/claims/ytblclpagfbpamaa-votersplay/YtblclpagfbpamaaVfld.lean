/-
  filled of package voters: its walk. The conditions stand in each theorem.
-/
import Derived.Test.YtblclpagfbpamaaVfil
namespace Go.Proofs.Ytblclpagfbpamaa
open Go.RowKit Go.Shelf
set_option linter.unusedVariables false
attribute [local go_sem] Oper.semAt_some

theorem SeqU.mono {α : Type} {g : Nat} {lb : Array Value} {encs : α → Array Value} {K0 : Nat → Prop} {Φ Φ' : List α → α → World → Prop} {S S' : List α → World → Prop} {Sp Sp' : List α → Prop} {w : World} (h : SeqU g lb encs K0 Φ S Sp w) (h1 : ∀ pre x W, Φ pre x W → Φ' pre x W) (h2 : ∀ xs W, S xs W → S' xs W) (h3 : ∀ pre, Sp pre → Sp' pre) : SeqU g lb encs K0 Φ' S' Sp' w := by
  intro l J Jx W hW hJ hJx hY h0
  refine (h l J Jx W hW hJ hJx (fun K pre x W1 hp hj => hY K pre x W1 (h1 _ _ _ hp) hj) h0).mono ?_
  rintro e W' ⟨hv, hh⟩
  refine ⟨hv, hh.imp (fun ⟨K, xs, a, b⟩ => ⟨K, xs, h2 _ _ a, b⟩) (fun ⟨pre, a, b⟩ => ⟨pre, h3 _ a, b⟩)⟩

/-- What filled says between two rounds. -/
def FilI (w : World) (K : Nat → Prop) (pre : List Vt) (W : World) : Prop :=
  ∃ fs, FI w w.heap.size K fs W ∧ flatF fs = pairs pre ∧ (∀ f ∈ fs, f.is ≠ []) ∧ fs.length ≤ pre.length ∧ ∀ f ∈ fs, f.is.length ≤ pre.length
theorem FilI.abi {w : World} {C : Nat} (hC : w.heap.size ≤ C) : Abi C (FilI w) :=
  ⟨fun K pre W W' row ⟨fs, h1, h2⟩ hg hr => ⟨fs, h1.turn hC hg hr, h2⟩, fun K pre W W' ⟨fs, h1, h2⟩ hg => ⟨fs, h1.keep hg, h2⟩⟩

/-- The last one is the bag's that is wanted. -/
structure Mid (w : World) (n₀ : Nat) (K : Nat → Prop) (pre : List Vt) (b : Nat) (gs : List Fg) (f : Fg) (gl cl : Nat) (W Wx : World) : Prop where
  fi : FI w w.heap.size K (gs ++ [f]) Wx
  bx : Boxed Wx w.heap.size 107 (.slice (some ⟨gl, 0, none⟩) (gs.length + 1) cl)
  own : Wx.ownsRow w.heap.size 110 2 (.slice (some ⟨gl, 0, none⟩) (gs.length + 1) cl) (gs.length + 1) (fcs (gs ++ [f]))
  nk : ¬ K gl
  fb : f.b = b
  flat : flatF (gs ++ [f]) = pairs pre
  ne : ∀ f ∈ gs, f.is ≠ []
  len : gs.length ≤ pre.length
  il : ∀ f' ∈ gs ++ [f], f'.is.length ≤ pre.length
  kf : KeepsFrom n₀ W Wx
  tu : Turns (fun k => ¬ K k) W Wx
theorem KeepsFrom.rfl' (B : Nat) (W : World) : KeepsFrom B W W := ⟨Nat.le_refl _, fun _ _ _ h _ => h⟩
/-- It was the last already. -/
theorem Mid.of {w : World} {n₀ : Nat} {K : Nat → Prop} {pre : List Vt} {b : Nat} {gs : List Fg} {f : Fg} {W : World} (hFI : FI w w.heap.size K (gs ++ [f]) W) (hb : f.b = b) (hflat : flatF (gs ++ [f]) = pairs pre) (hne : ∀ f' ∈ gs ++ [f], f'.is ≠ []) (hfl : (gs ++ [f]).length ≤ pre.length) (hil : ∀ f' ∈ gs ++ [f], f'.is.length ≤ pre.length) : ∃ gl cl, Mid w n₀ K pre b gs f gl cl W W := by
  obtain ⟨⟨A, c, q1, q2, q3⟩, q4, q5⟩ := hFI.box
  rw [show (gs ++ [f]).length = gs.length + 1 from by simp] at q1 q2 q3 hfl
  rcases own_forms q2 with ⟨_, h0, _⟩ | ⟨g, cap, hv, _⟩
  · omega
  · injection hv with e1 _ e3
    subst e1 e3
    exact ⟨g, c, hFI, q1, q2, q3 g rfl, hb, hflat, fun f' hf' => hne f' (by simp [hf']), by omega, hil, KeepsFrom.rfl' _ _, Turns.refl _ _⟩
/-- It has been put behind them. -/
theorem Mid.put {w : World} {n₀ : Nat} {K : Nat → Prop} {pre : List Vt} {b : Nat} {fs : List Fg} {W Wx : World} (hFI : FI w w.heap.size K (fs ++ [⟨b, [], none, 0⟩]) Wx) (hflat : flatF fs = pairs pre) (hne : ∀ f' ∈ fs, f'.is ≠ []) (hfl : fs.length ≤ pre.length) (hil : ∀ f' ∈ fs, f'.is.length ≤ pre.length) (hkf : KeepsFrom n₀ W Wx) (htu : Turns (fun k => ¬ K k) W Wx) : ∃ gl cl, Mid w n₀ K pre b fs ⟨b, [], none, 0⟩ gl cl W Wx := by
  obtain ⟨⟨A, c, q1, q2, q3⟩, q4, q5⟩ := hFI.box
  rw [show (fs ++ [(⟨b, [], none, 0⟩ : Fg)]).length = fs.length + 1 from by simp] at q1 q2 q3
  rcases own_forms q2 with ⟨_, h0, _⟩ | ⟨g, cap, hv, _⟩
  · omega
  · injection hv with e1 _ e3
    subst e1 e3
    refine ⟨g, c, hFI, q1, q2, q3 g rfl, rfl, ?_, hne, hfl, ?_, hkf, htu⟩
    · rw [flatF_append, hflat]; simp [flatF]
    · intro f' hf'
      rcases List.mem_append.1 hf' with h | h
      · exact hil f' h
      · simp at h; subst h; simp

/-- What filled returns. -/
def FilO (n₀ : Nat) (L : List Vt) (A : Option Addr) (fs : List Fg) (c : Nat) (w' : World) : Prop :=
  w'.ownsRow n₀ 110 2 (.slice A fs.length c) fs.length (fcs fs) ∧ (∀ f ∈ fs, w'.ownsRow n₀ 3 1 f.v f.is.length (ics f.is)) ∧ flatF fs = pairs L ∧ (∀ f ∈ fs, f.is ≠ []) ∧ fs.length ≤ L.length ∧ ∀ f ∈ fs, f.is.length ≤ L.length

set_option maxRecDepth 100000 in
set_option maxHeartbeats 6400000 in
theorem filled_of (p : Option Addr) (w : World) (L : List Vt) (hl : L.length ≤ 1000000) (hbg : ∀ x ∈ L, x.bag ≤ 1000)
    (hseq : SeqU 51 #[.pointer (some ⟨w.heap.size + 1, 0, none⟩)] (fun x : Vt => #[Value.int .i64 (x.bag : Nat), .int .i64 x.id]) (fun k => k ≠ w.heap.size ∧ k < w.heap.size + 2) (fun pre x _ => x ∈ L ∧ pre.length < L.length) (fun ys _ => ys = L) (fun _ => True) ((w.alloc (.cells #[.slice none 0 0] 107)).alloc (.cells #[.pointer p] 25))) :
    Calls Try.prog 57 #[.pointer p] w fun e w' => (∃ A fs c, e = .returned (.slice A fs.length c) ∧ FilO w.heap.size L A fs c w') ∧ Below w.heap.size w w' := by
  obtain ⟨W0, hW0⟩ : ∃ W0, W0 = w.alloc (.cells #[.slice none 0 0] 107) := ⟨_, rfl⟩
  obtain ⟨W1, hW1⟩ : ∃ W1, W1 = W0.alloc (.cells #[.pointer p] 25) := ⟨_, rfl⟩
  have b0 : Below w.heap.size w W0 := by rw [hW0]; exact (Below.refl _ w).alloc (Nat.le_refl _) _
  have z0 : W0.heap.size = w.heap.size + 1 := by rw [hW0]; simp
  have b1 : Below w.heap.size w W1 := by rw [hW1]; exact b0.alloc b0.size _
  have z1 : W1.heap.size = w.heap.size + 2 := by rw [hW1, World.size_alloc, z0]
  have bxL : Boxed W1 w.heap.size 107 (.slice none 0 0) := by rw [hW1, hW0]; exact (Boxed.new w _ _).alloc _
  rw [← hW0, ← hW1] at hseq
  have h0 : FilI w (fun k => k ≠ w.heap.size ∧ k < w.heap.size + 2) [] W1 := ⟨[], ⟨⟨⟨none, 0, bxL, ⟨rfl, .inl ⟨rfl, rfl⟩⟩, fun g e => by cases e⟩, fun hh => hh.1 rfl, fun q hq => by have := hq.2; omega⟩, Rws.nil _ _ _, b1⟩, rfl, by simp, by simp, by simp⟩
  have hIn := callsIn_wide (n := 8) |>.2 (inO_any p W0)
  rw [← hW1] at hIn
  rw [hW0] at hIn
  have HZ := Lib.hid (And.intro z0 z1)
  clear hW0 hW1 z0 z1 b0 bxL b1
  refine (callsIn_wide (n := 9)).1 ?_
  refine callsIn_of_wp_marks Try.func57 rfl trivial ?_ rfl
  simp only [Try.ntmps57, List.size_toArray, List.length_cons, List.length_nil, Nat.reduceAdd, Nat.reduceSub, Array.replicate_succ, Array.replicate_zero, List.push_toArray, List.append_toArray, List.nil_append, List.cons_append]
  gi_wp2_with fail
  refine ⟨trivial, ?_⟩
  refine hIn.mono ?_
  rintro e w3 ⟨rfl, hw3⟩
  rw [hw3]
  clear hIn hw3
  gi_wp2_with fail
  refine range_U (α := Vt) (gf := 51) (lb := #[.pointer (some ⟨w.heap.size + 1, 0, none⟩)]) rfl (enters_of Try.func51 (by kernel_rfl) rfl) hseq (fun k hk => by have := HZ.out.2; omega) (fun _ => rfl) (FilI w) (fun _ _ _ => False) (FilI.abi (by have := HZ.out.2; omega)) (fun _ _ _ _ _ hh _ _ => hh) h0
    (fun x => { tmps := #[.pointer p, undef, .slice none 0 0, .pointer (some ⟨w.heap.size, 0, none⟩), .int .i64 (x.bag : Nat), .int .i64 x.id, undef, .pointer p, .func (.func 51) #[] #[.pointer (some ⟨w.heap.size + 1, 0, none⟩)], .int .i64 (x.bag : Nat), .int .i64 x.id, undef, undef, undef, undef, undef, undef, undef, undef, undef, undef, undef, undef, undef, undef, undef, undef, undef, undef, undef, undef, undef, undef, undef, undef, undef, undef, undef, undef, undef, undef, undef, undef, undef, undef], defers := [] }) ?assign (fun pre x W l o o' h _ _ => h) ?body ?done (fun xs W l o h => .inl h) (fun D c pre W _ _ h _ => h.elim)
  case assign =>
    intro l x W C hC
    gi_wp2
    exact hC
  case body =>
    rintro l K pre x W ⟨hx, hlen⟩ ⟨fs, hFI, hflat, hne, hfl, hil⟩
    have hxb := hbg x hx
    obtain ⟨⟨A, c, q1, q2, q3⟩, q4, q5⟩ := hFI.box
    have cL := q1.cell
    have fL := q1.frozen
    have hfn : fs.length ≤ 1000000 := by omega
    have HF := Lib.hid (And.intro hFI (And.intro hflat (And.intro hne (And.intro hfl (And.intro hil (And.intro q1 (And.intro q2 (And.intro q3 (And.intro q4 q5)))))))))
    clear hFI hflat hne hfl hil q1 q2 q3 q4 q5
    gi_upto_region 5 with (fail)
    rename_i Kx hKx
    have HKX := Lib.hid hKx
    clear hKx
    gi_wp2
    refine HKX.out _ _ ?_
    clear HKX Kx
    gi_step
    gi_cut [6, 13] from 32 (fun s6 s13 wx => ∃ gs f gl cl, s6 = .int .i64 (gs.length : Nat) ∧ Hid (Mid w W1.heap.size K pre x.bag gs f gl cl W wx))
    case first =>
      have b2 : Below W.heap.size W (W.alloc (.cells #[.int .i64 (x.bag : Nat), .slice none 0 0] 110)) := (Below.refl _ W).alloc (Nat.le_refl _) _
      have ho : (W.alloc (.cells #[.int .i64 (x.bag : Nat), .slice none 0 0] 110)).ownsRow w.heap.size 110 2 (.slice A fs.length c) fs.length (fcs fs) := own_below HF.out.2.2.2.2.2.2.1 b2 (fun g e => (HF.out.2.2.2.2.2.2.1.lt g e).2)
      have hsr : Sr 2 (W.alloc (.cells #[.int .i64 (x.bag : Nat), .slice none 0 0] 110)) (some ⟨W.heap.size, 0, none⟩) 1 1 (fcs [⟨x.bag, [], none, 0⟩]) := by
        have := Sr.new (sz := 2) W 110 #[.int .i64 (x.bag : Nat), .slice none 0 0] rfl
        simpa [fcs, Fg.v] using this
      have cL2 : (W.alloc (.cells #[.int .i64 (x.bag : Nat), .slice none 0 0] 110)).cell? ⟨w.heap.size, 0, none⟩ = some (.slice A fs.length c) := (World.cell?_alloc_lt W _ ⟨w.heap.size, 0, none⟩ HF.out.2.2.2.2.2.1.lt).trans cL
      have hbs : w.heap.size ≤ (W.alloc (.cells #[.int .i64 (x.bag : Nat), .slice none 0 0] 110)).heap.size := Nat.le_trans HF.out.1.bel.size b2.size
      have fin : ∀ g c' w1, w1.ownsRow w.heap.size 110 2 (.slice (some ⟨g, 0, none⟩) (fs.length + 1) c') (fs.length + 1) (fcs fs ++ fcs [⟨x.bag, [], none, 0⟩]) → (W.alloc (.cells #[.int .i64 (x.bag : Nat), .slice none 0 0] 110)).grownBy w1 (Value.slice A fs.length c).ownBlock → ((Value.slice A fs.length c).ownBlock = some g ∨ g = (W.alloc (.cells #[.int .i64 (x.bag : Nat), .slice none 0 0] 110)).heap.size) →
          w1.cell? ⟨w.heap.size, 0, none⟩ = some (.slice A fs.length c) ∧ w1.frozen? ⟨w.heap.size, 0, none⟩ = false ∧ ∃ gl cl, Mid w W1.heap.size K pre x.bag fs ⟨x.bag, [], none, 0⟩ gl cl W (w1.setCell ⟨w.heap.size, 0, none⟩ (.slice (some ⟨g, 0, none⟩) (fs.length + 1) c')) := fun g c' w1 o1 g1 hw1 => by
        obtain ⟨r1, r2, r3, r4, r5⟩ := FI.push (Nat.le_refl _) HF.out.1 HF.out.2.2.2.2.2.1 HF.out.2.2.2.2.2.2.1 HF.out.2.2.2.2.2.2.2.1 b2 o1 g1 hw1
        exact ⟨r1, r2, Mid.put r3 HF.out.2.1 HF.out.2.2.1 HF.out.2.2.2.1 HF.out.2.2.2.2.1 (r4.from _) r5⟩
      have FN := Lib.hid fin
      have HO := Lib.hid ho
      have HSR := Lib.hid hsr
      clear fin ho hsr b2
      by_cases hz : fs = []
      · have k1 : ((fs.length : Nat) : Int) - 1 < 0 := by subst hz; simp
        have HZF := Lib.hid hz
        clear hz
        gi_wp2_with (gi_at_builtin; refine wpListIn_appL _ 2 32 _ 110 rfl (.tmp 25) (.tmp 28) 107 rfl w.heap.size Try.underlying107 fiInfo rfl (by decide) A ⟨W.heap.size, 0, none⟩ fs.length c 1 1 (fcs fs) (fcs [⟨x.bag, [], none, 0⟩]) (by simp [Act.eval]) (by simp [Act.eval]) (by omega) HO.out HSR.out (fcs_one _) (by unfold maxLen; omega) (by omega) hbs ?_; intro g c' w1 o1 g1 hw1; obtain ⟨z0, zf, z4⟩ := FN.out g c' w1 o1 g1 hw1; have Z4 := Lib.hid z4; clear o1 g1 hw1 z4)
        gi_meet
        case rel =>
          obtain ⟨gl, cl, hM⟩ := Z4.out
          exact ⟨fs, _, gl, cl, by simp, Lib.hid hM⟩
      · obtain ⟨gs, f, hfs⟩ : ∃ gs f, fs = gs ++ [f] := by
          rcases List.eq_nil_or_concat fs with h | ⟨gs, f, h⟩
          · exact absurd h hz
          · exact ⟨gs, f, by rw [h, List.concat_eq_append]⟩
        have e1 : fs.length = gs.length + 1 := by rw [hfs]; simp
        have hq2 := HF.out.2.2.2.2.2.2.1
        obtain ⟨gl, hA⟩ : ∃ gl, A = some ⟨gl, 0, none⟩ := by
          rcases own_forms hq2 with ⟨_, h0, _⟩ | ⟨g, cap, hv, _⟩
          · omega
          · injection hv with e1 _ e3
            exact ⟨g, e1⟩
        have hcf : W.cell? ⟨gl, gs.length * 2, none⟩ = some (.int .i64 (f.b : Nat)) := by
          rw [hA] at hq2
          rw [hq2.cellAt _ (by omega), hfs, fcs_append, List.getElem?_append_right (by rw [fcs_len]; exact Nat.le_refl _), fcs_len]
          simp [fcs]
        have hcap : fs.length ≤ c ∧ c ≤ maxLen := by
          rcases own_forms hq2 with ⟨_, h0, _⟩ | ⟨g, cap, hv, _, h1, h2, _⟩
          · omega
          · injection hv with _ _ e3
            subst e3
            exact ⟨h1, h2⟩
        have k2 : ((fs.length : Nat) : Int) - 1 = ((gs.length : Nat) : Int) := by omega
        rw [k2]
        have k3 : ¬ (((gs.length : Nat) : Int) < 0) := by omega
        have k4 : ((gs.length : Nat) : Int) < ((fs.length : Nat) : Int) := by omega
        subst hA
        have HQ := Lib.hid hfs
        have HE := Lib.hid (And.intro e1 hcap)
        clear hq2 hfs e1 k2 hcap
        by_cases hb : f.b = x.bag
        · have hbb : ((f.b : Nat) : Int) = ((x.bag : Nat) : Int) := by rw [hb]
          rw [hbb] at hcf
          gi_wp2_with fail
          gi_meet
          case rel =>
            have hfs := HQ.out
            have hF := HF.out
            rw [hfs] at hF
            obtain ⟨gl', cl', hM⟩ := Mid.of (n₀ := W1.heap.size) (b := x.bag) hF.1 hb hF.2.1 hF.2.2.1 hF.2.2.2.1 hF.2.2.2.2.1
            exact ⟨gs, f, gl', cl', rfl, Lib.hid hM⟩
        · have hbb : (((f.b : Nat) : Int) == ((x.bag : Nat) : Int)) = false := by simp; omega
          gi_wp2_with (gi_at_builtin; refine wpListIn_appL _ 2 32 _ 110 rfl (.tmp 25) (.tmp 28) 107 rfl w.heap.size Try.underlying107 fiInfo rfl (by decide) _ ⟨W.heap.size, 0, none⟩ fs.length c 1 1 (fcs fs) (fcs [⟨x.bag, [], none, 0⟩]) (by simp [Act.eval]) (by simp [Act.eval]) (by omega) HO.out HSR.out (fcs_one _) (by unfold maxLen; omega) (by omega) hbs ?_; intro g c' w1 o1 g1 hw1; obtain ⟨z0, zf, z4⟩ := FN.out g c' w1 o1 g1 hw1; have Z4 := Lib.hid z4; clear o1 g1 hw1 z4)
          gi_meet
          case rel =>
            obtain ⟨gl', cl', hM⟩ := Z4.out
            exact ⟨fs, _, gl', cl', by rw [HE.out.1]; simp, Lib.hid hM⟩
    case rest =>
      obtain ⟨gs, f, gl, cl, rfl, HM⟩ := hcut
      have hM := HM.out
      have hgn : gs.length ≤ 1000000 := by have := hM.len; omega
      have cL' := hM.bx.cell
      have hown := hM.own
      obtain ⟨fA, hfA⟩ : ∃ z, z = f.A := ⟨_, rfl⟩
      obtain ⟨fi, hfi⟩ : ∃ z, z = f.is := ⟨_, rfl⟩
      obtain ⟨fn, hfn'⟩ : ∃ z, z = f.is.length := ⟨_, rfl⟩
      obtain ⟨fc, hfc⟩ : ∃ z, z = f.c := ⟨_, rfl⟩
      have hfv : f.v = .slice fA fn fc := by rw [hfA, hfn', hfc]; rfl
      have hfnb : fn ≤ 1000000 := by have := hM.il f (by simp); omega
      have hcap : gs.length + 1 ≤ cl ∧ cl ≤ maxLen := by
        rcases own_forms hown with ⟨_, h0, _⟩ | ⟨g, cap, hv, _, h1, h2, _⟩
        · omega
        · injection hv with _ _ e3
          subst e3
          exact ⟨h1, h2⟩
      have cI : wc.cell? ⟨gl, gs.length * 2 + 1, none⟩ = some (.slice fA fn fc) := by
        rw [hown.cellAt _ (by omega), fcs_append, List.getElem?_append_right (by rw [fcs_len]; omega), fcs_len, show gs.length * 2 + 1 - gs.length * 2 = 1 by omega, ← hfv]
        rfl
      have hlt := hM.bx.lt
      have hgl := (hown.lt gl rfl).2
      have b2 : Below wc.heap.size wc ((wc.drew).alloc (.cells #[.int .i64 x.id] 3)) := ((Below.refl _ wc).drew).alloc (Nat.le_refl _) _
      have hof := hM.fi.rws.own f (by simp)
      rw [hfv, ← hfn', ← hfi] at hof
      have ho : ((wc.drew).alloc (.cells #[.int .i64 x.id] 3)).ownsRow w.heap.size 3 1 (.slice fA fn fc) fn (ics fi) := own_below hof b2 (fun g e => (hof.lt g e).2)
      have hsr : Sr 1 ((wc.drew).alloc (.cells #[.int .i64 x.id] 3)) (some ⟨wc.heap.size, 0, none⟩) 1 1 (ics [x.id]) := by
        have := Sr.new (sz := 1) wc.drew 3 #[.int .i64 x.id] rfl
        simpa [ics] using this
      have cL2 : (wc.alloc (.cells #[.int .i64 x.id] 3)).cell? ⟨w.heap.size, 0, none⟩ = some (.slice (some ⟨gl, 0, none⟩) (gs.length + 1) cl) := (World.cell?_alloc_lt wc _ ⟨w.heap.size, 0, none⟩ hlt).trans cL'
      have cI2 : (wc.alloc (.cells #[.int .i64 x.id] 3)).cell? ⟨gl, gs.length * 2 + 1, none⟩ = some (.slice fA fn fc) := (World.cell?_alloc_lt wc _ ⟨gl, gs.length * 2 + 1, none⟩ hgl).trans cI
      have hbs : w.heap.size ≤ ((wc.drew).alloc (.cells #[.int .i64 x.id] 3)).heap.size := Nat.le_trans hM.fi.bel.size b2.size
      have fin : ∀ g c' w1, w1.ownsRow w.heap.size 3 1 (.slice (some ⟨g, 0, none⟩) (fn + 1) c') (fn + 1) (ics fi ++ ics [x.id]) → ((wc.drew).alloc (.cells #[.int .i64 x.id] 3)).grownBy w1 (Value.slice fA fn fc).ownBlock → ((Value.slice fA fn fc).ownBlock = some g ∨ g = ((wc.drew).alloc (.cells #[.int .i64 x.id] 3)).heap.size) →
          w1.cell? ⟨w.heap.size, 0, none⟩ = some (.slice (some ⟨gl, 0, none⟩) (gs.length + 1) cl) ∧ (∃ u, w1.cell? ⟨gl, gs.length * 2 + 1, none⟩ = some u) ∧ w1.frozen? ⟨gl, gs.length * 2 + 1, none⟩ = false ∧
          KeepsFrom W1.heap.size W (w1.setCell ⟨gl, gs.length * 2 + 1, none⟩ (.slice (some ⟨g, 0, none⟩) (fn + 1) c')) ∧ Turns (fun k => ¬ K k) W (w1.setCell ⟨gl, gs.length * 2 + 1, none⟩ (.slice (some ⟨g, 0, none⟩) (fn + 1) c')) ∧ FilI w K (pre ++ [x]) (w1.setCell ⟨gl, gs.length * 2 + 1, none⟩ (.slice (some ⟨g, 0, none⟩) (fn + 1) c')) := fun g c' w1 o1 g1 hw1 => by
        rw [← hfv] at g1 hw1
        rw [hfi, hfn'] at o1
        obtain ⟨r1, r2, r3, r4, r5, r6⟩ := FI.add (Nat.le_refl _) hM.fi hM.bx hown hM.nk b2 o1 g1 hw1
        rw [← hfn'] at r4 r5 r6
        refine ⟨r1, r2, r3, hM.kf.trans (r5.from _), hM.tu.trans r6 (fun _ => .inl), _, r4, ?_, ?_, ?_, ?_⟩
        · have := hM.flat
          rw [flatF_append] at this
          rw [flatF_append, pairs, List.map_append, ← pairs, ← this]
          simp [flatF, hM.fb]
        · intro f' hf'
          rcases List.mem_append.1 hf' with h | h
          · exact hM.ne f' h
          · simp at h; subst h; simp
        · have := hM.len
          simp; omega
        · intro f' hf'
          rcases List.mem_append.1 hf' with h | h
          · have := hM.il f' (by simp [h]); simp; omega
          · have := hM.il f (by simp)
            simp at h; subst h; simp; omega
      have FN := Lib.hid fin
      have HO := Lib.hid ho
      have HSR := Lib.hid hsr
      have hk : ((gs.length : Nat) : Int) < ((gs.length + 1 : Nat) : Int) := by omega
      clear fin ho hsr b2 hof hown hM hfv hfA hfi hfn' hfc
      gi_step
      refine region_inRound (by kernel_rfl) ?_
      refine wpAnyIn_take (i := 1) (v := .int .i64 (gs.length : Nat)) rfl rfl (by kernel_rfl) (by kernel_rfl) (by kernel_rfl) (fun _ _ _ h => h) ⟨Or.inl ⟨by rfl, (by intro w; go_simp; try (intro h; omega))⟩, fun _ => rfl⟩ ?_
      refine wpAnyIn_take (i := 3) (v := .int .i64 (gs.length : Nat)) rfl rfl (by kernel_rfl) (by kernel_rfl) (by kernel_rfl) (fun _ _ _ h => h) ⟨Or.inl ⟨by rfl, (by intro w; go_simp; try (intro h; omega))⟩, fun _ => rfl⟩ ?_
      refine wpAnyIn_take (i := 7) (v := .int .i64 x.id) rfl rfl (by kernel_rfl) (by kernel_rfl) (by kernel_rfl) (fun _ _ _ h => h) ⟨Or.inl ⟨by rfl, (by intro w; go_simp; try (intro h; omega))⟩, fun _ => rfl⟩ ?_
      refine wpAnyIn_ready (rs := [0, 2, 8]) (by kernel_rfl) (by simp) ?_
      refine AllReadyIn.cons rfl (fun K' hK => ?_) (AllReadyIn.cons rfl (fun K' hK => ?_) (AllReadyIn.cons rfl (fun K' hK => ?_) AllReadyIn.nil))
      · go_simp
        refine hK _ _ ?_
        clear hK K'
        refine wpAnyIn_ready (rs := [2, 8]) (by kernel_rfl) (by simp) ?_
        refine AllReadyIn.cons rfl (fun K' hK => ?_) (AllReadyIn.cons rfl (fun K' hK => ?_) AllReadyIn.nil)
        · go_simp
          refine hK _ _ ?_
          clear hK K'
          refine wpAnyIn_take (i := 4) (v := .pointer (some ⟨gl, gs.length * 2, none⟩)) rfl rfl (by kernel_rfl) (by kernel_rfl) (by kernel_rfl) (fun _ _ _ h => h) ⟨Or.inl ⟨by rfl, (by intro w; go_simp; try (intro h; omega))⟩, fun _ => rfl⟩ ?_
          refine wpAnyIn_take (i := 5) (v := .pointer (some ⟨gl, gs.length * 2 + 1, none⟩)) rfl rfl (by kernel_rfl) (by kernel_rfl) (by kernel_rfl) (fun _ _ _ h => h) ⟨Or.inl ⟨by rfl, (by intro w; go_simp; try (intro h; omega))⟩, fun _ => rfl⟩ ?_
          refine wpAnyIn_ready (rs := [6, 8]) (by kernel_rfl) (by simp) ?_
          refine AllReadyIn.cons rfl (fun K' hK => ?_) (AllReadyIn.cons rfl (fun K' hK => ?_) AllReadyIn.nil)
          · go_simp
            refine hK _ _ ?_
            clear hK K'
            refine wpAnyIn_ready (rs := [8]) (by kernel_rfl) (by simp) ?_
            refine AllReadyIn.cons rfl (fun K' hK => ?_) AllReadyIn.nil
            go_simp
            refine hK _ _ ?_
            clear hK K'
            refine wpAnyIn_ready (rs := [9]) (by kernel_rfl) (by simp) ?_
            refine AllReadyIn.cons rfl (fun K' hK => ?_) AllReadyIn.nil
            (refine stepIn_appL _ 1 8 _ 3 rfl (.tmp 38) (.tmp 40) 44 rfl w.heap.size Try.underlying44 intInfo rfl (by decide) fA ⟨wc.heap.size, 0, none⟩ fn fc 1 1 (ics fi) (ics [x.id]) (by simp [Act.eval]) (by simp [Act.eval]) (by omega) HO.out HSR.out (ics_one _) (by unfold maxLen; omega) (by omega) hbs ?_; intro g c' w1 o1 g1 hw1; obtain ⟨z0, ⟨zu, z1⟩, zf, z4⟩ := FN.out g c' w1 o1 g1 hw1; have Z4 := Lib.hid z4; clear o1 g1 hw1 z4; try go_simp)
            refine hK _ _ ?_
            clear hK K'
            refine wpAnyIn_take (i := 10) (v := .pointer (some ⟨gl, gs.length * 2, none⟩)) rfl rfl (by kernel_rfl) (by kernel_rfl) (by kernel_rfl) (fun _ _ _ h => h) ⟨Or.inl ⟨by rfl, (by intro w; go_simp; try (intro h; omega))⟩, fun _ => rfl⟩ ?_
            refine wpAnyIn_take (i := 11) (v := .pointer (some ⟨gl, gs.length * 2 + 1, none⟩)) rfl rfl (by kernel_rfl) (by kernel_rfl) (by kernel_rfl) (fun _ _ _ h => h) ⟨Or.inl ⟨by rfl, (by intro w; go_simp; try (intro h; omega))⟩, fun _ => rfl⟩ ?_
            refine wpAnyIn_ready (rs := [12]) (by kernel_rfl) (by simp) ?_
            refine AllReadyIn.cons rfl (fun K' hK => ?_) AllReadyIn.nil
            go_simp
            refine hK _ _ ?_
            clear hK K'
            refine wpAnyIn_done (by kernel_rfl) ?_ _
            exact Z4.out
          · go_simp
            refine hK _ _ ?_
            clear hK K'
            refine wpAnyIn_ready (rs := [6]) (by kernel_rfl) (by simp) ?_
            refine AllReadyIn.cons rfl (fun K' hK => ?_) AllReadyIn.nil
            go_simp
            refine hK _ _ ?_
            clear hK K'
            refine wpAnyIn_ready (rs := [9]) (by kernel_rfl) (by simp) ?_
            refine AllReadyIn.cons rfl (fun K' hK => ?_) AllReadyIn.nil
            (refine stepIn_appL _ 1 8 _ 3 rfl (.tmp 38) (.tmp 40) 44 rfl w.heap.size Try.underlying44 intInfo rfl (by decide) fA ⟨wc.heap.size, 0, none⟩ fn fc 1 1 (ics fi) (ics [x.id]) (by simp [Act.eval]) (by simp [Act.eval]) (by omega) HO.out HSR.out (ics_one _) (by unfold maxLen; omega) (by omega) hbs ?_; intro g c' w1 o1 g1 hw1; obtain ⟨z0, ⟨zu, z1⟩, zf, z4⟩ := FN.out g c' w1 o1 g1 hw1; have Z4 := Lib.hid z4; clear o1 g1 hw1 z4; try go_simp)
            refine hK _ _ ?_
            clear hK K'
            refine wpAnyIn_take (i := 10) (v := .pointer (some ⟨gl, gs.length * 2, none⟩)) rfl rfl (by kernel_rfl) (by kernel_rfl) (by kernel_rfl) (fun _ _ _ h => h) ⟨Or.inl ⟨by rfl, (by intro w; go_simp; try (intro h; omega))⟩, fun _ => rfl⟩ ?_
            refine wpAnyIn_take (i := 11) (v := .pointer (some ⟨gl, gs.length * 2 + 1, none⟩)) rfl rfl (by kernel_rfl) (by kernel_rfl) (by kernel_rfl) (fun _ _ _ h => h) ⟨Or.inl ⟨by rfl, (by intro w; go_simp; try (intro h; omega))⟩, fun _ => rfl⟩ ?_
            refine wpAnyIn_ready (rs := [12]) (by kernel_rfl) (by simp) ?_
            refine AllReadyIn.cons rfl (fun K' hK => ?_) AllReadyIn.nil
            go_simp
            refine hK _ _ ?_
            clear hK K'
            refine wpAnyIn_done (by kernel_rfl) ?_ _
            exact Z4.out
        · go_simp
          refine hK _ _ ?_
          clear hK K'
          refine wpAnyIn_ready (rs := [2]) (by kernel_rfl) (by simp) ?_
          refine AllReadyIn.cons rfl (fun K' hK => ?_) AllReadyIn.nil
          go_simp
          refine hK _ _ ?_
          clear hK K'
          refine wpAnyIn_take (i := 4) (v := .pointer (some ⟨gl, gs.length * 2, none⟩)) rfl rfl (by kernel_rfl) (by kernel_rfl) (by kernel_rfl) (fun _ _ _ h => h) ⟨Or.inl ⟨by rfl, (by intro w; go_simp; try (intro h; omega))⟩, fun _ => rfl⟩ ?_
          refine wpAnyIn_take (i := 5) (v := .pointer (some ⟨gl, gs.length * 2 + 1, none⟩)) rfl rfl (by kernel_rfl) (by kernel_rfl) (by kernel_rfl) (fun _ _ _ h => h) ⟨Or.inl ⟨by rfl, (by intro w; go_simp; try (intro h; omega))⟩, fun _ => rfl⟩ ?_
          refine wpAnyIn_ready (rs := [6]) (by kernel_rfl) (by simp) ?_
          refine AllReadyIn.cons rfl (fun K' hK => ?_) AllReadyIn.nil
          go_simp
          refine hK _ _ ?_
          clear hK K'
          refine wpAnyIn_ready (rs := [9]) (by kernel_rfl) (by simp) ?_
          refine AllReadyIn.cons rfl (fun K' hK => ?_) AllReadyIn.nil
          (refine stepIn_appL _ 1 8 _ 3 rfl (.tmp 38) (.tmp 40) 44 rfl w.heap.size Try.underlying44 intInfo rfl (by decide) fA ⟨wc.heap.size, 0, none⟩ fn fc 1 1 (ics fi) (ics [x.id]) (by simp [Act.eval]) (by simp [Act.eval]) (by omega) HO.out HSR.out (ics_one _) (by unfold maxLen; omega) (by omega) hbs ?_; intro g c' w1 o1 g1 hw1; obtain ⟨z0, ⟨zu, z1⟩, zf, z4⟩ := FN.out g c' w1 o1 g1 hw1; have Z4 := Lib.hid z4; clear o1 g1 hw1 z4; try go_simp)
          refine hK _ _ ?_
          clear hK K'
          refine wpAnyIn_take (i := 10) (v := .pointer (some ⟨gl, gs.length * 2, none⟩)) rfl rfl (by kernel_rfl) (by kernel_rfl) (by kernel_rfl) (fun _ _ _ h => h) ⟨Or.inl ⟨by rfl, (by intro w; go_simp; try (intro h; omega))⟩, fun _ => rfl⟩ ?_
          refine wpAnyIn_take (i := 11) (v := .pointer (some ⟨gl, gs.length * 2 + 1, none⟩)) rfl rfl (by kernel_rfl) (by kernel_rfl) (by kernel_rfl) (fun _ _ _ h => h) ⟨Or.inl ⟨by rfl, (by intro w; go_simp; try (intro h; omega))⟩, fun _ => rfl⟩ ?_
          refine wpAnyIn_ready (rs := [12]) (by kernel_rfl) (by simp) ?_
          refine AllReadyIn.cons rfl (fun K' hK => ?_) AllReadyIn.nil
          go_simp
          refine hK _ _ ?_
          clear hK K'
          refine wpAnyIn_done (by kernel_rfl) ?_ _
          exact Z4.out
      · go_simp
        refine hK _ _ ?_
        clear hK K'
        refine wpAnyIn_take (i := 4) (v := .pointer (some ⟨gl, gs.length * 2, none⟩)) rfl rfl (by kernel_rfl) (by kernel_rfl) (by kernel_rfl) (fun _ _ _ h => h) ⟨Or.inl ⟨by rfl, (by intro w; go_simp; try (intro h; omega))⟩, fun _ => rfl⟩ ?_
        refine wpAnyIn_take (i := 5) (v := .pointer (some ⟨gl, gs.length * 2 + 1, none⟩)) rfl rfl (by kernel_rfl) (by kernel_rfl) (by kernel_rfl) (fun _ _ _ h => h) ⟨Or.inl ⟨by rfl, (by intro w; go_simp; try (intro h; omega))⟩, fun _ => rfl⟩ ?_
        refine wpAnyIn_ready (rs := [0, 6, 8]) (by kernel_rfl) (by simp) ?_
        refine AllReadyIn.cons rfl (fun K' hK => ?_) (AllReadyIn.cons rfl (fun K' hK => ?_) (AllReadyIn.cons rfl (fun K' hK => ?_) AllReadyIn.nil))
        · go_simp
          refine hK _ _ ?_
          clear hK K'
          refine wpAnyIn_ready (rs := [6, 8]) (by kernel_rfl) (by simp) ?_
          refine AllReadyIn.cons rfl (fun K' hK => ?_) (AllReadyIn.cons rfl (fun K' hK => ?_) AllReadyIn.nil)
          · go_simp
            refine hK _ _ ?_
            clear hK K'
            refine wpAnyIn_ready (rs := [8]) (by kernel_rfl) (by simp) ?_
            refine AllReadyIn.cons rfl (fun K' hK => ?_) AllReadyIn.nil
            go_simp
            refine hK _ _ ?_
            clear hK K'
            refine wpAnyIn_ready (rs := [9]) (by kernel_rfl) (by simp) ?_
            refine AllReadyIn.cons rfl (fun K' hK => ?_) AllReadyIn.nil
            (refine stepIn_appL _ 1 8 _ 3 rfl (.tmp 38) (.tmp 40) 44 rfl w.heap.size Try.underlying44 intInfo rfl (by decide) fA ⟨wc.heap.size, 0, none⟩ fn fc 1 1 (ics fi) (ics [x.id]) (by simp [Act.eval]) (by simp [Act.eval]) (by omega) HO.out HSR.out (ics_one _) (by unfold maxLen; omega) (by omega) hbs ?_; intro g c' w1 o1 g1 hw1; obtain ⟨z0, ⟨zu, z1⟩, zf, z4⟩ := FN.out g c' w1 o1 g1 hw1; have Z4 := Lib.hid z4; clear o1 g1 hw1 z4; try go_simp)
            refine hK _ _ ?_
            clear hK K'
            refine wpAnyIn_take (i := 10) (v := .pointer (some ⟨gl, gs.length * 2, none⟩)) rfl rfl (by kernel_rfl) (by kernel_rfl) (by kernel_rfl) (fun _ _ _ h => h) ⟨Or.inl ⟨by rfl, (by intro w; go_simp; try (intro h; omega))⟩, fun _ => rfl⟩ ?_
            refine wpAnyIn_take (i := 11) (v := .pointer (some ⟨gl, gs.length * 2 + 1, none⟩)) rfl rfl (by kernel_rfl) (by kernel_rfl) (by kernel_rfl) (fun _ _ _ h => h) ⟨Or.inl ⟨by rfl, (by intro w; go_simp; try (intro h; omega))⟩, fun _ => rfl⟩ ?_
            refine wpAnyIn_ready (rs := [12]) (by kernel_rfl) (by simp) ?_
            refine AllReadyIn.cons rfl (fun K' hK => ?_) AllReadyIn.nil
            go_simp
            refine hK _ _ ?_
            clear hK K'
            refine wpAnyIn_done (by kernel_rfl) ?_ _
            exact Z4.out
          · go_simp
            refine hK _ _ ?_
            clear hK K'
            refine wpAnyIn_ready (rs := [6]) (by kernel_rfl) (by simp) ?_
            refine AllReadyIn.cons rfl (fun K' hK => ?_) AllReadyIn.nil
            go_simp
            refine hK _ _ ?_
            clear hK K'
            refine wpAnyIn_ready (rs := [9]) (by kernel_rfl) (by simp) ?_
            refine AllReadyIn.cons rfl (fun K' hK => ?_) AllReadyIn.nil
            (refine stepIn_appL _ 1 8 _ 3 rfl (.tmp 38) (.tmp 40) 44 rfl w.heap.size Try.underlying44 intInfo rfl (by decide) fA ⟨wc.heap.size, 0, none⟩ fn fc 1 1 (ics fi) (ics [x.id]) (by simp [Act.eval]) (by simp [Act.eval]) (by omega) HO.out HSR.out (ics_one _) (by unfold maxLen; omega) (by omega) hbs ?_; intro g c' w1 o1 g1 hw1; obtain ⟨z0, ⟨zu, z1⟩, zf, z4⟩ := FN.out g c' w1 o1 g1 hw1; have Z4 := Lib.hid z4; clear o1 g1 hw1 z4; try go_simp)
            refine hK _ _ ?_
            clear hK K'
            refine wpAnyIn_take (i := 10) (v := .pointer (some ⟨gl, gs.length * 2, none⟩)) rfl rfl (by kernel_rfl) (by kernel_rfl) (by kernel_rfl) (fun _ _ _ h => h) ⟨Or.inl ⟨by rfl, (by intro w; go_simp; try (intro h; omega))⟩, fun _ => rfl⟩ ?_
            refine wpAnyIn_take (i := 11) (v := .pointer (some ⟨gl, gs.length * 2 + 1, none⟩)) rfl rfl (by kernel_rfl) (by kernel_rfl) (by kernel_rfl) (fun _ _ _ h => h) ⟨Or.inl ⟨by rfl, (by intro w; go_simp; try (intro h; omega))⟩, fun _ => rfl⟩ ?_
            refine wpAnyIn_ready (rs := [12]) (by kernel_rfl) (by simp) ?_
            refine AllReadyIn.cons rfl (fun K' hK => ?_) AllReadyIn.nil
            go_simp
            refine hK _ _ ?_
            clear hK K'
            refine wpAnyIn_done (by kernel_rfl) ?_ _
            exact Z4.out
        · go_simp
          refine hK _ _ ?_
          clear hK K'
          refine wpAnyIn_ready (rs := [0, 8]) (by kernel_rfl) (by simp) ?_
          refine AllReadyIn.cons rfl (fun K' hK => ?_) (AllReadyIn.cons rfl (fun K' hK => ?_) AllReadyIn.nil)
          · go_simp
            refine hK _ _ ?_
            clear hK K'
            refine wpAnyIn_ready (rs := [8]) (by kernel_rfl) (by simp) ?_
            refine AllReadyIn.cons rfl (fun K' hK => ?_) AllReadyIn.nil
            go_simp
            refine hK _ _ ?_
            clear hK K'
            refine wpAnyIn_ready (rs := [9]) (by kernel_rfl) (by simp) ?_
            refine AllReadyIn.cons rfl (fun K' hK => ?_) AllReadyIn.nil
            (refine stepIn_appL _ 1 8 _ 3 rfl (.tmp 38) (.tmp 40) 44 rfl w.heap.size Try.underlying44 intInfo rfl (by decide) fA ⟨wc.heap.size, 0, none⟩ fn fc 1 1 (ics fi) (ics [x.id]) (by simp [Act.eval]) (by simp [Act.eval]) (by omega) HO.out HSR.out (ics_one _) (by unfold maxLen; omega) (by omega) hbs ?_; intro g c' w1 o1 g1 hw1; obtain ⟨z0, ⟨zu, z1⟩, zf, z4⟩ := FN.out g c' w1 o1 g1 hw1; have Z4 := Lib.hid z4; clear o1 g1 hw1 z4; try go_simp)
            refine hK _ _ ?_
            clear hK K'
            refine wpAnyIn_take (i := 10) (v := .pointer (some ⟨gl, gs.length * 2, none⟩)) rfl rfl (by kernel_rfl) (by kernel_rfl) (by kernel_rfl) (fun _ _ _ h => h) ⟨Or.inl ⟨by rfl, (by intro w; go_simp; try (intro h; omega))⟩, fun _ => rfl⟩ ?_
            refine wpAnyIn_take (i := 11) (v := .pointer (some ⟨gl, gs.length * 2 + 1, none⟩)) rfl rfl (by kernel_rfl) (by kernel_rfl) (by kernel_rfl) (fun _ _ _ h => h) ⟨Or.inl ⟨by rfl, (by intro w; go_simp; try (intro h; omega))⟩, fun _ => rfl⟩ ?_
            refine wpAnyIn_ready (rs := [12]) (by kernel_rfl) (by simp) ?_
            refine AllReadyIn.cons rfl (fun K' hK => ?_) AllReadyIn.nil
            go_simp
            refine hK _ _ ?_
            clear hK K'
            refine wpAnyIn_done (by kernel_rfl) ?_ _
            exact Z4.out
          · go_simp
            refine hK _ _ ?_
            clear hK K'
            refine wpAnyIn_ready (rs := [0, 9]) (by kernel_rfl) (by simp) ?_
            refine AllReadyIn.cons rfl (fun K' hK => ?_) (AllReadyIn.cons rfl (fun K' hK => ?_) AllReadyIn.nil)
            · go_simp
              refine hK _ _ ?_
              clear hK K'
              refine wpAnyIn_ready (rs := [9]) (by kernel_rfl) (by simp) ?_
              refine AllReadyIn.cons rfl (fun K' hK => ?_) AllReadyIn.nil
              (refine stepIn_appL _ 1 8 _ 3 rfl (.tmp 38) (.tmp 40) 44 rfl w.heap.size Try.underlying44 intInfo rfl (by decide) fA ⟨wc.heap.size, 0, none⟩ fn fc 1 1 (ics fi) (ics [x.id]) (by simp [Act.eval]) (by simp [Act.eval]) (by omega) HO.out HSR.out (ics_one _) (by unfold maxLen; omega) (by omega) hbs ?_; intro g c' w1 o1 g1 hw1; obtain ⟨z0, ⟨zu, z1⟩, zf, z4⟩ := FN.out g c' w1 o1 g1 hw1; have Z4 := Lib.hid z4; clear o1 g1 hw1 z4; try go_simp)
              refine hK _ _ ?_
              clear hK K'
              refine wpAnyIn_take (i := 10) (v := .pointer (some ⟨gl, gs.length * 2, none⟩)) rfl rfl (by kernel_rfl) (by kernel_rfl) (by kernel_rfl) (fun _ _ _ h => h) ⟨Or.inl ⟨by rfl, (by intro w; go_simp; try (intro h; omega))⟩, fun _ => rfl⟩ ?_
              refine wpAnyIn_take (i := 11) (v := .pointer (some ⟨gl, gs.length * 2 + 1, none⟩)) rfl rfl (by kernel_rfl) (by kernel_rfl) (by kernel_rfl) (fun _ _ _ h => h) ⟨Or.inl ⟨by rfl, (by intro w; go_simp; try (intro h; omega))⟩, fun _ => rfl⟩ ?_
              refine wpAnyIn_ready (rs := [12]) (by kernel_rfl) (by simp) ?_
              refine AllReadyIn.cons rfl (fun K' hK => ?_) AllReadyIn.nil
              go_simp
              refine hK _ _ ?_
              clear hK K'
              refine wpAnyIn_done (by kernel_rfl) ?_ _
              exact Z4.out
            · (refine stepIn_appL _ 1 8 _ 3 rfl (.tmp 38) (.tmp 40) 44 rfl w.heap.size Try.underlying44 intInfo rfl (by decide) fA ⟨wc.heap.size, 0, none⟩ fn fc 1 1 (ics fi) (ics [x.id]) (by simp [Act.eval]) (by simp [Act.eval]) (by omega) HO.out HSR.out (ics_one _) (by unfold maxLen; omega) (by omega) hbs ?_; intro g c' w1 o1 g1 hw1; obtain ⟨z0, ⟨zu, z1⟩, zf, z4⟩ := FN.out g c' w1 o1 g1 hw1; have Z4 := Lib.hid z4; clear o1 g1 hw1 z4; try go_simp)
              refine hK _ _ ?_
              clear hK K'
              refine wpAnyIn_ready (rs := [0]) (by kernel_rfl) (by simp) ?_
              refine AllReadyIn.cons rfl (fun K' hK => ?_) AllReadyIn.nil
              go_simp
              refine hK _ _ ?_
              clear hK K'
              refine wpAnyIn_take (i := 10) (v := .pointer (some ⟨gl, gs.length * 2, none⟩)) rfl rfl (by kernel_rfl) (by kernel_rfl) (by kernel_rfl) (fun _ _ _ h => h) ⟨Or.inl ⟨by rfl, (by intro w; go_simp; try (intro h; omega))⟩, fun _ => rfl⟩ ?_
              refine wpAnyIn_take (i := 11) (v := .pointer (some ⟨gl, gs.length * 2 + 1, none⟩)) rfl rfl (by kernel_rfl) (by kernel_rfl) (by kernel_rfl) (fun _ _ _ h => h) ⟨Or.inl ⟨by rfl, (by intro w; go_simp; try (intro h; omega))⟩, fun _ => rfl⟩ ?_
              refine wpAnyIn_ready (rs := [12]) (by kernel_rfl) (by simp) ?_
              refine AllReadyIn.cons rfl (fun K' hK => ?_) AllReadyIn.nil
              go_simp
              refine hK _ _ ?_
              clear hK K'
              refine wpAnyIn_done (by kernel_rfl) ?_ _
              exact Z4.out
        · go_simp
          refine hK _ _ ?_
          clear hK K'
          refine wpAnyIn_ready (rs := [0, 6]) (by kernel_rfl) (by simp) ?_
          refine AllReadyIn.cons rfl (fun K' hK => ?_) (AllReadyIn.cons rfl (fun K' hK => ?_) AllReadyIn.nil)
          · go_simp
            refine hK _ _ ?_
            clear hK K'
            refine wpAnyIn_ready (rs := [6]) (by kernel_rfl) (by simp) ?_
            refine AllReadyIn.cons rfl (fun K' hK => ?_) AllReadyIn.nil
            go_simp
            refine hK _ _ ?_
            clear hK K'
            refine wpAnyIn_ready (rs := [9]) (by kernel_rfl) (by simp) ?_
            refine AllReadyIn.cons rfl (fun K' hK => ?_) AllReadyIn.nil
            (refine stepIn_appL _ 1 8 _ 3 rfl (.tmp 38) (.tmp 40) 44 rfl w.heap.size Try.underlying44 intInfo rfl (by decide) fA ⟨wc.heap.size, 0, none⟩ fn fc 1 1 (ics fi) (ics [x.id]) (by simp [Act.eval]) (by simp [Act.eval]) (by omega) HO.out HSR.out (ics_one _) (by unfold maxLen; omega) (by omega) hbs ?_; intro g c' w1 o1 g1 hw1; obtain ⟨z0, ⟨zu, z1⟩, zf, z4⟩ := FN.out g c' w1 o1 g1 hw1; have Z4 := Lib.hid z4; clear o1 g1 hw1 z4; try go_simp)
            refine hK _ _ ?_
            clear hK K'
            refine wpAnyIn_take (i := 10) (v := .pointer (some ⟨gl, gs.length * 2, none⟩)) rfl rfl (by kernel_rfl) (by kernel_rfl) (by kernel_rfl) (fun _ _ _ h => h) ⟨Or.inl ⟨by rfl, (by intro w; go_simp; try (intro h; omega))⟩, fun _ => rfl⟩ ?_
            refine wpAnyIn_take (i := 11) (v := .pointer (some ⟨gl, gs.length * 2 + 1, none⟩)) rfl rfl (by kernel_rfl) (by kernel_rfl) (by kernel_rfl) (fun _ _ _ h => h) ⟨Or.inl ⟨by rfl, (by intro w; go_simp; try (intro h; omega))⟩, fun _ => rfl⟩ ?_
            refine wpAnyIn_ready (rs := [12]) (by kernel_rfl) (by simp) ?_
            refine AllReadyIn.cons rfl (fun K' hK => ?_) AllReadyIn.nil
            go_simp
            refine hK _ _ ?_
            clear hK K'
            refine wpAnyIn_done (by kernel_rfl) ?_ _
            exact Z4.out
          · go_simp
            refine hK _ _ ?_
            clear hK K'
            refine wpAnyIn_ready (rs := [0, 9]) (by kernel_rfl) (by simp) ?_
            refine AllReadyIn.cons rfl (fun K' hK => ?_) (AllReadyIn.cons rfl (fun K' hK => ?_) AllReadyIn.nil)
            · go_simp
              refine hK _ _ ?_
              clear hK K'
              refine wpAnyIn_ready (rs := [9]) (by kernel_rfl) (by simp) ?_
              refine AllReadyIn.cons rfl (fun K' hK => ?_) AllReadyIn.nil
              (refine stepIn_appL _ 1 8 _ 3 rfl (.tmp 38) (.tmp 40) 44 rfl w.heap.size Try.underlying44 intInfo rfl (by decide) fA ⟨wc.heap.size, 0, none⟩ fn fc 1 1 (ics fi) (ics [x.id]) (by simp [Act.eval]) (by simp [Act.eval]) (by omega) HO.out HSR.out (ics_one _) (by unfold maxLen; omega) (by omega) hbs ?_; intro g c' w1 o1 g1 hw1; obtain ⟨z0, ⟨zu, z1⟩, zf, z4⟩ := FN.out g c' w1 o1 g1 hw1; have Z4 := Lib.hid z4; clear o1 g1 hw1 z4; try go_simp)
              refine hK _ _ ?_
              clear hK K'
              refine wpAnyIn_take (i := 10) (v := .pointer (some ⟨gl, gs.length * 2, none⟩)) rfl rfl (by kernel_rfl) (by kernel_rfl) (by kernel_rfl) (fun _ _ _ h => h) ⟨Or.inl ⟨by rfl, (by intro w; go_simp; try (intro h; omega))⟩, fun _ => rfl⟩ ?_
              refine wpAnyIn_take (i := 11) (v := .pointer (some ⟨gl, gs.length * 2 + 1, none⟩)) rfl rfl (by kernel_rfl) (by kernel_rfl) (by kernel_rfl) (fun _ _ _ h => h) ⟨Or.inl ⟨by rfl, (by intro w; go_simp; try (intro h; omega))⟩, fun _ => rfl⟩ ?_
              refine wpAnyIn_ready (rs := [12]) (by kernel_rfl) (by simp) ?_
              refine AllReadyIn.cons rfl (fun K' hK => ?_) AllReadyIn.nil
              go_simp
              refine hK _ _ ?_
              clear hK K'
              refine wpAnyIn_done (by kernel_rfl) ?_ _
              exact Z4.out
            · (refine stepIn_appL _ 1 8 _ 3 rfl (.tmp 38) (.tmp 40) 44 rfl w.heap.size Try.underlying44 intInfo rfl (by decide) fA ⟨wc.heap.size, 0, none⟩ fn fc 1 1 (ics fi) (ics [x.id]) (by simp [Act.eval]) (by simp [Act.eval]) (by omega) HO.out HSR.out (ics_one _) (by unfold maxLen; omega) (by omega) hbs ?_; intro g c' w1 o1 g1 hw1; obtain ⟨z0, ⟨zu, z1⟩, zf, z4⟩ := FN.out g c' w1 o1 g1 hw1; have Z4 := Lib.hid z4; clear o1 g1 hw1 z4; try go_simp)
              refine hK _ _ ?_
              clear hK K'
              refine wpAnyIn_ready (rs := [0]) (by kernel_rfl) (by simp) ?_
              refine AllReadyIn.cons rfl (fun K' hK => ?_) AllReadyIn.nil
              go_simp
              refine hK _ _ ?_
              clear hK K'
              refine wpAnyIn_take (i := 10) (v := .pointer (some ⟨gl, gs.length * 2, none⟩)) rfl rfl (by kernel_rfl) (by kernel_rfl) (by kernel_rfl) (fun _ _ _ h => h) ⟨Or.inl ⟨by rfl, (by intro w; go_simp; try (intro h; omega))⟩, fun _ => rfl⟩ ?_
              refine wpAnyIn_take (i := 11) (v := .pointer (some ⟨gl, gs.length * 2 + 1, none⟩)) rfl rfl (by kernel_rfl) (by kernel_rfl) (by kernel_rfl) (fun _ _ _ h => h) ⟨Or.inl ⟨by rfl, (by intro w; go_simp; try (intro h; omega))⟩, fun _ => rfl⟩ ?_
              refine wpAnyIn_ready (rs := [12]) (by kernel_rfl) (by simp) ?_
              refine AllReadyIn.cons rfl (fun K' hK => ?_) AllReadyIn.nil
              go_simp
              refine hK _ _ ?_
              clear hK K'
              refine wpAnyIn_done (by kernel_rfl) ?_ _
              exact Z4.out
      · go_simp
        refine hK _ _ ?_
        clear hK K'
        refine wpAnyIn_ready (rs := [0, 2]) (by kernel_rfl) (by simp) ?_
        refine AllReadyIn.cons rfl (fun K' hK => ?_) (AllReadyIn.cons rfl (fun K' hK => ?_) AllReadyIn.nil)
        · go_simp
          refine hK _ _ ?_
          clear hK K'
          refine wpAnyIn_ready (rs := [2]) (by kernel_rfl) (by simp) ?_
          refine AllReadyIn.cons rfl (fun K' hK => ?_) AllReadyIn.nil
          go_simp
          refine hK _ _ ?_
          clear hK K'
          refine wpAnyIn_take (i := 4) (v := .pointer (some ⟨gl, gs.length * 2, none⟩)) rfl rfl (by kernel_rfl) (by kernel_rfl) (by kernel_rfl) (fun _ _ _ h => h) ⟨Or.inl ⟨by rfl, (by intro w; go_simp; try (intro h; omega))⟩, fun _ => rfl⟩ ?_
          refine wpAnyIn_take (i := 5) (v := .pointer (some ⟨gl, gs.length * 2 + 1, none⟩)) rfl rfl (by kernel_rfl) (by kernel_rfl) (by kernel_rfl) (fun _ _ _ h => h) ⟨Or.inl ⟨by rfl, (by intro w; go_simp; try (intro h; omega))⟩, fun _ => rfl⟩ ?_
          refine wpAnyIn_ready (rs := [6]) (by kernel_rfl) (by simp) ?_
          refine AllReadyIn.cons rfl (fun K' hK => ?_) AllReadyIn.nil
          go_simp
          refine hK _ _ ?_
          clear hK K'
          refine wpAnyIn_ready (rs := [9]) (by kernel_rfl) (by simp) ?_
          refine AllReadyIn.cons rfl (fun K' hK => ?_) AllReadyIn.nil
          (refine stepIn_appL _ 1 8 _ 3 rfl (.tmp 38) (.tmp 40) 44 rfl w.heap.size Try.underlying44 intInfo rfl (by decide) fA ⟨wc.heap.size, 0, none⟩ fn fc 1 1 (ics fi) (ics [x.id]) (by simp [Act.eval]) (by simp [Act.eval]) (by omega) HO.out HSR.out (ics_one _) (by unfold maxLen; omega) (by omega) hbs ?_; intro g c' w1 o1 g1 hw1; obtain ⟨z0, ⟨zu, z1⟩, zf, z4⟩ := FN.out g c' w1 o1 g1 hw1; have Z4 := Lib.hid z4; clear o1 g1 hw1 z4; try go_simp)
          refine hK _ _ ?_
          clear hK K'
          refine wpAnyIn_take (i := 10) (v := .pointer (some ⟨gl, gs.length * 2, none⟩)) rfl rfl (by kernel_rfl) (by kernel_rfl) (by kernel_rfl) (fun _ _ _ h => h) ⟨Or.inl ⟨by rfl, (by intro w; go_simp; try (intro h; omega))⟩, fun _ => rfl⟩ ?_
          refine wpAnyIn_take (i := 11) (v := .pointer (some ⟨gl, gs.length * 2 + 1, none⟩)) rfl rfl (by kernel_rfl) (by kernel_rfl) (by kernel_rfl) (fun _ _ _ h => h) ⟨Or.inl ⟨by rfl, (by intro w; go_simp; try (intro h; omega))⟩, fun _ => rfl⟩ ?_
          refine wpAnyIn_ready (rs := [12]) (by kernel_rfl) (by simp) ?_
          refine AllReadyIn.cons rfl (fun K' hK => ?_) AllReadyIn.nil
          go_simp
          refine hK _ _ ?_
          clear hK K'
          refine wpAnyIn_done (by kernel_rfl) ?_ _
          exact Z4.out
        · go_simp
          refine hK _ _ ?_
          clear hK K'
          refine wpAnyIn_take (i := 4) (v := .pointer (some ⟨gl, gs.length * 2, none⟩)) rfl rfl (by kernel_rfl) (by kernel_rfl) (by kernel_rfl) (fun _ _ _ h => h) ⟨Or.inl ⟨by rfl, (by intro w; go_simp; try (intro h; omega))⟩, fun _ => rfl⟩ ?_
          refine wpAnyIn_take (i := 5) (v := .pointer (some ⟨gl, gs.length * 2 + 1, none⟩)) rfl rfl (by kernel_rfl) (by kernel_rfl) (by kernel_rfl) (fun _ _ _ h => h) ⟨Or.inl ⟨by rfl, (by intro w; go_simp; try (intro h; omega))⟩, fun _ => rfl⟩ ?_
          refine wpAnyIn_ready (rs := [0, 6]) (by kernel_rfl) (by simp) ?_
          refine AllReadyIn.cons rfl (fun K' hK => ?_) (AllReadyIn.cons rfl (fun K' hK => ?_) AllReadyIn.nil)
          · go_simp
            refine hK _ _ ?_
            clear hK K'
            refine wpAnyIn_ready (rs := [6]) (by kernel_rfl) (by simp) ?_
            refine AllReadyIn.cons rfl (fun K' hK => ?_) AllReadyIn.nil
            go_simp
            refine hK _ _ ?_
            clear hK K'
            refine wpAnyIn_ready (rs := [9]) (by kernel_rfl) (by simp) ?_
            refine AllReadyIn.cons rfl (fun K' hK => ?_) AllReadyIn.nil
            (refine stepIn_appL _ 1 8 _ 3 rfl (.tmp 38) (.tmp 40) 44 rfl w.heap.size Try.underlying44 intInfo rfl (by decide) fA ⟨wc.heap.size, 0, none⟩ fn fc 1 1 (ics fi) (ics [x.id]) (by simp [Act.eval]) (by simp [Act.eval]) (by omega) HO.out HSR.out (ics_one _) (by unfold maxLen; omega) (by omega) hbs ?_; intro g c' w1 o1 g1 hw1; obtain ⟨z0, ⟨zu, z1⟩, zf, z4⟩ := FN.out g c' w1 o1 g1 hw1; have Z4 := Lib.hid z4; clear o1 g1 hw1 z4; try go_simp)
            refine hK _ _ ?_
            clear hK K'
            refine wpAnyIn_take (i := 10) (v := .pointer (some ⟨gl, gs.length * 2, none⟩)) rfl rfl (by kernel_rfl) (by kernel_rfl) (by kernel_rfl) (fun _ _ _ h => h) ⟨Or.inl ⟨by rfl, (by intro w; go_simp; try (intro h; omega))⟩, fun _ => rfl⟩ ?_
            refine wpAnyIn_take (i := 11) (v := .pointer (some ⟨gl, gs.length * 2 + 1, none⟩)) rfl rfl (by kernel_rfl) (by kernel_rfl) (by kernel_rfl) (fun _ _ _ h => h) ⟨Or.inl ⟨by rfl, (by intro w; go_simp; try (intro h; omega))⟩, fun _ => rfl⟩ ?_
            refine wpAnyIn_ready (rs := [12]) (by kernel_rfl) (by simp) ?_
            refine AllReadyIn.cons rfl (fun K' hK => ?_) AllReadyIn.nil
            go_simp
            refine hK _ _ ?_
            clear hK K'
            refine wpAnyIn_done (by kernel_rfl) ?_ _
            exact Z4.out
          · go_simp
            refine hK _ _ ?_
            clear hK K'
            refine wpAnyIn_ready (rs := [0, 9]) (by kernel_rfl) (by simp) ?_
            refine AllReadyIn.cons rfl (fun K' hK => ?_) (AllReadyIn.cons rfl (fun K' hK => ?_) AllReadyIn.nil)
            · go_simp
              refine hK _ _ ?_
              clear hK K'
              refine wpAnyIn_ready (rs := [9]) (by kernel_rfl) (by simp) ?_
              refine AllReadyIn.cons rfl (fun K' hK => ?_) AllReadyIn.nil
              (refine stepIn_appL _ 1 8 _ 3 rfl (.tmp 38) (.tmp 40) 44 rfl w.heap.size Try.underlying44 intInfo rfl (by decide) fA ⟨wc.heap.size, 0, none⟩ fn fc 1 1 (ics fi) (ics [x.id]) (by simp [Act.eval]) (by simp [Act.eval]) (by omega) HO.out HSR.out (ics_one _) (by unfold maxLen; omega) (by omega) hbs ?_; intro g c' w1 o1 g1 hw1; obtain ⟨z0, ⟨zu, z1⟩, zf, z4⟩ := FN.out g c' w1 o1 g1 hw1; have Z4 := Lib.hid z4; clear o1 g1 hw1 z4; try go_simp)
              refine hK _ _ ?_
              clear hK K'
              refine wpAnyIn_take (i := 10) (v := .pointer (some ⟨gl, gs.length * 2, none⟩)) rfl rfl (by kernel_rfl) (by kernel_rfl) (by kernel_rfl) (fun _ _ _ h => h) ⟨Or.inl ⟨by rfl, (by intro w; go_simp; try (intro h; omega))⟩, fun _ => rfl⟩ ?_
              refine wpAnyIn_take (i := 11) (v := .pointer (some ⟨gl, gs.length * 2 + 1, none⟩)) rfl rfl (by kernel_rfl) (by kernel_rfl) (by kernel_rfl) (fun _ _ _ h => h) ⟨Or.inl ⟨by rfl, (by intro w; go_simp; try (intro h; omega))⟩, fun _ => rfl⟩ ?_
              refine wpAnyIn_ready (rs := [12]) (by kernel_rfl) (by simp) ?_
              refine AllReadyIn.cons rfl (fun K' hK => ?_) AllReadyIn.nil
              go_simp
              refine hK _ _ ?_
              clear hK K'
              refine wpAnyIn_done (by kernel_rfl) ?_ _
              exact Z4.out
            · (refine stepIn_appL _ 1 8 _ 3 rfl (.tmp 38) (.tmp 40) 44 rfl w.heap.size Try.underlying44 intInfo rfl (by decide) fA ⟨wc.heap.size, 0, none⟩ fn fc 1 1 (ics fi) (ics [x.id]) (by simp [Act.eval]) (by simp [Act.eval]) (by omega) HO.out HSR.out (ics_one _) (by unfold maxLen; omega) (by omega) hbs ?_; intro g c' w1 o1 g1 hw1; obtain ⟨z0, ⟨zu, z1⟩, zf, z4⟩ := FN.out g c' w1 o1 g1 hw1; have Z4 := Lib.hid z4; clear o1 g1 hw1 z4; try go_simp)
              refine hK _ _ ?_
              clear hK K'
              refine wpAnyIn_ready (rs := [0]) (by kernel_rfl) (by simp) ?_
              refine AllReadyIn.cons rfl (fun K' hK => ?_) AllReadyIn.nil
              go_simp
              refine hK _ _ ?_
              clear hK K'
              refine wpAnyIn_take (i := 10) (v := .pointer (some ⟨gl, gs.length * 2, none⟩)) rfl rfl (by kernel_rfl) (by kernel_rfl) (by kernel_rfl) (fun _ _ _ h => h) ⟨Or.inl ⟨by rfl, (by intro w; go_simp; try (intro h; omega))⟩, fun _ => rfl⟩ ?_
              refine wpAnyIn_take (i := 11) (v := .pointer (some ⟨gl, gs.length * 2 + 1, none⟩)) rfl rfl (by kernel_rfl) (by kernel_rfl) (by kernel_rfl) (fun _ _ _ h => h) ⟨Or.inl ⟨by rfl, (by intro w; go_simp; try (intro h; omega))⟩, fun _ => rfl⟩ ?_
              refine wpAnyIn_ready (rs := [12]) (by kernel_rfl) (by simp) ?_
              refine AllReadyIn.cons rfl (fun K' hK => ?_) AllReadyIn.nil
              go_simp
              refine hK _ _ ?_
              clear hK K'
              refine wpAnyIn_done (by kernel_rfl) ?_ _
              exact Z4.out
  case done =>
    rintro D K xs W hD rfl ⟨fs, hFI, hflat, hne, hfl, hil⟩ hK
    obtain ⟨⟨A, c, q1, q2, _⟩, _, _⟩ := hFI.box
    have cL := q1.cell
    have hzz := HZ.out.2
    have hfin : FilO w.heap.size xs A fs c (W.putObj D (.deferred none)) ∧ Below w.heap.size w (W.putObj D (.deferred none)) :=
      ⟨⟨ownsRow_putObj q2 _ hK rfl, fun f hf => ownsRow_putObj (hFI.rws.own f hf) _ hK rfl, hflat, hne, hfl, hil⟩, hFI.bel.trans (belowK_b (w := w) (Nat.le_refl _) W D _ _ (by omega) hK rfl rfl)⟩
    have HFIN := Lib.hid hfin
    clear q1 q2 hFI hfin hzz hflat hne hfl hil
    gi_wp2
    exact ⟨by simp, .inl ⟨_, _, rfl, run_takeDeferred hK, _, results_tmp rfl _ _ _, ⟨A, fs, c, rfl, HFIN.out.1⟩, HFIN.out.2⟩⟩
end Go.Proofs.Ytblclpagfbpamaa
