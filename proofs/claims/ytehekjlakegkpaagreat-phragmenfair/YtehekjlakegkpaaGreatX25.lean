/-
  phragmen.given: a voter's shares. For well formed snapshots, and seats with scores that rise and are far from too long.
-/
import Derived.Test.YtehekjlakegkpaaGreatX22
import Derived.Test.YtehekjlakegkpaaGreatX23
import Derived.Test.YtehekjlakegkpaaGreatX24
import Derived.Deep.RegionHeld3
section
namespace Go.Proofs.YtehekjlakegkpaaGreat
open Go.RowKit
set_option linter.unusedVariables false

theorem RX.drew {w : World} {f : Fp} {x : Rat} (h : RX w f x) : RX w.drew f x := h
theorem shInfo : (Tryz.prog.info? 47).map (fun i => (i.zero, i.size, i.bytes)) = some (some (.agg #[.int .i64 0, .int .i64 0, .slice none 0 0, .slice none 0 0]), 4, 64) := by kernel_rfl
/-- Seats that can be read. -/
structure SeIn (w : World) (A : Option Addr) (n : Nat) (es : List Se) : Prop where
  len : es.length = n
  at_ : ∀ j e, es[j]? = some e → ∃ b, A = some ⟨b, 0, none⟩ ∧ b < w.heap.size ∧ w.cell? ⟨b, j * 3, none⟩ = some (.int .i64 e.cd) ∧ w.cell? ⟨b, j * 3 + 1, none⟩ = some (.slice e.f.A e.f.n e.f.c) ∧ w.cell? ⟨b, j * 3 + 2, none⟩ = some (.slice e.f.B e.f.m e.f.d)
  rx : ∀ e ∈ es, RX w e.f e.x
/-- Sizes and order of seats. -/
structure SeOk (es : List Se) (D : Nat) : Prop where
  pos : 0 < D
  le : D ≤ pw 16
  ex : ∀ e ∈ es, Den D e.x ∧ e.x ≤ 8 ∧ 0 < e.x
  up : (es.map Se.x).Pairwise (· ≤ ·)
  len : es.length ≤ 8
theorem edg_take_succ (v : Vr) (es : List Se) (k : Nat) (e : Se) (h : es[k]? = some e) : edg v ((es.take (k + 1)).map Se.out) 0 = edg v ((es.take k).map Se.out) 0 ++ (if apv v e.cd = true then [(e.cd, e.x - fnl v ((es.take k).map Se.out) 0)] else []) ∧
    fnl v ((es.take (k + 1)).map Se.out) 0 = if apv v e.cd = true then e.x else fnl v ((es.take k).map Se.out) 0 := by
  rw [List.take_add_one, h]
  show edg v ((es.take k ++ [e]).map Se.out) 0 = _ ∧ fnl v ((es.take k ++ [e]).map Se.out) 0 = _
  rw [List.map_append, edg_append, fnl_append]
  simp only [List.map_cons, List.map_nil, edg, fnl, Se.out]
  exact ⟨trivial, trivial⟩
/-- The load so far is 0, or an earlier score. -/
theorem fnl_some (v : Vr) (es : List (Int × Rat)) (l : Rat) : fnl v es l = l ∨ ∃ e ∈ es, fnl v es l = e.2 := by
  by_cases h : edg v es l = []
  · exact .inl (fnl_nil v es l h)
  · exact .inr (fnl_mem v es l h)
theorem SeOk.load {es : List Se} {D : Nat} (h : SeOk es D) (v : Vr) (k : Nat) (e : Se) (he : es[k]? = some e) : fnl v ((es.take k).map Se.out) 0 ≤ e.x ∧ Sm (fnl v ((es.take k).map Se.out) 0) ∧ Sm e.x := by
  have hx := h.ex e (List.mem_of_getElem? he)
  have hsx := x8_sm h.pos h.le hx.1 hx.2.1
  rcases fnl_some v ((es.take k).map Se.out) 0 with h0 | ⟨f, hf, h0⟩
  · rw [h0]
    exact ⟨hx.1.1, x8_sm h.pos h.le Den.zero (by grind), hsx⟩
  · rw [h0]
    obtain ⟨e', he', rfl⟩ := List.mem_map.1 hf
    obtain ⟨i, hi, hie⟩ := List.mem_iff_getElem.1 he'
    rw [List.length_take] at hi
    have hk := (List.getElem?_eq_some_iff.1 he).1
    have hie2 : es[i]? = some e' := by
      rw [List.getElem_take] at hie
      rw [List.getElem?_eq_getElem (by omega), hie]
    have hx' := h.ex e' (List.mem_of_getElem? hie2)
    refine ⟨?_, x8_sm h.pos h.le hx'.1 hx'.2.1, hsx⟩
    have hup := List.pairwise_iff_getElem.1 h.up i k (by simp; omega) (by simpa using hk) (by omega)
    simp only [List.getElem_map] at hup
    rw [List.getElem?_eq_getElem (by omega)] at hie2
    rw [List.getElem?_eq_getElem hk] at he
    injection hie2 with hie2
    injection he with he
    rw [hie2, he] at hup
    exact hup
/-- What given's loops know. -/
structure Gv (w wr : World) (s : Sn) (v : Vr) (base S : Nat) (rv : Value) (ls : List Se) (lf : Fp) (lx : Rat) : Prop where
  gv : GvIn wr base S v.id rv ls lf lx
  sb : KB wr w.heap.size 25 #[.slice s.A s.n s.c, .slice s.B s.m s.d]
  vb : KB wr (w.heap.size + 1) 43 #[.int .i64 v.id, .int .u64 (v.st : Int), .slice v.a v.n v.c]
  bel : Below w.heap.size w wr
theorem Gv.below {w wr w' : World} {s : Sn} {v : Vr} {base S : Nat} {rv : Value} {ls : List Se} {lf : Fp} {lx : Rat} (h : Gv w wr s v base S rv ls lf lx) (hb : Below wr.heap.size wr w') : Gv w w' s v base S rv ls lf lx :=
  ⟨h.gv.below hb, h.sb.below hb h.sb.lt, h.vb.below hb h.vb.lt, h.bel.trans (hb.mono h.bel.size)⟩
theorem Gv.push {w w0 w' : World} {s : Sn} {v : Vr} {base S : Nat} {rv v' : Value} {ls : List Se} {lf : Fp} {lx : Rat} (h : Gv w w0 s v base S rv ls lf lx) (hwb : w.heap.size ≤ base) (e : Se) (he : RX w0 e.f e.x) (h1 : Pr (GvF S rv) e.f.A e.f.n) (h2 : Pr (GvF S rv) e.f.B e.f.m) (hlo : Lo base e.f)
    (ho : w'.ownsRow base 47 4 v' (ls.length + 1) (shL v.id ls ++ (Se.sh v.id e).cells)) (ht : Turns (fun b => rv.ownBlock = some b) w0 w') (hv : v'.ownBlock = rv.ownBlock ∨ v'.ownBlock = some w0.heap.size) :
    Gv w w' s v base S v' (ls ++ [e]) lf lx := by
  refine ⟨h.gv.push e he h1 h2 hlo ho ht hv, h.sb.turns ht (fun e' => ?_), h.vb.turns ht (fun e' => ?_), h.bel.trans (ht.below h.bel.size (fun b hb => Nat.le_trans hwb (h.gv.row.lt b hb).1))⟩
  · obtain ⟨cur, hk⟩ := own_blk h.gv.row e'
    exact h.sb.ne hk (by decide) rfl
  · obtain ⟨cur, hk⟩ := own_blk h.gv.row e'
    exact h.vb.ne hk (by decide) rfl
theorem Gv.load {w w0 : World} {s : Sn} {v : Vr} {base S : Nat} {rv : Value} {ls : List Se} {lf : Fp} {lx : Rat} (h : Gv w w0 s v base S rv ls lf lx) (hwb : w.heap.size ≤ base) {A B : Option Addr} {n c m d : Nat} {x : Rat} (hf : RX w0 ⟨A, n, c, B, m, d⟩ x) (h1 : ∀ a, A = some a → 0 < n → a.block < base) (h2 : ∀ a, B = some a → 0 < m → a.block < base) :
    Gv w ((w0.setCell ⟨S, 0, none⟩ (.slice A n c)).setCell ⟨S, 1, none⟩ (.slice B m d)) s v base S rv ls ⟨A, n, c, B, m, d⟩ x := by
  have h3 := h.sb.ne h.gv.box (by decide)
  have h4 := h.vb.ne h.gv.box (by decide)
  have h5 := h.gv.sb
  exact ⟨h.gv.load hf h1 h2, (h.sb.far (p := ⟨S, 0, none⟩) h3 _).far (p := ⟨S, 1, none⟩) h3 _, (h.vb.far (p := ⟨S, 0, none⟩) h4 _).far (p := ⟨S, 1, none⟩) h4 _,
    (h.bel.setCell (p := ⟨S, 0, none⟩) (by dsimp only; omega) _).setCell (p := ⟨S, 1, none⟩) (by dsimp only; omega) _⟩
theorem Gv.drew {w wr : World} {s : Sn} {v : Vr} {base S : Nat} {rv : Value} {ls : List Se} {lf : Fp} {lx : Rat} (h : Gv w wr s v base S rv ls lf lx) : Gv w wr.drew s v base S rv ls lf lx := ⟨h.gv.drew, h.sb, h.vb, h.bel.drew⟩
theorem Gv.setW {w w0 : World} {s : Sn} {v : Vr} {base S : Nat} {rv : Value} {ls : List Se} {lf : Fp} {lx : Rat} (h : Gv w w0 s v base S rv ls lf lx) (hwb : w.heap.size ≤ base) {j g c : Nat} {e : Se} (he : ls[j]? = some e) (hrv : rv = .slice (some ⟨g, 0, none⟩) ls.length c) {f : Fp} {x : Rat} (hf : RX w0 f x) (h1 : Pr (GvF S rv) f.A f.n) (h2 : Pr (GvF S rv) f.B f.m) (hlo : Lo base f) :
    Gv w ((w0.setCell ⟨g, j * 4 + 2, none⟩ (.slice f.A f.n f.c)).setCell ⟨g, j * 4 + 3, none⟩ (.slice f.B f.m f.d)) s v base S rv (ls.set j ⟨e.cd, f, x⟩) lf lx := by
  have hg : rv.ownBlock = some g := by rw [hrv]; rfl
  obtain ⟨cur, hk⟩ := own_blk h.gv.row hg
  have h3 := h.sb.ne hk (by decide)
  have h4 := h.vb.ne hk (by decide)
  have h5 := (h.gv.row.lt g hg).1
  exact ⟨h.gv.setW he hrv hf h1 h2 hlo, (h.sb.far (p := ⟨g, j * 4 + 2, none⟩) h3 _).far (p := ⟨g, j * 4 + 3, none⟩) h3 _, (h.vb.far (p := ⟨g, j * 4 + 2, none⟩) h4 _).far (p := ⟨g, j * 4 + 3, none⟩) h4 _,
    (h.bel.setCell (p := ⟨g, j * 4 + 2, none⟩) (by dsimp only; omega) _).setCell (p := ⟨g, j * 4 + 3, none⟩) (by dsimp only; omega) _⟩
theorem gv_cells2 {w wr : World} {s : Sn} {v : Vr} {base S Q : Nat} {rv : Value} {ls : List Se} {A B yA yB : Option Addr} {n c m d yn yc ym yd : Nat} {lx : Rat} {vi ycd : Int} (h : Gv w wr s v base S rv ls ⟨A, n, c, B, m, d⟩ lx) (hk : KB wr Q 47 #[.int .i64 vi, .int .i64 ycd, .slice yA yn yc, .slice yB ym yd]) :
    wr.cell? ⟨w.heap.size + 1, 1, none⟩ = some (.int .u64 (v.st : Int)) ∧ wr.cell? ⟨Q, 2, none⟩ = some (.slice yA yn yc) ∧ wr.cell? ⟨Q, 3, none⟩ = some (.slice yB ym yd) ∧ wr.cell? ⟨S, 0, none⟩ = some (.slice A n c) ∧ wr.cell? ⟨S, 1, none⟩ = some (.slice B m d) :=
  ⟨by simpa using h.vb.cell 1, by simpa using hk.cell 2, by simpa using hk.cell 3, by simpa using h.gv.box.cell 0, by simpa using h.gv.box.cell 1⟩
theorem gv_cells {w wr : World} {s : Sn} {v : Vr} {base S Q : Nat} {rv : Value} {ls : List Se} {A B yA yB : Option Addr} {n c m d yn yc ym yd : Nat} {lx : Rat} {ycd : Int} (h : Gv w wr s v base S rv ls ⟨A, n, c, B, m, d⟩ lx) (hk : KB wr Q 40 #[.int .i64 ycd, .slice yA yn yc, .slice yB ym yd]) :
    wr.cell? ⟨w.heap.size + 1, 0, none⟩ = some (.int .i64 v.id) ∧ wr.cell? ⟨Q, 0, none⟩ = some (.int .i64 ycd) ∧ wr.cell? ⟨Q, 1, none⟩ = some (.slice yA yn yc) ∧ wr.cell? ⟨Q, 2, none⟩ = some (.slice yB ym yd) ∧ wr.cell? ⟨S, 0, none⟩ = some (.slice A n c) ∧ wr.cell? ⟨S, 1, none⟩ = some (.slice B m d) :=
  ⟨by simpa using h.vb.cell 0, by simpa using hk.cell 0, by simpa using hk.cell 1, by simpa using hk.cell 2, by simpa using h.gv.box.cell 0, by simpa using h.gv.box.cell 1⟩
/-- What is known behind the first loop: the edge loads. -/
def GvEdge (w wr : World) (s : Sn) (v : Vr) (es : List (Int × Rat)) (base S : Nat) (rv : Value) : Prop := ∃ (ls : List Se) (lf : Fp), Gv w wr s v base S rv ls lf (fnl v es 0) ∧ ls.map Se.out = edg v es 0
set_option maxHeartbeats 6400000 in
/-- A voter's shares in new memory. -/
def GvTo (w : World) (v : Vr) (es : List (Int × Rat)) : Ending → World → Prop := fun e w' => ∃ (A : Option Addr) (c : Nat) (ls : List Se), e = .returned (.slice A ls.length c) ∧ w'.ownsRow w.heap.size 47 4 (.slice A ls.length c) ls.length (shL v.id ls) ∧ (∀ x ∈ ls, RX w' x.f x.x ∧ Lo w.heap.size x.f) ∧ (ls.map Se.out).Perm (wts v es) ∧ (ls.Pairwise fun a b => a.cd ≤ b.cd) ∧ Below w.heap.size w w'
theorem edg_le8 (v : Vr) (es : List (Int × Rat)) (l : Rat) (hl : 0 ≤ l) (h : ∀ e ∈ es, 0 ≤ e.2 ∧ e.2 ≤ 8) : ∀ x ∈ edg v es l, x.2 ≤ 8 := by
  induction es generalizing l with
  | nil => intro x hx; simp [edg] at hx
  | cons e es ih =>
    have h0 := h e (by simp)
    have h1 := ih e.2 h0.1 (fun f hf => h f (by simp [hf]))
    have h2 := ih l hl (fun f hf => h f (by simp [hf]))
    intro x hx
    simp only [edg] at hx
    split at hx
    · rcases List.mem_cons.1 hx with e' | e'
      · subst e'; dsimp only; grind
      · exact h1 x e'
    · exact h2 x hx
/-- The sizes of edge loads and of the load. -/
theorem gv_sizes {ls es : List Se} {D : Nat} (v : Vr) (hls : ls.map Se.out = edg v (es.map Se.out) 0) (h : SeOk es D) : (∀ e ∈ ls, Den D e.x ∧ e.x ≤ 8) ∧ (ls ≠ [] → Den D (fnl v (es.map Se.out) 0) ∧ fnl v (es.map Se.out) 0 ≤ 8 ∧ 0 < fnl v (es.map Se.out) 0) := by
  have hup : Ups (es.map Se.out) 0 := by
    refine ⟨?_, fun e he => ?_⟩
    · have := h.up
      rw [List.map_map]; exact this
    · obtain ⟨y, hy, rfl⟩ := List.mem_map.1 he
      exact (h.ex y hy).1.1
  have hd := edg_den v (es.map Se.out) 0 hup (fun e he => by
    obtain ⟨y, hy, rfl⟩ := List.mem_map.1 he
    exact (h.ex y hy).1) (D := D) Den.zero
  have h8 := edg_le8 v (es.map Se.out) 0 (by grind) (fun e he => by
    obtain ⟨y, hy, rfl⟩ := List.mem_map.1 he
    exact ⟨(h.ex y hy).1.1, (h.ex y hy).2.1⟩)
  refine ⟨fun e he => ?_, fun hne => ?_⟩
  · have hm : e.out ∈ edg v (es.map Se.out) 0 := by rw [← hls]; exact List.mem_map_of_mem he
    exact ⟨hd.1 _ hm, h8 _ hm⟩
  · have hne2 : edg v (es.map Se.out) 0 ≠ [] := by rw [← hls]; intro e; exact hne (List.map_eq_nil_iff.1 e)
    obtain ⟨f, hf, hfe⟩ := fnl_mem v (es.map Se.out) 0 hne2
    obtain ⟨y, hy, rfl⟩ := List.mem_map.1 hf
    refine ⟨hd.2, ?_, ?_⟩
    · rw [hfe]; exact (h.ex y hy).2.1
    · rw [hfe]; exact (h.ex y hy).2.2
theorem giv_end {w wr w' : World} {s : Sn} {v : Vr} {base S g c : Nat} {rv : Value} {l2 : List Se} {lf : Fp} {lx : Rat} {es : List (Int × Rat)} (h : Gv w wr s v base S rv l2 lf lx) (hwb : w.heap.size ≤ base) (hgb : base ≤ g) (hc : c ≤ maxLen) (hg : rv.ownBlock = some g)
    (hs : SrtTo g (l2.map (Se.sh v.id)) c wr w') (hw : l2.map Se.out = wts v es) : GvTo w v es (.returned (.slice (some ⟨g, 0, none⟩) l2.length c)) w' := by
  obtain ⟨l', cur', h4, hp, ho, ht⟩ := hs
  have hlen : l'.length = l2.length := by have := hp.length_eq; simpa using this
  have hback : ∀ t ∈ l', ∃ e ∈ l2, t = Se.sh v.id e := fun t hm => by
    obtain ⟨e, he, rfl⟩ := List.mem_map.1 (hp.subset hm)
    exact ⟨e, he, rfl⟩
  have hse : (l'.map Sh.se).map (Se.sh v.id) = l' := by
    rw [List.map_map]
    have : ∀ t ∈ l', (Se.sh v.id ∘ Sh.se) t = t := fun t hm => by
      obtain ⟨e, _, rfl⟩ := hback t hm
      rfl
    rw [List.map_congr_left this]; exact List.map_id' l'
  have hl2 : (l'.map Sh.se).length = l2.length := by rw [List.length_map, hlen]
  have hpp : (l'.map Sh.se).Perm l2 := by
    have := hp.map Sh.se
    rw [List.map_map] at this
    rwa [show List.map (Sh.se ∘ Se.sh v.id) l2 = l2 from by rw [show (Sh.se ∘ Se.sh v.id) = id from rfl]; exact List.map_id l2] at this
  refine ⟨some ⟨g, 0, none⟩, c, l'.map Sh.se, by rw [hl2], ?_, fun x hx => ?_, ?_, ?_, h.bel.trans (ht.below h.bel.size (fun b e => by omega))⟩
  · have := own_of_s4 h4 (Nat.le_trans hwb hgb) hc
    unfold shL
    rw [hse, hl2, ← hlen]
    exact this
  · obtain ⟨t, hm, rfl⟩ := List.mem_map.1 hx
    obtain ⟨e, he, rfl⟩ := hback t hm
    obtain ⟨a, b, d⟩ := h.gv.fr e he
    have hTG := ht.mono (G := GvF S rv) (fun b hb => .inl (.inr (by rw [hg, hb])))
    exact ⟨a.turns hTG b d, (h.gv.lo e he).mono hwb⟩
  · rw [← hw]; exact hpp.map Se.out
  · refine List.pairwise_iff_getElem.2 fun i j hi hj hij => ?_
    simp only [List.getElem_map]
    rw [List.length_map] at hi hj
    exact ho i j _ _ hij hj (List.getElem?_eq_getElem hi) (List.getElem?_eq_getElem hj)
/-- The weights, behind the second loop. -/
theorem giv_fin {ls l2 : List Se} {v : Vr} {es : List (Int × Rat)} {lx : Rat} (hl : l2.length = ls.length) (hW : ∀ j e, l2[j]? = some e → ∃ e0, ls[j]? = some e0 ∧ e.cd = e0.cd ∧ e.x = if j < ls.length then (v.st : Rat) * e0.x / lx else e0.x) (hls : ls.map Se.out = edg v es 0) (hlx : fnl v es 0 = lx) : l2.map Se.out = wts v es := by
  unfold wts
  rw [← hls, hlx, List.map_map]
  refine List.ext_getElem? fun j => ?_
  rw [List.getElem?_map, List.getElem?_map]
  rcases Nat.lt_or_ge j l2.length with hj | hj
  · obtain ⟨e, he⟩ : ∃ e, l2[j]? = some e := ⟨_, List.getElem?_eq_getElem hj⟩
    obtain ⟨e0, h1, h2, h3⟩ := hW j e he
    rw [if_pos (by omega)] at h3
    rw [he, h1]
    show some (e.cd, e.x) = some (e0.cd, (v.st : Rat) * e0.x / lx)
    rw [h2, h3]
  · rw [List.getElem?_eq_none hj, List.getElem?_eq_none (by omega)]; rfl
theorem giv_next {ls l2 : List Se} {i : Nat} {e e0 : Se} {st lx : Rat} {f : Fp} {x : Rat} (hW : ∀ j e, l2[j]? = some e → ∃ e0, ls[j]? = some e0 ∧ e.cd = e0.cd ∧ e.x = if j < i then st * e0.x / lx else e0.x) (he0 : ls[i]? = some e0) (hc : e.cd = e0.cd) (hx : e.x = e0.x) (he : l2[i]? = some e) (hxx : x = st * e.x / lx) :
    ∀ j e', (l2.set i ⟨e.cd, f, x⟩)[j]? = some e' → ∃ e0, ls[j]? = some e0 ∧ e'.cd = e0.cd ∧ e'.x = if j < i + 1 then st * e0.x / lx else e0.x := by
  intro j e' h
  by_cases hj : i = j
  · subst hj
    rw [List.getElem?_set_self (List.getElem?_eq_some_iff.1 he).1] at h
    injection h with h
    subst h
    exact ⟨e0, he0, hc, by rw [if_pos (by omega), hxx, hx]⟩
  · rw [List.getElem?_set_ne hj] at h
    obtain ⟨u, h1, h2, h3⟩ := hW j e' h
    refine ⟨u, h1, h2, ?_⟩
    rw [h3]
    by_cases h4 : j < i
    · rw [if_pos h4, if_pos (by omega)]
    · rw [if_neg h4, if_neg (by omega)]
set_option maxHeartbeats 6400000 in
set_option maxRecDepth 100000 in
theorem given_any (s : Sn) (v : Vr) (EA : Option Addr) (en ec D : Nat) (es : List Se) (w : World) (h : s.In w) (hfd : Fd s.vs s.cs) (hv : v ∈ s.vs) (he : SeIn w EA en es) (hok : SeOk es D) (hec : en ≤ ec) (hcs : ∀ e ∈ es, e.cd ∈ s.cs) :
    Calls Tryz.prog 42 #[s.val, v.val, .slice EA en ec] w (GvTo w v (es.map Se.out)) := by
  have hAp := fun x W g => approves_any s v.id x W g
  have HAP := Lib.hid hAp
  have HM := Lib.hid (fun x hx => mem_apM hfd hv (x := x) hx)
  have HI := Lib.hid h
  have HE := Lib.hid he
  have HOK := Lib.hid hok
  have HCS := Lib.hid hcs
  have hen := he.len
  have hlen8 := hok.len
  have HZ := Lib.hid (boxK2 w 25 43 #[.slice s.A s.n s.c, .slice s.B s.m s.d] #[.int .i64 v.id, .int .u64 (v.st : Int), .slice v.a v.n v.c])
  clear hAp h he hok hcs
  unfold Sn.val at HAP ⊢
  unfold Vr.val
  go_enter Tryz.func42, Tryz.ntmps42
  go_wp2_with fail
  obtain ⟨hk1, hk2, hb0, hs0⟩ := HZ.out
  generalize ((w.alloc (Obj.cells #[.slice s.A s.n s.c, .slice s.B s.m s.d] 25)).alloc (Obj.cells #[.int .i64 v.id, .int .u64 (v.st : Int), .slice v.a v.n v.c] 43)) = W0 at *
  refine (number_any 0 W0 (by omega)).mono ?_
  rintro e w2 ⟨⟨A0, n0, c0, B0, m0, d0⟩, rfl, hf0, hb2⟩
  unfold Fp.val
  dsimp only
  have hs2 := hb2.size
  have hG0 : Gv w (w2.alloc (.cells #[.slice A0 n0 c0, .slice B0 m0 d0] 38)) s v (w.heap.size + 2) w2.heap.size (.slice none 0 0) [] ⟨A0, n0, c0, B0, m0, d0⟩ 0 := by
    have hA : Below w2.heap.size w2 (w2.alloc (.cells #[.slice A0 n0 c0, .slice B0 m0 d0] 38)) := (Below.refl _ _).alloc (Nat.le_refl _) _
    refine ⟨⟨World.ownsRow_nil _ _ _ _, KB.new _ _ _, by omega, hf0.rx.below hA (Nat.le_refl _), (fun e he => by simp at he), ?_, (fun e he => by simp at he)⟩, (hk1.below hb2 hk1.lt).alloc _, (hk2.below hb2 hk2.lt).alloc _, (hb0.trans (hb2.mono hb0.size)).alloc (by omega) _⟩
    refine ⟨fun a e hn hb => ?_, fun a e hn hb => ?_⟩
    · rcases hb with hb | hb
      · have := hf0.1.1.lt a e hn; omega
      · cases hb
    · rcases hb with hb | hb
      · have := hf0.2.1.lt a e hn; omega
      · cases hb
  have HG0 := Lib.hid hG0
  clear hk1 hk2 hb0 hf0 hb2 hG0 HZ
  go_upto_region 3 with (fail)
  generalize w2.alloc (Obj.cells #[Value.slice A0 n0 c0, Value.slice B0 m0 d0] 38) = wA at *
  generalize w2.heap.size = S at *
  go_wp2_with fail
  go_loopg [7, 16] en (fun g9 rv tv wr => ∃ k : Nat, g9 = en - k ∧ k ≤ en ∧ tv = .int .i64 (k : Int) ∧ GvEdge w wr s v ((es.take k).map Se.out) (w.heap.size + 2) S rv)
  case atStart => exact ⟨0, rfl, by omega, rfl, [], _, HG0.out, rfl⟩
  case round =>
    obtain ⟨k, hg9, hk, rfl, ls, ⟨A, n, c, B, m, d⟩, hG, hls⟩ := hrel
    clear HG0
    by_cases hlt : k < en
    · obtain ⟨⟨ycd, ⟨yA, yn, yc, yB, ym, yd⟩, yx⟩, hy⟩ : ∃ y, es[k]? = some y := ⟨_, List.getElem?_eq_getElem (by omega)⟩
      have hym := List.mem_of_getElem? hy
      obtain ⟨bE, rfl, hbE, z0, z1, z2⟩ := HE.out.at_ k _ hy
      have hyr := HE.out.rx _ hym
      have hapv := HM.out ycd (HCS.out _ hym)
      obtain ⟨hle, hsm1, hsm2⟩ := HOK.out.load v k _ hy
      obtain ⟨hed, hfn⟩ := edg_take_succ v es k _ hy
      dsimp only at z0 z1 z2 hyr hle hsm2 hed hfn
      have q0 := (hG.bel.cell (p := ⟨bE, k * 3, none⟩) hbE).trans z0
      have q1 := (hG.bel.cell (p := ⟨bE, k * 3 + 1, none⟩) hbE).trans z1
      have q2 := (hG.bel.cell (p := ⟨bE, k * 3 + 2, none⟩) hbE).trans z2
      have hA7 : Below wr.heap.size wr (wr.alloc (.cells #[.int .i64 ycd, .slice yA yn yc, .slice yB ym yd] 40)) := (Below.refl _ _).alloc (Nat.le_refl _) _
      have hK7 := KB.new wr 40 #[.int .i64 ycd, .slice yA yn yc, .slice yB ym yd]
      have hG7 := hG.below hA7
      have hAP7 := HAP.out ycd _ (HI.out.below hG7.bel (Nat.le_refl _))
      rw [hapv] at hAP7
      have HAP7 := Lib.hid hAP7
      have hwr := hG.bel.size
      have hki : (k : Int) < (en : Int) := by omega
      clear hG hA7 z0 z1 z2 hapv hAP7
      go_upto_region 6 with (fail)
      obtain ⟨w7, hw7⟩ : ∃ w7, wr.alloc (Obj.cells #[.int .i64 ycd, .slice yA yn yc, .slice yB ym yd] 40) = w7 := ⟨_, rfl⟩
      rw [hw7] at hK7 hG7 HAP7 ⊢
      generalize hwq : wr.heap.size = Q at *
      have a0 := hG7.sb.cell 0
      have a1 := hG7.sb.cell 1
      have b0 := hG7.vb.cell 0
      have c0' := hK7.cell 0
      simp at a0 a1 b0 c0'
      go_wp2_with fail
      refine HAP7.out.mono ?_
      rintro e w8 ⟨rfl, hb8⟩
      have hG8 := hG7.below hb8
      have hK8 := hK7.below hb8 hK7.lt
      have hyr8 := hyr.below hG8.bel (Nat.le_refl _)
      clear hG7 hK7 HAP7 a0 a1 b0 c0' q0 q1 q2 hb8 hw7
      by_cases ha : apv v ycd = true
      · rw [if_pos ha] at hed hfn
        rw [ha]
        have hls8 : ls.length ≤ 8 := by
          have hlen := congrArg List.length hls
          rw [List.length_map] at hlen
          have hell := edg_len v ((es.take k).map Se.out) 0
          rw [List.length_map, List.length_take] at hell
          omega
        have HLS := Lib.hid hls
        have HED := Lib.hid hed
        have HFN := Lib.hid hfn
        clear hls hed hfn
        generalize hlx : fnl v ((es.take k).map Se.out) 0 = lx at *
        obtain ⟨RA, rc, rfl⟩ : ∃ RA rc, u7 = .slice RA ls.length rc := by
          rcases own_forms hG8.gv.row with ⟨e, hl, _⟩ | ⟨g, cap, e, _⟩
          · exact ⟨none, 0, by rw [e, hl]⟩
          · exact ⟨_, _, e⟩
        have hlb := hG8.gv.box.lt
        have hvl := hG8.vb.lt
        have HG8 := Lib.hid hG8
        have k0 : (w8.cell? ⟨w.heap.size + 1, 0, none⟩ = some (.int .i64 v.id) ∧ w8.cell? ⟨Q, 0, none⟩ = some (.int .i64 ycd) ∧ w8.cell? ⟨Q, 1, none⟩ = some (.slice yA yn yc) ∧ w8.cell? ⟨Q, 2, none⟩ = some (.slice yB ym yd) ∧ w8.cell? ⟨S, 0, none⟩ = some (.slice A n c) ∧ w8.cell? ⟨S, 1, none⟩ = some (.slice B m d)) := ⟨by simpa using hG8.vb.cell 0, by simpa using hK8.cell 0, by simpa using hK8.cell 1, by simpa using hK8.cell 2, by simpa using hG8.gv.box.cell 0, by simpa using hG8.gv.box.cell 1⟩
        have HKF := Lib.hid (fun W' (hb' : Below w8.heap.size w8 W') => (⟨(hb'.cell (p := ⟨w.heap.size + 1, 0, none⟩) hvl).trans k0.1, (hb'.cell (p := ⟨Q, 0, none⟩) hK8.lt).trans k0.2.1, (hb'.cell (p := ⟨Q, 1, none⟩) hK8.lt).trans k0.2.2.1, (hb'.cell (p := ⟨Q, 2, none⟩) hK8.lt).trans k0.2.2.2.1, (hb'.cell (p := ⟨S, 0, none⟩) hlb).trans k0.2.2.2.2.1, (hb'.cell (p := ⟨S, 1, none⟩) hlb).trans k0.2.2.2.2.2⟩ : _ ∧ _ ∧ _ ∧ _ ∧ _ ∧ _))
        have HMI := Lib.hid (fun W (g1 : RX W ⟨yA, yn, yc, yB, ym, yd⟩ yx) (g2 : RX W ⟨A, n, c, B, m, d⟩ lx) => minus_any g1 g2 hsm2 hsm1 hle)
        clear hG8 hsm1 hsm2 hle
        unfold Fp.val at HMI
        dsimp only at HMI
        go_upto_region 7 with (fail)
        go_region_held3 (fun W' => W'.cell? ⟨w.heap.size + 1, 0, none⟩ = some (.int .i64 v.id) ∧ W'.cell? ⟨Q, 0, none⟩ = some (.int .i64 ycd) ∧ W'.cell? ⟨Q, 1, none⟩ = some (.slice yA yn yc) ∧ W'.cell? ⟨Q, 2, none⟩ = some (.slice yB ym yd) ∧ W'.cell? ⟨S, 0, none⟩ = some (.slice A n c) ∧ W'.cell? ⟨S, 1, none⟩ = some (.slice B m d))
          (first | exact k0 | exact K1 | exact K2 | exact K3)
          (first
            | (go_at_call 90; go_loud (refine (HMI.out _ ?_ ?_).mono ?_); go_loud (exact hyr8.drew); go_loud (exact HG8.out.gv.rx.drew); go_loud (rintro e w9 ⟨⟨A9, n9, c9, B9, m9, d9⟩, rfl, hf9, hb9⟩); go_loud (have HB9 := Lib.hid ((Below.refl w8.heap.size w8).drew.trans (hb9.mono (Nat.le_refl w8.heap.size)))); have HF9 := Lib.hid hf9; have K1 := HKF.out w9 HB9.out; go_loud (have hal := (Below.refl w9.heap.size w9).alloc (Nat.le_refl _) (.cells #[.int .i64 v.id, .int .i64 ycd, .slice A9 n9 c9, .slice B9 m9 d9] 47)); have HBA := Lib.hid (HB9.out.trans (hal.mono HB9.out.size)); have K2 := HKF.out _ HBA.out; have HGA := Lib.hid (HG8.out.below HBA.out); go_loud (have HSR := Lib.hid (Sr.new (sz := 4) w9 47 #[.int .i64 v.id, .int .i64 ycd, .slice A9 n9 c9, .slice B9 m9 d9] rfl)); clear hf9 hb9 hal; unfold Fp.val; dsimp only)
            | (refine step_appT 4 64 _ 47 rfl (.tmp 26) (.tmp 36) 29 rfl (w.heap.size + 2) Tryz.underlying29 shInfo rfl (by decide) (.slice RA ls.length rc) ⟨w9.heap.size, 0, none⟩ ls.length 1 (shL v.id ls) [.int .i64 v.id, .int .i64 ycd, .slice A9 n9 c9, .slice B9 m9 d9] (by simp [Act.eval]) (by simp [Act.eval]) HGA.out.gv.row HSR.out (by simp [Value.oneCell']) (by unfold maxLen; omega) (by omega) (by have := HGA.out.gv.sb; have := HGA.out.gv.box.lt; omega) ?_; intro A1 c1 w10 o1 t1 h5; have HGP := Lib.hid (HGA.out.push (by omega) ⟨ycd, ⟨A9, n9, c9, B9, m9, d9⟩, yx - lx⟩ (HF9.out.rx.below ((Below.refl w9.heap.size w9).alloc (Nat.le_refl _) _) (Nat.le_refl _)) ((nx_pr HF9.out).1 _ (fun b hb => (HG8.out.gv.lt hb).2)) ((nx_pr HF9.out).2 _ (fun b hb => (HG8.out.gv.lt hb).2)) (HF9.out.lo.mono (by show w.heap.size + 2 ≤ w8.heap.size; have := HG8.out.gv.sb; omega)) o1 t1 h5); have hKQ := (hK8.below HBA.out hK8.lt).turns t1 (fun e' => (own_blk HGA.out.gv.row e').elim (fun cur hk => (hK8.below HBA.out hK8.lt).ne hk (by decide) rfl)); have K3 := gv_cells HGP.out hKQ; clear o1 t1 h5))
        all_goals
          have HKQ := Lib.hid hKQ
          have hL := HGP.out.load (by omega) (hyr.below HGP.out.bel (Nat.le_refl _)) (fun a e hn => by have := hyr.1.lt a e hn; omega) (fun a e hn => by have := hyr.2.lt a e hn; omega)
          have f0 := HGP.out.gv.box.frozen 0
          have f1 := HGP.out.gv.box.frozen 1
          have HN := Lib.hid (show GvEdge w ((w10.setCell ⟨S, 0, none⟩ (.slice yA yn yc)).setCell ⟨S, 1, none⟩ (.slice yB ym yd)) s v ((es.take (k + 1)).map Se.out) (w.heap.size + 2) S (.slice A1 (ls.length + 1) c1) from ⟨_, _, by rw [HFN.out]; exact hL, by rw [HED.out, List.map_append, HLS.out]; rfl⟩)
          obtain ⟨t0, t1, t2, t3, t4, t5⟩ := K3
          clear hL
          go_wp2
          go_roundg (en - (k + 1))
          case measure => omega
          case rel => exact ⟨k + 1, rfl, by omega, by go_num, HN.out⟩
      · have ha' : apv v ycd = false := by cases hx : apv v ycd with
          | false => rfl
          | true => exact absurd hx ha
        rw [if_neg ha] at hed hfn
        rw [ha']
        rw [List.append_nil] at hed
        have HN := Lib.hid (show GvEdge w w8 s v ((es.take (k + 1)).map Se.out) (w.heap.size + 2) S u7 from ⟨ls, ⟨A, n, c, B, m, d⟩, by rw [hfn]; exact hG8, by rw [hed]; exact hls⟩)
        clear hG8 hK8 hed hfn
        go_wp2
        go_roundg (en - (k + 1))
        case measure => omega
        case rel => exact ⟨k + 1, rfl, by omega, by go_num, HN.out⟩
    · obtain rfl : k = en := by omega
      rw [List.take_of_length_le (by omega)] at hG hls
      have hvok := (HI.out.1.mem hv).1
      have hls8 : ls.length ≤ 8 := by
        have hlen := congrArg List.length hls
        rw [List.length_map] at hlen
        have hell := edg_len v (es.map Se.out) 0
        rw [List.length_map] at hell
        omega
      have hsz := gv_sizes v hls HOK.out
      obtain ⟨RA, rc, rfl⟩ : ∃ RA rc, u7 = .slice RA ls.length rc := by
        rcases own_forms hG.gv.row with ⟨e, hl, _⟩ | ⟨g, cap, e, _⟩
        · exact ⟨none, 0, by rw [e, hl]⟩
        · exact ⟨_, _, e⟩
      have HG := Lib.hid hG
      have HLS := Lib.hid hls
      have HSZ := Lib.hid hsz
      clear hG hls hsz
      generalize hlx : fnl v (es.map Se.out) 0 = lx at *
      go_wp2_with fail
      go_loopg [43] ls.length (fun g9 tv wr => ∃ (i : Nat) (l2 : List Se), g9 = ls.length - i ∧ i ≤ ls.length ∧ tv = .int .i64 (i : Int) ∧ l2.length = ls.length ∧ Gv w wr s v (w.heap.size + 2) S (.slice RA ls.length rc) l2 ⟨A, n, c, B, m, d⟩ lx ∧ (∀ j e, l2[j]? = some e → ∃ e0, ls[j]? = some e0 ∧ e.cd = e0.cd ∧ e.x = if j < i then (v.st : Rat) * e0.x / lx else e0.x))
      case atStart => exact ⟨0, ls, by omega, by omega, rfl, rfl, HG.out, fun j e he => ⟨e, he, rfl, by rw [if_neg (by omega)]⟩⟩
      case round =>
        obtain ⟨i, l2, hg9, hi, rfl, hl2, hG, hW⟩ := hrel
        clear HG
        by_cases hlt2 : i < ls.length
        · obtain ⟨⟨ecd, ⟨yA, yn, yc, yB, ym, yd⟩, yx⟩, hy⟩ : ∃ y, l2[i]? = some y := ⟨_, List.getElem?_eq_getElem (by omega)⟩
          obtain ⟨g, cg, cur, hrv, hgb, h4, hcg⟩ := hG.gv.at_ hy
          injection hrv with e1 e2 e3
          clear e2
          subst e1 e3
          obtain ⟨e0, he0, hcd0, hx0⟩ := hW i _ hy
          rw [if_neg (by omega)] at hx0
          dsimp only at hcd0 hx0
          have he0m := List.mem_of_getElem? he0
          obtain ⟨hD0, h80⟩ := HSZ.out.1 e0 he0m
          obtain ⟨hDl, hl8, hlp⟩ := HSZ.out.2 (fun e => by rw [e] at he0; simp at he0)
          obtain ⟨q0, q1, q2, q3⟩ := h4.at_ (j := i) (s := Se.sh v.id _) (by rw [List.getElem?_map, hy]; rfl)
          dsimp only [Se.sh] at q0 q1 q2 q3
          have hA7 : Below wr.heap.size wr (wr.alloc (.cells #[.int .i64 v.id, .int .i64 ecd, .slice yA yn yc, .slice yB ym yd] 47)) := (Below.refl _ _).alloc (Nat.le_refl _) _
          have hK7 := KB.new wr 47 #[.int .i64 v.id, .int .i64 ecd, .slice yA yn yc, .slice yB ym yd]
          have hG7 := hG.below hA7
          have hki : (i : Int) < (ls.length : Int) := by omega
          have hil : i < ls.length := hlt2
          have hst := hvok.1
          have hwr := hG.bel.size
          have hgw : g < wr.heap.size := h4.kb.lt
          have hSX := Lib.hid (And.intro (x8_sm HOK.out.pos HOK.out.le hD0 h80) (And.intro (mul_sm HOK.out.pos HOK.out.le hst hD0 h80) (And.intro (x8_sm HOK.out.pos HOK.out.le hDl hl8) hlp)))
          rw [← hx0] at hSX
          have h47 := h4.below hA7
          have HW := Lib.hid (And.intro hW (And.intro hl2 (And.intro he0 (And.intro hcd0 hx0))))
          have HSX := Lib.hid hSX
          clear hW hl2 he0 hcd0 hx0 he0m hSX h4
          go_upto_region 13 with (fail)
          obtain ⟨w7, hw7⟩ : ∃ w7, wr.alloc (Obj.cells #[.int .i64 v.id, .int .i64 ecd, .slice yA yn yc, .slice yB ym yd] 47) = w7 := ⟨_, rfl⟩
          rw [hw7] at hK7 hG7 h47 ⊢
          generalize hwq : wr.heap.size = Q at *
          have HG7 := Lib.hid hG7
          have hvl := hG7.vb.lt
          have hlb := hG7.gv.box.lt
          have hQl := hK7.lt
          have HK7 := Lib.hid hK7
          have k0 : (w7.cell? ⟨w.heap.size + 1, 1, none⟩ = some (.int .u64 (v.st : Int)) ∧ w7.cell? ⟨Q, 2, none⟩ = some (.slice yA yn yc) ∧ w7.cell? ⟨Q, 3, none⟩ = some (.slice yB ym yd) ∧ w7.cell? ⟨S, 0, none⟩ = some (.slice A n c) ∧ w7.cell? ⟨S, 1, none⟩ = some (.slice B m d)) := ⟨by simpa using hG7.vb.cell 1, by simpa using hK7.cell 2, by simpa using hK7.cell 3, by simpa using hG7.gv.box.cell 0, by simpa using hG7.gv.box.cell 1⟩
          have HKF := Lib.hid (fun W' (hb' : Below w7.heap.size w7 W') => (⟨(hb'.cell (p := ⟨w.heap.size + 1, 1, none⟩) hvl).trans k0.1, (hb'.cell (p := ⟨Q, 2, none⟩) hQl).trans k0.2.1, (hb'.cell (p := ⟨Q, 3, none⟩) hQl).trans k0.2.2.1, (hb'.cell (p := ⟨S, 0, none⟩) hlb).trans k0.2.2.2.1, (hb'.cell (p := ⟨S, 1, none⟩) hlb).trans k0.2.2.2.2⟩ : _ ∧ _ ∧ _ ∧ _ ∧ _))
          have hyx7 := (hG7.gv.fr _ (List.mem_of_getElem? hy)).1
          dsimp only at hyx7
          have HFR := Lib.hid (fun W' (hb' : Below w7.heap.size w7 W') => (⟨hyx7.below hb' (Nat.le_refl _), hG7.gv.rx.below hb' (Nat.le_refl _), h47.below hb'⟩ : RX W' _ _ ∧ RX W' _ _ ∧ S4 W' _ _ _ _))
          clear hG hG7 h47 hK7 hA7 q0 q1 q2 q3 hD0 h80 hDl hl8 hlp hw7 hyx7
          go_region_held3 (fun W' => W'.cell? ⟨w.heap.size + 1, 1, none⟩ = some (.int .u64 (v.st : Int)) ∧ W'.cell? ⟨Q, 2, none⟩ = some (.slice yA yn yc) ∧ W'.cell? ⟨Q, 3, none⟩ = some (.slice yB ym yd) ∧ W'.cell? ⟨S, 0, none⟩ = some (.slice A n c) ∧ W'.cell? ⟨S, 1, none⟩ = some (.slice B m d))
            (first | exact k0 | exact K1 | exact K2 | exact K3 | exact K4)
            (first
              | (go_at_call 88; refine (number_any v.st _ hst).mono ?_; rintro e w8 ⟨f8, rfl, hf8, hb8⟩; have HB8 := Lib.hid ((Below.refl w7.heap.size w7).drew.trans (hb8.mono (Nat.le_refl w7.heap.size))); have HF8 := Lib.hid hf8; have K1 := HKF.out w8 HB8.out; clear hf8 hb8)
              | (go_at_call 92; refine (times_any (f := f8) (g := ⟨yA, yn, yc, yB, ym, yd⟩) HF8.out.rx (HFR.out w8 HB8.out).1 (Sm.word hst) HSX.out.out.1).mono ?_; rintro e w9 ⟨f9, rfl, hf9, hb9⟩; have HB9 := Lib.hid (HB8.out.trans (hb9.mono HB8.out.size)); have HF9 := Lib.hid hf9; have K2 := HKF.out w9 HB9.out; clear hf9 hb9)
              | (go_at_call 91; refine (over_any (f := f9) (g := ⟨A, n, c, B, m, d⟩) HF9.out.rx (HFR.out w9 HB9.out).2.1 HSX.out.out.2.1 HSX.out.out.2.2.1 HSX.out.out.2.2.2).mono ?_; rintro e w10 ⟨⟨A3, n3, c3, B3, m3, d3⟩, rfl, hf10, hb10⟩; have HB10 := Lib.hid (HB9.out.trans (hb10.mono HB9.out.size)); have HF10 := Lib.hid (hf10.mono (lo' := w7.heap.size) HB9.out.size); have K3 := HKF.out w10 HB10.out; have hS10 := (HFR.out w10 HB10.out).2.2; have u2 := hS10.kb.frozen (i * 4 + 2); have u3 := hS10.kb.frozen (i * 4 + 3); obtain ⟨v0, v1, v2, v3⟩ := hS10.at_ (j := i) (s := Se.sh v.id _) (by rw [List.getElem?_map, hy]; rfl); dsimp only [Se.sh] at v2 v3; have HGW := Lib.hid ((HG7.out.below HB10.out).setW (by omega) (c := rc) hy (by rw [HW.out.2.1]) HF10.out.rx ((nx_pr HF10.out).1 _ (fun b hb => (HG7.out.gv.lt hb).2)) ((nx_pr HF10.out).2 _ (fun b hb => (HG7.out.gv.lt hb).2)) (HF10.out.lo.mono (by have := HG7.out.gv.sb; omega))); have hKQ := ((HK7.out.below HB10.out hQl).far (p := ⟨g, i * 4 + 2, none⟩) (by dsimp only; omega) (.slice A3 n3 c3)).far (p := ⟨g, i * 4 + 3, none⟩) (by dsimp only; omega) (.slice B3 m3 d3); have K4 := gv_cells2 HGW.out hKQ; clear hf10 hb10 hS10 v0 v1 hKQ; unfold Fp.val; dsimp only))
          all_goals
            have hHW := HW.out
            have HN := Lib.hid (And.intro HGW.out (giv_next (f := ⟨A3, n3, c3, B3, m3, d3⟩) (x := (v.st : Rat) * yx / lx) hHW.1 hHW.2.2.1 hHW.2.2.2.1 hHW.2.2.2.2 hy rfl))
            clear hHW K1 K2 K3 K4
            go_wp2
            go_roundg (ls.length - (i + 1))
            case measure => omega
            case rel => exact ⟨i + 1, _, rfl, by omega, by go_num, by rw [List.length_set]; exact HW.out.2.1, HN.out.1, HN.out.2⟩
        · obtain rfl : i = ls.length := by omega
          have HN := Lib.hid (giv_fin (v := v) hl2 hW HLS.out hlx)
          have HG2 := Lib.hid hG
          clear hW hG
          rcases Nat.eq_zero_or_pos ls.length with h0 | hpos
          · have hE0 := HG2.out
            obtain rfl : l2 = [] := List.eq_nil_of_length_eq_zero (by omega)
            rw [h0] at hE0 ⊢
            have HF := Lib.hid (show GvTo w v (es.map Se.out) (.returned (.slice RA 0 rc)) wr from ⟨RA, rc, [], rfl, own_low hE0.gv.row (by omega), fun x hx => by simp at hx, by rw [HN.out], List.Pairwise.nil, hE0.bel⟩)
            clear hE0 h0
            go_wp2_with fail
            refine (sortF_nil RA rc wr).mono ?_
            rintro e w9 ⟨rfl, rfl⟩
            go_wp2
            go_ret
            exact HF.out
          · obtain ⟨e0, he0⟩ : ∃ e0, l2[0]? = some e0 := ⟨_, List.getElem?_eq_getElem (by omega)⟩
            obtain ⟨g, cg, cur, hrv, hgb, h4, hcg⟩ := HG2.out.gv.at_ he0
            injection hrv with e1 e2 e3
            clear e2
            subst e1 e3
            have hSr := sortF_any h4 (by rw [List.length_map]; omega) (by unfold maxLen at hcg; exact hcg)
            rw [List.length_map, hl2] at hSr
            have HSR := Lib.hid hSr
            have HEN := Lib.hid (fun w9 (hs : SrtTo g (l2.map (Se.sh v.id)) rc wr w9) => giv_end HG2.out (by omega) hgb hcg rfl hs HN.out)
            rw [hl2] at HEN
            clear h4 hSr hl2 he0
            go_wp2_with fail
            refine HSR.out.mono ?_
            rintro e w9 ⟨rfl, hs⟩
            have HF := Lib.hid (HEN.out w9 hs)
            clear hs
            go_wp2
            go_ret
            exact HF.out
end Go.Proofs.YtehekjlakegkpaaGreat
end
