/-
  What limb.takeTimes and limb.putBack do to a window that lies in a row known whole. For a factor below 2^32, and a divisor that lies in another row.
-/
import Derived.Test.YtcpeofgfppgooaaSub
import Derived.Test.YtcpeofgfppgooaaMul
namespace Go.Proofs.Ytcpeofgfppgooaa
open Go.RowKit

theorem el_mid (pre ws post : List Nat) (j : Nat) (h : j < ws.length) : el (pre ++ (ws ++ post)) (pre.length + j) = el ws j := by
  rw [el_append_right _ _ _ (by omega), show pre.length + j - pre.length = j by omega, el_append_left _ _ _ h]
theorem set_mid (pre ws post : List Nat) (j x : Nat) (h : j < ws.length) : (pre ++ (ws ++ post)).set (pre.length + j) x = pre ++ (ws.set j x ++ post) := by
  rw [List.set_append_right _ _ (by omega), show pre.length + j - pre.length = j by omega, List.set_append_left _ _ h]
theorem only_setCell {a w : World} {g : Nat} (h : a.grownBy w (some g)) (o : Nat) (u : Value) : a.grownBy (w.setCell ⟨g, o, none⟩ u) (some g) :=
  ⟨h.os, h.tape, h.output, by simpa [World.setCell] using h.size, fun i hi hne => (Below.heap_setCell w ⟨g, o, none⟩ u i (by
    rintro rfl
    exact hne rfl)).trans (h.block i hi hne)⟩
theorem Blk.other {w w' : World} {g g2 : Nat} {xs : List Nat} (h : Blk w g2 xs) (hg : w.grownBy w' (some g)) (hne : g2 ≠ g) : Blk w' g2 xs :=
  (hg.block g2 h.lt (fun e => by injection e with e; exact hne e)).trans h
theorem dif_step2 (rs us : List Nat) (k q t y Vk : Nat) (hk : k < rs.length) (hx : el us k < 4294967296) (ht : t = q + y) (heq : val (rs.take k) + Vk = val (us.take k) + pw k * q) :
    val ((rs.set k (lesR (el us k) t)).take (k + 1)) + (Vk + pw k * y) = val (us.take (k + 1)) + pw (k + 1) * lesB (el us k) t := by
  rw [val_take_set rs k _ hk, val_take_step us]
  have h1 := les_eq (el us k) t hx
  have h2 : pw k * (el us k + 4294967296 * lesB (el us k) t) = pw k * (lesR (el us k) t + t) := by rw [h1]
  rw [ht] at h2 ⊢
  rw [Nat.mul_add, Nat.mul_add, Nat.mul_add] at h2
  rw [pw_succ, Nat.mul_comm 4294967296 (pw k), Nat.mul_assoc]
  omega
theorem lesB_lt {x t : Nat} (ht : t ≤ 18446744069414584320) : lesB x t ≤ 4294967295 := by
  unfold lesB
  split <;> omega

def TakeRel (w : World) (g n G : Nat) (pre us post es : List Nat) (cv tv : Value) (wr : World) : Prop :=
  ∃ (k q : Nat) (ws : List Nat), k ≤ n ∧ tv = .int .i64 k ∧ cv = .int .u64 q ∧ q ≤ 4294967295 ∧ Blk wr g (pre ++ (ws ++ post)) ∧ ws.length = n + 1 ∧ Lim ws ∧ ws.drop k = us.drop k ∧ w.grownBy wr (some g) ∧
    val (ws.take k) + G * val (es.take k) = val (us.take k) + pw k * q
theorem TakeRel.step {w wr : World} {g n G k q t : Nat} {pre us post es ws : List Nat} (hG : G < 4294967296) (huL : Lim us) (heL : Lim es) (hk : k < n) (hq : q ≤ 4294967295) (hB : Blk wr g (pre ++ (ws ++ post))) (hl : ws.length = n + 1) (hL : Lim ws)
    (hd : ws.drop k = us.drop k) (hg : w.grownBy wr (some g)) (heq : val (ws.take k) + G * val (es.take k) = val (us.take k) + pw k * q) (ht : t = q + G * el es k) :
    TakeRel w g n G pre us post es (.int .u64 (lesB (el us k) t : Nat)) (.int .i64 ((k : Int) + 1)) (wr.setCell ⟨g, pre.length + k, none⟩ (.int .u32 (lesR (el us k) t : Nat))) := by
  have hm := mul_le G (el es k) hG (el_lt heL k)
  refine ⟨k + 1, lesB (el us k) t, ws.set k (lesR (el us k) t), by omega, rfl, rfl, lesB_lt (by omega), ?_, by simp [hl], Lim_set hL _ _ (lesR_lt _ _), ?_, only_setCell hg _ _, ?_⟩
  · rw [← set_mid _ _ _ _ _ (by omega)]; exact hB.set_ _ _
  · rw [drop_set]; exact drop_succ_of hd
  · rw [val_take_step es, Nat.mul_add, Nat.mul_left_comm G]
    exact dif_step2 ws us k q t (G * el es k) _ (by omega) (el_lt huL k) ht heq
/-- The end of limb.takeTimes. -/
def TakeP (w : World) (g n G : Nat) (pre us post es : List Nat) (e : Ending) (w' : World) : Prop :=
  ∃ (ws : List Nat) (bo : Nat), bo ≤ 1 ∧ e = .returned (.bool (decide (0 < bo))) ∧ Blk w' g (pre ++ (ws ++ post)) ∧ ws.length = n + 1 ∧ Lim ws ∧ w.grownBy w' (some g) ∧ val ws + G * val (es.take n) = val us + pw (n + 1) * bo
theorem TakeRel.last {w wr : World} {g n G q : Nat} {pre us post es ws : List Nat} (huL : Lim us) (hul : us.length = n + 1) (hq : q ≤ 4294967295) (hB : Blk wr g (pre ++ (ws ++ post))) (hl : ws.length = n + 1) (hL : Lim ws)
    (hg : w.grownBy wr (some g)) (heq : val (ws.take n) + G * val (es.take n) = val (us.take n) + pw n * q) :
    TakeP w g n G pre us post es (.returned (.bool (decide (0 < lesB (el us n) q)))) (wr.setCell ⟨g, pre.length + n, none⟩ (.int .u32 (lesR (el us n) q : Nat))) := by
  refine ⟨ws.set n (lesR (el us n) q), lesB (el us n) q, ?_, rfl, ?_, by simp [hl], Lim_set hL _ _ (lesR_lt _ _), only_setCell hg _ _, ?_⟩
  · unfold lesB; split <;> omega
  · rw [← set_mid _ _ _ _ _ (by omega)]; exact hB.set_ _ _
  · have h := dif_step2 ws us n q q 0 _ (by omega) (el_lt huL n) (by omega) heq
    rw [val_take_ge _ _ (by simp [hl]), val_take_ge us _ (by omega)] at h
    omega

def PutRel (w : World) (g n : Nat) (pre us post es : List Nat) (cv tv : Value) (wr : World) : Prop :=
  ∃ (k q : Nat) (ws : List Nat), k ≤ n ∧ tv = .int .i64 k ∧ cv = .int .u64 q ∧ q ≤ 1 ∧ Blk wr g (pre ++ (ws ++ post)) ∧ ws.length = n + 1 ∧ Lim ws ∧ ws.drop k = us.drop k ∧ w.grownBy wr (some g) ∧
    val (ws.take k) + pw k * q = val (us.take k) + val (es.take k)
theorem PutRel.step {w wr : World} {g n k q : Nat} {pre us post es ws : List Nat} (huL : Lim us) (heL : Lim es) (hk : k < n) (hq : q ≤ 1) (hB : Blk wr g (pre ++ (ws ++ post))) (hl : ws.length = n + 1) (hL : Lim ws)
    (hd : ws.drop k = us.drop k) (hg : w.grownBy wr (some g)) (heq : val (ws.take k) + pw k * q = val (us.take k) + val (es.take k)) {S1 S2 : Int}
    (h1 : S1 = (((q + (el us k + el es k)) / 4294967296 : Nat) : Int)) (h2 : S2 = (((q + (el us k + el es k)) % 4294967296 : Nat) : Int)) :
    PutRel w g n pre us post es (.int .u64 S1) (.int .i64 ((k : Int) + 1)) (wr.setCell ⟨g, pre.length + k, none⟩ (.int .u32 S2)) := by
  subst h1 h2
  have hx := el_lt huL k
  have hy := el_lt heL k
  refine ⟨k + 1, (q + (el us k + el es k)) / 4294967296, ws.set k ((q + (el us k + el es k)) % 4294967296), by omega, rfl, rfl, by omega, ?_, by simp [hl], Lim_set hL _ _ (by omega), ?_, only_setCell hg _ _, ?_⟩
  · rw [← set_mid _ _ _ _ _ (by omega)]; exact hB.set_ _ _
  · rw [drop_set]; exact drop_succ_of hd
  · rw [carry_step ws k _ (by omega), val_take_step us, val_take_step es, Nat.mul_add, Nat.mul_add]
    omega
/-- The end of limb.putBack. -/
def PutP (w : World) (g n : Nat) (pre us post es : List Nat) (e : Ending) (w' : World) : Prop :=
  ∃ (ws : List Nat) (k : Nat), e = .returned (.tuple #[]) ∧ Blk w' g (pre ++ (ws ++ post)) ∧ ws.length = n + 1 ∧ Lim ws ∧ w.grownBy w' (some g) ∧ val ws + pw (n + 1) * k = val us + val (es.take n)
theorem PutRel.last {w wr : World} {g n q : Nat} {pre us post es ws : List Nat} (hul : us.length = n + 1) (hB : Blk wr g (pre ++ (ws ++ post))) (hl : ws.length = n + 1) (hL : Lim ws)
    (hg : w.grownBy wr (some g)) (heq : val (ws.take n) + pw n * q = val (us.take n) + val (es.take n)) {S2 : Int} (h2 : S2 = (((el us n + q) % 4294967296 : Nat) : Int)) :
    PutP w g n pre us post es (.returned (.tuple #[])) (wr.setCell ⟨g, pre.length + n, none⟩ (.int .u32 S2)) := by
  subst h2
  refine ⟨ws.set n ((el us n + q) % 4294967296), (el us n + q) / 4294967296, rfl, ?_, by simp [hl], Lim_set hL _ _ (by omega), only_setCell hg _ _, ?_⟩
  · rw [← set_mid _ _ _ _ _ (by omega)]; exact hB.set_ _ _
  · have h := carry_step ws n (el us n + q) (by omega)
    rw [val_take_ge _ _ (by simp [hl]), Nat.mul_add] at h
    have h3 := val_take_step us n
    rw [val_take_ge us _ (by omega)] at h3
    omega

end Go.Proofs.Ytcpeofgfppgooaa
