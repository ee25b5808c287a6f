/- The contract of slices.Repeat of one number. -/
import Derived.Test.YtockgbilbnheaaaDoorMNfaPt
import Derived.Laws.CopyOwn
import Derived.Deep.RegionLaw
import Derived.Laws.BitsAllLaws
namespace Go.Proofs.YtockgbilbnheaaaDoor
open Go.RowKit

def MulP (n : Nat) (w : World) (e : Ending) (w' : World) : Prop := e = .returned (.tuple #[.int .u64 0, .int .u64 (n : Int)]) ∧ w = w'
set_option maxHeartbeats 1000000 in
theorem mul64_one (n : Nat) (w : World) (hn : n ≤ 1000) : Calls Tryd.prog 74 #[.int .u64 1, .int .u64 (n : Int)] w (MulP n w) := by
 have e1 : bits .and .u64 1 4294967295 = 1 := by decide +kernel
 have e2 : bits .and .u64 (n : Int) 4294967295 = (n : Int) := by
  have h := u64_and_nat n 4294967295 (by omega) (by decide)
  have h2 : n &&& 4294967295 = n := by
   have := Nat.and_two_pow_sub_one_eq_mod n 32
   rw [show (2 : Nat) ^ 32 - 1 = 4294967295 from rfl] at this
   rw [this]; exact Nat.mod_eq_of_lt (Nat.lt_of_le_of_lt hn (by decide))
  rw [h2] at h
  exact h
 have e3 : (n : Int) / 4294967296 = 0 := by omega
 go_enter Tryd.func74, Tryd.ntmps74
 go_wp2
 go_ret2
 exact ⟨rfl, rfl⟩
set_option maxHeartbeats 1000000 in
theorem mul_one (n : Nat) (w : World) (hn : n ≤ 1000) : Calls Tryd.prog 64 #[.int .u64 1, .int .u64 (n : Int)] w (MulP n w) := by
 go_enter Tryd.func64, Tryd.ntmps64
 go_wp2_with fail
 refine (mul64_one n _ hn).mono ?_
 rintro e w1 ⟨rfl, rfl⟩
 go_wp2
 go_ret2
 exact ⟨rfl, rfl⟩
/-- A row of n numbers x. -/
def RepP (x : Int) (n : Nat) (w : World) (e : Ending) (w' : World) : Prop := ∃ g, e = .returned (.slice (some ⟨g, 0, none⟩) n n) ∧ w.heap.size ≤ g ∧ Row w' g 3 ((List.replicate n x).map iv) ∧ Below w.heap.size w w'
theorem splice_zero (x : Int) (cur : List Value) (n : Nat) (hn : 1 ≤ n) (hc : cur.length = n) : (splice cur 0 [iv x]).length = n ∧ ∀ j, j < 1 → (splice cur 0 [iv x])[j]? = some (iv x) := by
 refine ⟨by rw [length_splice _ _ _ (by simp; omega), hc], fun j hj => ?_⟩
 obtain rfl : j = 0 := by omega
 simp [splice]
theorem splice_more (x : Int) (cur : List Value) (n k m : Nat) (hm : m = min k (n - k)) (hk : k < n) (hc : cur.length = n) (hv : ∀ j, j < k → cur[j]? = some (iv x)) :
  (splice cur k (List.replicate m (iv x))).length = n ∧ ∀ j, j < k + m → (splice cur k (List.replicate m (iv x)))[j]? = some (iv x) := by
 refine ⟨by rw [length_splice _ _ _ (by simp; omega), hc], fun j hj => ?_⟩
 unfold splice
 by_cases h : j < k
 ·rw [List.getElem?_append_left (by rw [List.length_take]; omega), List.getElem?_take, if_pos h]
  exact hv j h
 ·rw [List.getElem?_append_right (by rw [List.length_take]; omega), List.length_take, List.getElem?_append_left (by rw [List.length_replicate]; omega), List.getElem?_replicate, if_pos (by omega)]
theorem all_same (x : Int) (cur : List Value) (n : Nat) (hc : cur.length = n) (hv : ∀ j, j < n → cur[j]? = some (iv x)) : cur = (List.replicate n x).map iv := by
 refine List.ext_getElem (by simp [hc]) fun j h1 h2 => ?_
 have := hv j (by omega)
 rw [List.getElem?_eq_getElem h1] at this
 simp at this ⊢
 exact this
theorem rep_src (x : Int) (cur : List Value) (w : World) (g k m n : Nat) (hm : m = min k (n - k)) (hrow : Row w g 3 cur) (hall : ∀ j, j < k → cur[j]? = some (iv x)) :
  0 < (List.replicate m (iv x)).length → (some (⟨g, k, none⟩ : Addr) = some ⟨g, k, none⟩) ∧ ∃ ad, (some (⟨g, 0, none⟩ : Addr)) = some ad ∧ ∀ j v, (List.replicate m (iv x))[j]? = some v → w.cell? (ad.add j) = some v := by
 refine fun _ => ⟨rfl, ⟨g, 0, none⟩, rfl, fun j u hj => ?_⟩
 rw [List.getElem?_replicate] at hj
 split at hj
 ·cases hj
  have e : (⟨g, 0, none⟩ : Addr).add j = ⟨g, j, none⟩ := by unfold Addr.add; split <;> simp_all
  rw [e]
  exact hrow.cell (hall j (by omega))
 ·cases hj
theorem made_below {w w1 : World} (hgr : w.grownBy w1 none) : Below w.heap.size w w1 := (Below.refl _ w).grown hgr (Nat.le_refl _) (fun k e => by cases e)
theorem made_row {w w1 : World} {g n : Nat} (hown : w1.ownsRow g 3 1 (.slice (some ⟨w.heap.size, 0, none⟩) n n) n (madeCells (Value.int .i64 0).cells (n * 1)).toList) : Row w1 w.heap.size 3 (List.replicate n (.int .i64 0)) := Row.of_own (B := g) (n := n) (by
 have e := toList_madeCells_one (.int .i64 0) n
 rw [← e]
 simpa [Value.cells] using hown)
theorem one_min {x : Int} {n : Nat} (h : 1 ≤ n) : [iv x].length = Nat.min 1 n := by simp [h]
theorem one_src {x : Int} {w : World} {ad : Addr} {g : Nat} (h : w.cell? ad = some (iv x)) : 0 < [iv x].length → (some (⟨g, 0, none⟩ : Addr) = some ⟨g, 0, none⟩) ∧ ∃ a, some ad = some a ∧ ∀ j v, [iv x][j]? = some v → w.cell? (a.add j) = some v :=
 fun _ => ⟨rfl, ad, rfl, fun j u hj => by
  match j, hj with
  | 0, hj => simp at hj; subst hj; simpa [Addr.add] using h⟩
theorem one_fit {x : Int} {n : Nat} {z : Value} (h : 1 ≤ n) : 0 + [iv x].length ≤ (List.replicate n z).length := by simp; omega
theorem rep_len {x : Int} {m k n : Nat} (hm : m = min k (n - k)) : (List.replicate m (iv x)).length = Nat.min k (n - k) := by rw [List.length_replicate, hm]
theorem rep_fit {x : Int} {m k n : Nat} {cur : List Value} (h : k + m ≤ n) (hc : cur.length = n) : k + (List.replicate m (iv x)).length ≤ cur.length := by rw [List.length_replicate]; omega
theorem rep_one (x : Int) (m : Nat) : ∀ v ∈ List.replicate m (iv x), v.oneCell' = true := by intro u hu; rw [(List.mem_replicate.1 hu).2]; rfl
set_option maxRecDepth 100000 in
set_option maxHeartbeats 2000000 in
theorem repeat_any (x : Int) (n : Nat) (v : Value) (w : World) (h : Sl iv w v [x]) (hn : n ≤ 1000) : Calls Tryd.prog 52 #[v, .int .i64 (n : Int)] w (RepP x n w) := by
 obtain ⟨ad, c, rfl, hcell⟩ : ∃ ad c, v = .slice (some ad) 1 c ∧ w.cell? ad = some (iv x) := by
  obtain ⟨ad, c, e, _, hcell⟩ := sl_cell h 0 (by simp)
  exact ⟨ad, c, e, by simpa [Addr.add] using hcell⟩
 clear h
 obtain ⟨i0, hi, hz0, hz1, hz2⟩ := info_parts info_int
 by_cases h0 : n = 0
 ·subst h0
  go_enter Tryd.func52, Tryd.ntmps52
  go_wp2_with fail
  refine (mul_one 0 _ hn).mono ?_
  rintro e w1 ⟨rfl, rfl⟩
  go_wp2_with (first | (at_make; refine wpList_make_full _ rfl _ _ _ rfl w.heap.size 3 i0 _ 1 (by kernel_rfl) hi hz0 hz1 _ _ _ _ 0 rfl rfl rfl rfl (by rw [hz2]; omega) (by unfold maxLen; omega) (Nat.le_refl _) ?_; intro w1 hown hgr) | (with_reducible refine wpList_copy_nothing rfl _ _ _ _ rfl 3 (by kernel_rfl) (by kernel_rfl) _ _ _ _ _ _ rfl rfl rfl ?_))
  have hrow : Row w1 w.heap.size 3 [] := Row.of_own (n := 0) (B := w.heap.size) (by simpa [Value.cells, madeCells] using hown)
  have hb1 : Below w.heap.size w w1 := (Below.refl _ w).grown hgr (Nat.le_refl _) (fun k e => by cases e)
  go_loop [8] (fun i => i = .int .i64 0) (fun _ => 0)
  case atStart => exact rfl
  case round =>
   subst hrel
   go_wp2
   go_ret
   exact ⟨_, rfl, Nat.le_refl _, hrow, hb1⟩
 ·have h1 : 1 ≤ n := by omega
  clear h0
  go_enter Tryd.func52, Tryd.ntmps52
  go_wp2_with fail
  refine (mul_one n _ hn).mono ?_
  rintro e w1 ⟨rfl, rfl⟩
  go_wp2_with (first | (at_make; refine wpList_make_full _ rfl _ _ _ rfl w.heap.size 3 i0 _ 1 (by kernel_rfl) hi hz0 hz1 _ _ _ _ n rfl rfl rfl rfl (by rw [hz2]; omega) (by unfold maxLen; omega) (Nat.le_refl _) ?_; intro w1 hown hgr; have Hb1 := Lib.hid (made_below hgr); have Hrow := Lib.hid (made_row hown); have Hcell1 := Lib.hid ((Hb1.out.cell (World.block_lt_of_cell? _ _ hcell)).trans hcell); clear hown hgr hcell) | ((refine wpList_copy_splice rfl _ _ _ _ rfl 3 (by kernel_rfl) (by kernel_rfl) _ _ _ _ _ _ rfl rfl w.heap.size 0 _ 3 Hrow.out [iv x] (one_min h1) (one_src Hcell1.out) (one_fit h1) (rep_one x 1) w.heap.size w Hb1.out (Nat.le_refl _) ?_); intro w2 hrow2 hb2))
  obtain ⟨l1, l2⟩ := splice_zero x (List.replicate n (.int .i64 0)) n h1 (by simp)
  generalize splice (List.replicate n (.int .i64 0)) 0 [iv x] = cur at *
  have Hb2 := Lib.hid hb2
  have L2 := Lib.hid l2
  clear hb2 l2
  go_wp2
  go_loopw [8] (fun i wr => ∃ (k : Nat) (cur : List Value), 1 ≤ k ∧ k ≤ n ∧ i = .int .i64 k ∧ Hid (Row wr w.heap.size 3 cur) ∧ cur.length = n ∧ Hid (∀ j, j < k → cur[j]? = some (iv x)) ∧ Below w.heap.size w wr) (fun i _ => n - (intOf i).toNat)
  case atStart => exact ⟨1, cur, Nat.le_refl _, h1, rfl, hrow2, l1, L2, Hb2.out⟩
  case round =>
   obtain ⟨k, cur, hk1, hkn, rfl, hrowk, hlen, hall, hbel⟩ := hrel
   have Hbel := Lib.hid hbel
   clear hbel
   by_cases hlt : k < n
   ·obtain ⟨m, hm⟩ : ∃ m, m = min k (n - k) := ⟨_, rfl⟩
    obtain ⟨g1, g2⟩ := splice_more x cur n k m hm hlt hlen hall.out
    have hm1 : 1 ≤ m := by omega
    have hm2 : k + m ≤ n := by omega
    have Hm := Lib.hid hm
    have G2 := Lib.hid g2
    have i1 : (n : Int) - (k : Int) = ((n - k : Nat) : Int) := by omega
    clear hm g2
    go_wp2
    have hnk : ¬ n = k := by omega
    go_region_law (refine step_copy_splice rfl (.tmp 41) (.tmp 44) _ _ rfl 3 (by kernel_rfl) (by kernel_rfl) (some ⟨w.heap.size, k, none⟩) (some ⟨w.heap.size, 0, none⟩) (n - k) (n - k) k n (by simp [Act.eval, Act.put]) (by simp [Act.eval, Act.put]) w.heap.size k cur 3 hrowk.out (List.replicate m (iv x)) (rep_len Hm.out) (rep_src x cur _ _ k m n Hm.out hrowk.out hall.out) (rep_fit hm2 hlen) (rep_one x m) w.heap.size w Hbel.out.drew (Nat.le_refl _) ?_; intro w3 hrow3 hb3; rw [List.length_replicate])
    have hwr : IntKind.i64.wrap ((k : Int) + (m : Int)) = ((k + m : Nat) : Int) := (IntWalk.i64_in _ (by omega)).trans (by omega)
    simp only [Act.put, List.setIfInBounds_toArray, List.set_cons_zero, List.set_cons_succ, List.getElem_toArray, List.getElem_cons_succ, List.getElem_cons_zero, hwr]
    clear hwr
    go_wp2
    go_roundw
    case rel => exact ⟨k + m, _, by omega, by omega, by go_num, hrow3, g1, G2, hb3⟩
    case measure => simp [intOf]; omega
   ·obtain rfl : k = n := by omega
    have he := all_same x cur k hlen hall.out
    subst he
    go_wp2
    go_ret
    exact ⟨_, rfl, Nat.le_refl _, hrowk.out, Hbel.out⟩
end Go.Proofs.YtockgbilbnheaaaDoor
