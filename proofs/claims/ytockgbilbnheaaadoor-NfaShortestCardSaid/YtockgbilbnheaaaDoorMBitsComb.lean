/- The contracts of bits.combine with each operation, of Union, Inter and Minus. -/
import Derived.Test.YtockgbilbnheaaaDoorMBitsFn
import Derived.OwnWalk
import Derived.Laws.OwnMore
import Derived.Deep.QuietTactic
import Derived.BigQuiet
namespace Go.Proofs.YtockgbilbnheaaaDoor
/- The contracts of bits.combine with each operation, of Union, Inter and Minus. -/
open Go.RowKit

theorem info_u64 : (Tryd.prog.info? 68).map (fun i => (i.zero, i.size, i.bytes)) = some (some (.int .u64 0), 1, 8) := by kernel_rfl
/-- The row while it is filled: k words are written. -/
def crow (op : Nat → Nat → Nat) (m k : Nat) (a b : List Nat) : List Nat := (List.range m).map fun i => if i < k then op (a[i]?.getD 0) (b[i]?.getD 0) else 0
theorem crow_len (op : Nat → Nat → Nat) (m k : Nat) (a b : List Nat) : (crow op m k a b).length = m := by simp [crow]
theorem crow_zero (op : Nat → Nat → Nat) (m : Nat) (a b : List Nat) : (crow op m 0 a b).map uv = List.replicate m (uv 0) := by
 rw [crow, List.map_map]
 apply List.ext_getElem
 ·simp
 ·intro i h1 h2; simp
theorem crow_set (op : Nat → Nat → Nat) (m k : Nat) (a b : List Nat) : ((crow op m k a b).map uv).set k (uv (op (a[k]?.getD 0) (b[k]?.getD 0))) = (crow op m (k + 1) a b).map uv := by
 rw [← List.map_set]
 congr 1
 apply List.ext_getElem
 ·simp [crow]
 ·intro i h1 h2
  simp only [crow, List.length_map, List.length_range] at h2
  rw [List.getElem_set]
  by_cases hik : k = i
  ·subst hik; simp [crow]
  ·rw [if_neg hik]
   simp only [crow, List.getElem_map, List.getElem_range]
   by_cases hlt : i < k
   ·rw [if_pos hlt, if_pos (by omega)]
   ·rw [if_neg hlt, if_neg (by omega)]
theorem crow_all (op : Nat → Nat → Nat) (m : Nat) (a b : List Nat) : crow op m m a b = comb op m a b := by
 unfold crow comb
 apply List.map_congr_left
 intro i hi
 rw [if_pos (List.mem_range.1 hi)]
/-- A slice value at the head of an own row of words of that length. -/
def Own (B : Nat) (w : World) (v : Value) (xs : List Nat) : Prop :=
 ∃ (g m : Nat) (ys : List Nat), v = .slice (some ⟨g, 0, none⟩) xs.length m ∧ w.ownsRow B 68 1 (.slice (some ⟨g, 0, none⟩) m m) m (ys.map uv) ∧ xs = ys.take xs.length ∧ xs.length ≤ m
theorem Own.sl {B : Nat} {w : World} {v : Value} {xs : List Nat} (h : Own B w v xs) : Sl uv w v xs := by
 obtain ⟨g, m, ys, rfl, ho, e, hl⟩ := h
 have := (Sl.of_own (f := uv) (xs := ys) ho).take ⟨g, 0, none⟩ m m xs.length hl
 rwa [← e] at this
def MadeP (w : World) (xs : List Nat) (e : Ending) (w' : World) : Prop := ∃ v, e = .returned v ∧ Own w.heap.size w' v xs ∧ Below w.heap.size w w'
theorem used_own {B : Nat} {w : World} {g m : Nat} {ys : List Nat} {v : Value} (ho : w.ownsRow B 68 1 (.slice (some ⟨g, 0, none⟩) m m) m (ys.map uv)) (hv : v = .slice (some ⟨g, 0, none⟩) (ulen ys) m) : Own B w v (used ys) := by
 have hl : ys.length = m := by simpa using ho.1
 have h1 := (ulen_le ys).1
 exact ⟨g, m, ys, by rw [used_len]; exact hv, ho, by rw [used_len]; rfl, by rw [used_len]; omega⟩


theorem or_fn (x y : Nat) (w : World) (hx : U64 x) (hy : U64 y) : Calls Tryd.prog 33 #[.int .u64 (x : Int), .int .u64 (y : Int)] w fun e w' => e = .returned (.int .u64 ((x ||| y : Nat) : Int)) ∧ w = w' := by
 have hb : bits .or .u64 (x : Int) (y : Int) = ((x ||| y : Nat) : Int) := u64_or_nat _ _ hx hy
 have Hb := Lib.hid hb; clear hb
 clear hx hy
 go_enter Tryd.func33, Tryd.ntmps33
 go_wp2
 go_ret
 exact ⟨congrArg (fun n => Ending.returned (Value.int .u64 n)) Hb.out, rfl⟩
set_option maxRecDepth 100000 in
set_option maxHeartbeats 400000 in
theorem or_comb (va vb : Value) (a b : List Nat) (w : World) (ha : Sl uv w va a) (hb : Sl uv w vb b) (la : Room2 a.length) (lb : Room2 b.length) (wa : Wds a) (wb : Wds b) :
  Calls Tryd.prog 32 #[va, vb, .func (.func 33) #[] #[]] w (MadeP w (setop (fun x y => x ||| y) a b)) := by
 have Ha := Lib.hid ha; have Hb := Lib.hid hb; have La := Lib.hid la; have Lb := Lib.hid lb; have Wa := Lib.hid wa; have Wb := Lib.hid wb
 clear ha hb la lb wa wb
 have ua := (ulen_le a).2
 have ub := (ulen_le b).2
 obtain ⟨i0, hi, hz0, hz1, hz2⟩ := info_parts info_u64
 go_enter Tryd.func32, Tryd.ntmps32
 go_wp2_with fail
 refine (used_any va a _ Ha.out La.out).mono ?_
 rintro e w1 ⟨v1, rfl, _, h1, rfl⟩
 obtain ⟨A1, c1, rfl⟩ := h1.shape
 rw [used_len]
 clear h1
 go_wp2_with fail
 refine (used_any vb b _ Hb.out Lb.out).mono ?_
 rintro e w1 ⟨v1, rfl, _, h1, rfl⟩
 obtain ⟨A2, c2, rfl⟩ := h1.shape
 rw [used_len]
 clear h1
 obtain ⟨m, hm⟩ : ∃ m, m = max (ulen a) (ulen b) := ⟨_, rfl⟩
 have hm64 : m ≤ 64 := by omega
 have Hm := Lib.hid hm
 clear hm
 go_wp2_with (at_make; refine wpList_make_full _ rfl _ _ _ rfl w.heap.size 68 i0 _ 1 (by kernel_rfl) hi hz0 hz1 _ _ _ _ m rfl rfl (by have := Hm.out; omega) (by have := Hm.out; omega) (by rw [hz2]; omega) (by unfold maxLen; omega) (Nat.le_refl _) ?_; intro w1 hown hgr)
 all_goals
  have hb1 : Below w.heap.size w w1 := (Below.refl _ w).grown hgr (Nat.le_refl _) (fun k e => by cases e)
  have hown1 : w1.ownsRow w.heap.size 68 1 (.slice (some ⟨w.heap.size, 0, none⟩) m m) m ((crow (fun x y => x ||| y) m 0 a b).map uv) := by
   rw [crow_zero, ← toList_madeCells_one]
   rw [Nat.mul_one] at hown
   exact hown
  have Hown1 := Lib.hid hown1
  clear hown1 hown hgr
  go_loopw [19] (fun i wr => ∃ k : Nat, k ≤ m ∧ i = .int .i64 k ∧ wr.ownsRow w.heap.size 68 1 (.slice (some ⟨w.heap.size, 0, none⟩) m m) m ((crow (fun x y => x ||| y) m k a b).map uv) ∧ Below w.heap.size w wr) (fun i _ => m - (intOf i).toNat)
  case atStart => exact ⟨0, Nat.zero_le _, rfl, Hown1.out, hb1⟩
  case round =>
   obtain ⟨k, hk, rfl, hown, hbel⟩ := hrel
   have Hbel := Lib.hid hbel
   by_cases hlt : k < m
   ·have ck := hown.cellAt k (by omega)
    have fk := hown.frozenAt k
    rw [List.getElem?_map, List.getElem?_eq_getElem (by rw [crow_len]; exact hlt)] at ck
    have hst := (hown.stored k (uv ((fun x y => x ||| y) (a[k]?.getD 0) (b[k]?.getD 0)))).1
    rw [crow_set] at hst
    have Hst := Lib.hid hst
    clear hst hown
    go_wp2_with fail
    refine (word_any va a k _ (Ha.out.below Hbel.out) La.out).mono ?_
    rintro e w3 ⟨rfl, rfl⟩
    go_wp2_with fail
    refine (word_any vb b k _ (Hb.out.below Hbel.out) Lb.out).mono ?_
    rintro e w3 ⟨rfl, rfl⟩
    go_wp2_with fail
    refine (or_fn _ _ _ (Wa.out.at k) (Wb.out.at k)).mono ?_
    rintro e w3 ⟨rfl, rfl⟩
    go_wp2
    go_roundw
    case rel => exact ⟨k + 1, by omega, by go_num, Hst.out, Hbel.out.setCell (p := ⟨w.heap.size, k, none⟩) (Nat.le_refl _) _⟩
    case measure => simp [intOf]; omega
   ·obtain rfl : k = m := by omega
    have Hown := Lib.hid hown; clear hown hbel
    go_wp2_with fail
    refine (used_any _ (crow (fun x y => x ||| y) k k a b) _ (Sl.of_own Hown.out) (by rw [crow_len]; unfold Room2; omega)).mono ?_
    rintro e w3 ⟨v3, rfl, hv3, h3, rfl⟩
    have h4 := used_own Hown.out hv3
    rw [crow_all] at h4
    rw [Hm.out] at h4
    clear h3 hv3
    go_wp2
    go_ret
    exact ⟨_, rfl, h4, Hbel.out⟩

theorem union_any (va vb : Value) (a b : List Nat) (w : World) (ha : Sl uv w va a) (hb : Sl uv w vb b) (la : Room2 a.length) (lb : Room2 b.length) (wa : Wds a) (wb : Wds b) :
  Calls Tryd.prog 15 #[va, vb] w (MadeP w (setop (fun x y => x ||| y) a b)) := by
 have Ha := Lib.hid ha; have Hb := Lib.hid hb; have La := Lib.hid la; have Lb := Lib.hid lb; have Wa := Lib.hid wa; have Wb := Lib.hid wb
 clear ha hb la lb wa wb
 go_enter Tryd.func15, Tryd.ntmps15
 go_wp2_with fail
 refine (or_comb va vb a b _ Ha.out Hb.out La.out Lb.out Wa.out Wb.out).mono ?_
 rintro e w1 ⟨v, rfl, h1, h2⟩
 go_wp2
 go_ret
 exact ⟨_, rfl, h1, h2⟩
/- The contracts of Sub and Has. -/
open Go.RowKit

/-- used(v), as a loop reads it. -/
theorem used_cells {v1 : Value} {ws : List Nat} {w : World} (h1 : Sl uv w v1 (used ws)) : ∀ k, k < ulen ws → ∃ ad c, v1 = .slice (some ad) (ulen ws) c ∧ ulen ws ≤ c ∧ w.cell? (ad.add k) = some (.int .u64 ((ws[k]?.getD 0 : Nat) : Int)) := by
 have hul := (ulen_le ws).1
 intro k hk
 rcases h1 with ⟨rfl, h0⟩ | ⟨ad, c, rfl, hc, hcell⟩
 ·have := congrArg List.length h0
  rw [used_len, List.length_nil] at this
  omega
 ·rw [used_len] at hc ⊢
  refine ⟨ad, c, rfl, hc, hcell k _ ?_⟩
  rw [used, List.getElem?_take, if_pos hk, List.getElem?_eq_getElem (by omega)]
  rfl
def subM (a b : List Nat) : Bool := (List.range (ulen a)).all fun i => andn (a[i]?.getD 0) (b[i]?.getD 0) == 0
theorem andn_zero (y : Nat) : andn 0 y = 0 := by
 apply Nat.eq_of_testBit_eq
 intro i
 rw [andn_bit]
 simp
theorem subM_iff (a b : List Nat) : subM a b = true ↔ ∀ i, andn (wat a i) (wat b i) = 0 := by
 unfold subM
 rw [List.all_eq_true]
 have h64 := (ulen_le a).2
 constructor
 ·intro h i
  by_cases hi : i < ulen a
  ·have := h i (List.mem_range.2 hi)
   rw [beq_iff_eq] at this
   unfold wat
   rw [if_pos (by omega), if_pos (by omega)]
   exact this
  ·rw [wat_zero a i (by omega)]
   exact andn_zero _
 ·intro h i hi
  have hi := List.mem_range.1 hi
  have := h i
  unfold wat at this
  rw [if_pos (by omega), if_pos (by omega)] at this
  rw [beq_iff_eq]
  exact this
theorem andn_run (x y : Nat) (hx : U64 x) (hy : U64 y) : bits .andNot .u64 (x : Int) (y : Int) = ((andn x y : Nat) : Int) := (u64_andNot_nat _ _ hx hy).trans (congrArg (fun n : Nat => (n : Int)) (andn_eq x y hx hy))
set_option maxHeartbeats 400000 in
theorem sub_any (va vb : Value) (a b : List Nat) (w : World) (ha : Sl uv w va a) (hb : Sl uv w vb b) (la : Room2 a.length) (lb : Room2 b.length) (wa : Wds a) (wb : Wds b) :
  Calls Tryd.prog 13 #[va, vb] w fun e w' => e = .returned (.bool (subM a b)) ∧ w = w' := by
 have Ha := Lib.hid ha; have Hb := Lib.hid hb; have La := Lib.hid la; have Lb := Lib.hid lb; have Wa := Lib.hid wa; have Wb := Lib.hid wb
 clear ha hb la lb wa wb
 have hu := (ulen_le a).2
 go_enter Tryd.func13, Tryd.ntmps13
 go_wp2_with fail
 refine (used_any va a _ Ha.out La.out).mono ?_
 rintro e w1 ⟨v1, rfl, _, h1, rfl⟩
 have Hc := Lib.hid (used_cells h1)
 obtain ⟨A1, c1, rfl⟩ := h1.shape
 rw [used_len] at Hc ⊢
 clear h1
 go_wp2_with fail
 go_loop [10] (fun i => ∃ k : Nat, k ≤ ulen a ∧ i = .int .i64 k ∧ ∀ i, i < k → andn (a[i]?.getD 0) (b[i]?.getD 0) = 0) (fun i => ulen a - (intOf i).toNat)
 case atStart => exact ⟨0, Nat.zero_le _, rfl, fun i hi => by omega⟩
 case round =>
  obtain ⟨k, hk, rfl, hall⟩ := hrel
  have Hall := Lib.hid hall; clear hall
  by_cases hlt : k < ulen a
  ·obtain ⟨ad, c, hs, hcap, hcell⟩ := Hc.out k hlt
   simp only [Value.slice.injEq, true_and] at hs
   obtain ⟨rfl, rfl⟩ := hs
   have hr := andn_run _ _ (Wa.out.at k) (Wb.out.at k)
   go_wp2_with fail
   refine (word_any vb b k _ Hb.out Lb.out).mono ?_
   rintro e w3 ⟨rfl, rfl⟩
   by_cases hz : andn (a[k]?.getD 0) (b[k]?.getD 0) = 0
   ·have hnext : ∀ i, i < k + 1 → andn (a[i]?.getD 0) (b[i]?.getD 0) = 0 := by
     intro i hi
     by_cases e : i = k
     ·subst e; exact hz
     ·exact Hall.out i (by omega)
    have Hn := Lib.hid hnext; clear hnext
    rw [hz] at hr
    clear hz
    go_wp2
    go_round
    case rel => exact ⟨k + 1, by omega, by go_num, Hn.out⟩
    case measure => simp [intOf]; omega
   ·have hf : subM a b = false := by
     rw [Bool.eq_false_iff]
     intro h
     have := List.all_eq_true.1 h k (List.mem_range.2 hlt)
     rw [beq_iff_eq] at this
     exact hz this
    have Hf := Lib.hid hf; clear hf
    have hne : (((andn (a[k]?.getD 0) (b[k]?.getD 0) : Nat) : Int) != 0) = true := by rw [bne_iff_ne]; omega
    generalize andn (a[k]?.getD 0) (b[k]?.getD 0) = z at *
    go_wp2
    go_ret
    exact ⟨by rw [Hf.out]; rfl, rfl⟩
  ·have hf : subM a b = true := by
    unfold subM
    rw [List.all_eq_true]
    intro i hi
    rw [beq_iff_eq]
    exact Hall.out i (by have := List.mem_range.1 hi; omega)
   have Hf := Lib.hid hf; clear hf
   go_wp2
   go_ret
   exact ⟨by rw [Hf.out]; rfl, rfl⟩
/- Numbers as values. -/
open Go.RowKit

def nv (n : Nat) : Value := .int .i64 (n : Int)
theorem Sl.nv_iv {w : World} {v : Value} {xs : List Nat} (h : Sl nv w v xs) : Sl iv w v (xs.map fun n : Nat => (n : Int)) := by
 rcases h with ⟨rfl, rfl⟩ | ⟨ad, c, rfl, hc, hcell⟩
 ·exact .inl ⟨rfl, rfl⟩
 ·refine .inr ⟨ad, c, by rw [List.length_map], by rw [List.length_map]; exact hc, fun j b hj => ?_⟩
  rw [List.getElem?_map] at hj
  cases hx : xs[j]? with
  | none => rw [hx] at hj; cases hj
  | some n => rw [hx] at hj; cases hj; exact hcell j n hx
end Go.Proofs.YtockgbilbnheaaaDoor
