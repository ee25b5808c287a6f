/- Square tables of booleans in memory, and the reference's order: plain facts. -/
import Derived.Test.YtcekfgahhicdcaaOrdPo
import Derived.Deep.OwnRows
import Derived.StillTailTactics
namespace Go.Proofs.Ytcekfgahhicdcaa
open Go.RowKit

/-- A table of n rows of n booleans: the rows lie one behind the other. -/
structure Mx (g n : Nat) (M : Nat → Nat → Bool) (w : World) : Prop where
  out : w.rowIs g 59 n (fun i => .slice (some ⟨g + 1 + i, 0, none⟩) n n)
  row : ∀ i, i < n → w.rowIs (g + 1 + i) 4 n (fun j => .bool (M i j))
section
variable {g n : Nat} {M M' : Nat → Nat → Bool} {w w' : World}
theorem Mx.congr (h : Mx g n M w) (e : ∀ i, i < n → ∀ j, j < n → M i j = M' i j) : Mx g n M' w := ⟨h.out, fun i hi => (h.row i hi).congr fun j hj => by rw [e i hi j hj]⟩
theorem Mx.below (h : Mx g n M w) (hb : Below w.heap.size w w') : Mx g n M w' := ⟨h.out.of_block (hb.block _ h.out.lt), fun i hi => (h.row i hi).of_block (hb.block _ (h.row i hi).lt)⟩
theorem Mx.drewN (h : Mx g n M w) (m : Nat) : Mx g n M (w.drewN m) := ⟨h.out, h.row⟩
theorem Mx.drew (h : Mx g n M w) : Mx g n M w.drew := ⟨h.out, h.row⟩
theorem Mx.set (h : Mx g n M w) (i j : Nat) (b : Bool) : Mx g n (fun i' j' => if i' = i ∧ j' = j then b else M i' j') (w.setCell ⟨g + 1 + i, j, none⟩ (.bool b)) := by
  refine ⟨h.out.setOther (by show g ≠ g + 1 + i; omega) _, fun i' hi' => ?_⟩
  by_cases e : i' = i
  · subst e
    refine ((h.row i' hi').set j (.bool b)).congr fun j' _ => ?_
    by_cases e2 : j' = j
    · rw [if_pos e2, if_pos ⟨rfl, e2⟩]
    · rw [if_neg e2, if_neg (fun h => e2 h.2)]
  · refine ((h.row i' hi').setOther (by show g + 1 + i' ≠ g + 1 + i; omega) _).congr fun j' _ => ?_
    rw [if_neg (fun h => e h.1)]
theorem Mx.cellO (h : Mx g n M w) {i : Nat} (hi : i < n) : w.cell? ⟨g, i, none⟩ = some (.slice (some ⟨g + 1 + i, 0, none⟩) n n) := h.out.cell hi
theorem Mx.cellI (h : Mx g n M w) {i j : Nat} (hi : i < n) (hj : j < n) : w.cell? ⟨g + 1 + i, j, none⟩ = some (.bool (M i j)) := (h.row i hi).cell hj
theorem Mx.froz (h : Mx g n M w) {i : Nat} (hi : i < n) (j : Nat) : w.frozen? ⟨g + 1 + i, j, none⟩ = false := (h.row i hi).frozen j
end
section
variable {P : Program} {ops : Array Oper} {w : World} {Q : Act → Prop} {rest : List Oper} {o : Oper} {a : Act}
theorem wpStill_run' (v : Value) (hw : Region.wanted o (yielded ops a.tmps) = true) (hv : (execOp a.eval o).run P w = .ok (.value v) w) (h : wpStill P ops w Q rest (a.put o.dst v)) : wpStill P ops w Q (o :: rest) a := by
  unfold wpStill
  rw [if_pos hw]
  unfold Oper.still
  rw [hv, Oper.stillUpon_value]
  exact h
theorem wpStill_off (hw : Region.wanted o (yielded ops a.tmps) = false) (h : wpStill P ops w Q rest (a.put o.dst undef)) : wpStill P ops w Q (o :: rest) a := by
  unfold wpStill
  rw [if_neg (by rw [hw]; decide)]
  exact h
theorem wpStill_offb (b : Bool) (hb : b = true) (hw : Region.wanted o (yielded ops a.tmps) = (b == false)) (h : wpStill P ops w Q rest (a.put o.dst undef)) : wpStill P ops w Q (o :: rest) a := wpStill_off (by rw [hw, hb]; rfl) h
end
/-- The table while the reference completes it: round k, row i, in front of column j. -/
def Lv (E : Nat → Nat → Bool) (k i j : Nat) (a b : Nat) : Bool := Pk E (if a < i ∨ (a = i ∧ b < j) then k + 1 else k) a b
section
variable {E : Nat → Nat → Bool} {k i j a b n : Nat}
theorem Pk_col : Pk E (k + 1) a k = Pk E k a k := by rw [Pk]; cases Pk E k a k <;> simp
theorem Pk_row : Pk E (k + 1) k b = Pk E k k b := by rw [Pk]; cases Pk E k k k <;> simp
theorem Lv_col : Lv E k i j a k = Pk E k a k := by unfold Lv; split <;> simp only [Pk_col]
theorem Lv_row : Lv E k i j k b = Pk E k k b := by unfold Lv; split <;> simp only [Pk_row]
theorem Lv_here : Lv E k i j i j = Pk E k i j := by unfold Lv; rw [if_neg (by omega)]
theorem Lv_step (h : Pk E k i k = true) (x y : Nat) : (if x = i ∧ y = j then Pk E k i j || Pk E k k j else Lv E k i j x y) = Lv E k i (j + 1) x y := by
  by_cases e : x = i ∧ y = j
  · obtain ⟨rfl, rfl⟩ := e
    rw [if_pos ⟨rfl, rfl⟩]
    unfold Lv
    rw [if_pos (by omega), Pk, h, Bool.true_and]
  · rw [if_neg e]
    unfold Lv
    by_cases h1 : x < i ∨ (x = i ∧ y < j)
    · rw [if_pos h1, if_pos (by omega)]
    · rw [if_neg h1, if_neg (by omega)]
theorem Lv_rowend (x y : Nat) (hy : y < n) : Lv E k i n x y = Lv E k (i + 1) 0 x y := by
  unfold Lv
  by_cases h1 : x < i ∨ (x = i ∧ y < n)
  · rw [if_pos h1, if_pos (by omega)]
  · rw [if_neg h1, if_neg (by omega)]
theorem Lv_skip (h : Pk E k i k = false) (x y : Nat) : Lv E k i j x y = Lv E k (i + 1) 0 x y := by
  unfold Lv
  by_cases e : x = i
  · subst e
    have : Pk E (k + 1) x y = Pk E k x y := by rw [Pk, h]; simp
    rw [if_pos (show x < x + 1 ∨ (x = x + 1 ∧ y < 0) by omega), this]
    split
    · exact this
    · rfl
  · by_cases h1 : x < i
    · rw [if_pos (by omega), if_pos (by omega)]
    · rw [if_neg (by omega), if_neg (by omega)]
theorem Lv_round (x y : Nat) (hx : x < n) : Lv E k n 0 x y = Lv E (k + 1) 0 0 x y := by
  unfold Lv
  rw [if_pos (by omega), if_neg (by omega)]
theorem Lv_first (x y : Nat) : Lv E 0 0 0 x y = E x y := by
  unfold Lv
  rw [if_neg (by omega), Pk]
theorem Lv_last (x y : Nat) : Lv E k 0 0 x y = Pk E k x y := by
  unfold Lv
  rw [if_neg (by omega)]
end
theorem Eg_step {es : List (Int × Int)} {k a b : Nat} (hk : k < es.length) (h : es[k] = ((a : Int), (b : Int))) (x y : Nat) : (if x = a ∧ y = b then true else Eg (es.take k) x y) = Eg (es.take (k + 1)) x y := by
  rw [Eg_take_succ hk, h]
  by_cases e : x = a ∧ y = b
  · obtain ⟨rfl, rfl⟩ := e
    simp
  · rw [if_neg e]
    have : (((a : Int) == (x : Int)) && ((b : Int) == (y : Int))) = false := by
      rw [Bool.eq_false_iff]; simp only [ne_eq, Bool.and_eq_true, beq_iff_eq]; omega
    rw [this, Bool.or_false]
end Go.Proofs.Ytcekfgahhicdcaa
