/- The contract of slices.Backward's iterator. -/
import Derived.RangeFuncBox
import Derived.RangeFuncNested
import Derived.RangeFuncBound
import Derived.RangeFuncLeaves
import Derived.Shelf.Abstract
import Derived.OwnWalkIn
import Derived.TacticsInMore
import Derived.LoopNIn
import Derived.LoopIn
import Derived.Maps.AppendAt
import Derived.Test.YtnhhhnhakpambaaGrOwn
namespace Go.Proofs.Ytnhhhnhakpambaa
open Go.RowKit Go.Shelf
attribute [local go_sem] Oper.semAt_some

/-- What lies below n₀ stays, but for block gd. -/
def KpX (n₀ gd : Nat) (A B : World) : Prop := ∀ k, k < n₀ → k ≠ gd → B.heap[k]? = A.heap[k]?
theorem KpX.refl (n₀ gd : Nat) (A : World) : KpX n₀ gd A A := fun _ _ _ => rfl
theorem KpX.trans {n₀ gd : Nat} {A B C : World} (h : KpX n₀ gd A B) (k : KpX n₀ gd B C) : KpX n₀ gd A C := fun i h1 h2 => (k i h1 h2).trans (h i h1 h2)
theorem KpX.of_below {n₀ gd : Nat} {A B : World} (h : Below n₀ A B) : KpX n₀ gd A B := fun i h1 _ => h.block i h1
theorem KpX.cell {n₀ gd : Nat} {A B : World} (h : KpX n₀ gd A B) {p : Addr} (h1 : p.block < n₀) (h2 : p.block ≠ gd) : B.cell? p = A.cell? p := World.cell?_of_block (h p.block h1 h2)
theorem kpX_b {n₀ gd : Nat} {w : World} (hn : n₀ ≤ w.heap.size) (W : World) (l : Nat) (o o' : Obj) (hl : w.heap.size ≤ l) (_ : W.heap[l]? = some o) (_ : o.isCells = false) (_ : o.isWalk = false) : KpX n₀ gd W (W.putObj l o') :=
  fun k h1 _ => World.putObj_heap_other (fun e => by omega)
/-- The indices from the end down to k. -/
def downTo (n k : Nat) : List Nat := (List.range n).reverse.take (n - k)
theorem downTo_len (n k : Nat) : (downTo n k).length = n - k := by simp [downTo]
theorem downTo_all (n : Nat) : downTo n 0 = (List.range n).reverse := by
  unfold downTo; rw [List.take_of_length_le (by simp)]
theorem downTo_next {n m : Nat} (h : m < n) : downTo n m = downTo n (m + 1) ++ [m] := by
  unfold downTo
  rw [show n - m = n - (m + 1) + 1 by omega, List.take_succ_eq_append_getElem (by simp; omega)]
  congr 2
  rw [List.getElem_reverse]
  simp
  omega
theorem downTo_pre (n k : Nat) : downTo n k <+: (List.range n).reverse := List.take_prefix _ _
set_option maxRecDepth 100000 in
set_option maxHeartbeats 2000000 in
/-- The closure of Backward, for every loop body that keeps what lay below n₀, but for block gd. -/
theorem backward_in (n : Nat) (hn : 1 ≤ n) (l Bx n₀ gd : Nat) (sv : Value) (L : List Nat) (W0 : World) (hS : Sl nv W0 sv L) (hl : L.length ≤ 10000) (hbx : Bx < n₀) (hbg : Bx ≠ gd) (hsv : ∀ ad m c, sv = .slice (some ad) m c → ad.block < n₀ ∧ ad.block ≠ gd)
    (J Jx : List Nat → World → Prop)
    (hY : ∀ pre (i : Nat) W, J pre W → pre.length < L.length → YieldAt .wide (n - 1) Try.prog l #[.int .i64 (i : Int), .int .i64 ((L[i]?.getD 0 : Nat) : Int)] W fun e W' =>
      (e = .returned (.bool true) ∧ J (pre ++ [i]) W' ∧ KpX n₀ gd W W') ∨ (e = .returned (.bool false) ∧ Jx (pre ++ [i]) W'))
    (W : World) (hbW : KpX n₀ gd W0 W) (hBs : W.cell? ⟨Bx, 0, none⟩ = some sv) (h0 : J [] W) :
    CallsIn .wide n Try.prog 67 #[.func (.yield l) #[] #[], .pointer (some ⟨Bx, 0, none⟩)] W fun e W' => (∃ v, e = .returned v) ∧
      ((∃ ys, ys = (List.range L.length).reverse ∧ J ys W') ∨ (∃ pre, pre <+: (List.range L.length).reverse ∧ Jx pre W')) := by
  obtain ⟨A, c, rfl⟩ := hS.shape
  have HS := Lib.hid hS; have HbW := Lib.hid hbW; have HY := Lib.hid hY; have Hsv := Lib.hid hsv
  clear hS hbW hY hsv
  refine callsIn_of_wp Try.func67 rfl trivial ?_ rfl
  simp only [Try.ntmps67, List.size_toArray, List.length_cons, List.length_nil, Nat.reduceAdd, Nat.reduceSub, Array.replicate_succ, Array.replicate_zero, List.push_toArray, List.append_toArray, List.nil_append, List.cons_append]
  gi_wp2
  gi_loopw [3] (fun i wr => ∃ k : Nat, k ≤ L.length ∧ i = .int .i64 ((k : Int) - 1) ∧ J (downTo L.length k) wr ∧ KpX n₀ gd W wr) (fun i _ => (intOf i + 1).toNat)
  case atStart => exact ⟨L.length, Nat.le_refl _, rfl, by unfold downTo; rw [Nat.sub_self]; exact h0, KpX.refl _ _ _⟩
  case round =>
    obtain ⟨k, hk, rfl, hJs, hnx⟩ := hrel
    cases k with
    | zero =>
      gi_wp2
      go_end0
      exact ⟨⟨_, rfl⟩, .inl ⟨_, downTo_all _, hJs⟩⟩
    | succ m =>
      have em : (((m + 1 : Nat) : Int) - 1) = (m : Int) := by omega
      rw [em]
      clear em
      obtain ⟨ad, c', hs, hcap, hcell0⟩ := sl_cell HS.out m (by omega)
      simp only [Value.slice.injEq, true_and] at hs
      obtain ⟨rfl, rfl⟩ := hs
      obtain ⟨hb1, hb2⟩ := Hsv.out ad _ _ rfl
      have hcell := ((HbW.out.trans hnx).cell (p := ad.add m) (by rw [addr_add_block]; exact hb1) (by rw [addr_add_block]; exact hb2)).trans hcell0
      have hbx2 := (hnx.cell (p := ⟨Bx, 0, none⟩) hbx hbg).trans hBs
      have hLm : L[m]?.getD 0 = L[m] := by rw [List.getElem?_eq_getElem (by omega)]; rfl
      have hyy := HY.out _ m wr hJs (by rw [downTo_len]; omega)
      rw [hLm] at hyy
      have Hn := Lib.hid (downTo_next (n := L.length) (m := m) (by omega))
      rw [← Hn.out] at hyy
      have hml : m < L.length := by omega
      generalize L[m] = x at *
      unfold nv at hcell
      obtain ⟨fn, tmps, assign, body, hy, hR⟩ := hyy
      clear hcell0 hLm
      gi_wp2
      refine hR.mono ?_
      rintro e W3 (⟨rfl, hJ3, hk3⟩ | ⟨rfl, hJx3⟩)
      · gi_wp2
        go_roundw
        case rel => exact ⟨m, by omega, by go_num, hJ3, hnx.trans hk3⟩
        case measure => simp [intOf]
      · gi_wp2
        refine bodyPost_ret (results_none rfl _ _ _) rfl ?_
        exact ⟨⟨_, rfl⟩, .inr ⟨_, downTo_pre _ _, hJx3⟩⟩
theorem backward_stops (n : Nat) (hn : 1 ≤ n) (Bx n₀ gd : Nat) (sv : Value) (L : List Nat) (W0 w : World) (hS : Sl nv W0 sv L) (hl : L.length ≤ 10000) (hbx : Bx < n₀) (hbg : Bx ≠ gd) (hsv : ∀ ad m c, sv = .slice (some ad) m c → ad.block < n₀ ∧ ad.block ≠ gd)
    (hb : KpX n₀ gd W0 w) (hw : n₀ ≤ w.heap.size) (hc : w.cell? ⟨Bx, 0, none⟩ = some sv) :
    SeqStopsK .wide n Try.prog 67 #[.pointer (some ⟨Bx, 0, none⟩)] (fun i : Nat => #[Value.int .i64 (i : Int), Value.int .i64 ((L[i]?.getD 0 : Nat) : Int)]) (KpX n₀ gd) (fun ys => ys = (List.range L.length).reverse) (fun pre => pre <+: (List.range L.length).reverse) L.length w := fun l J Jx W hW _ _ hY h0 =>
  backward_in n hn l Bx n₀ gd sv L W0 hS hl hbx hbg hsv J Jx hY W (hb.trans (KpX.of_below (hW.mono hw))) ((hW.cell (p := ⟨Bx, 0, none⟩) (Nat.lt_of_lt_of_le hbx hw)).trans hc) h0
/-- Backward(s): the slice is boxed; the function value captures the box. -/
theorem backward_make (n : Nat) (A : Option Addr) (len cap : Nat) (w : World) :
    CallsIn .wide n Try.prog 61 #[.slice A len cap] w fun e w' => e = .returned (.func (.func 67) #[] #[.pointer (some ⟨w.heap.size, 0, none⟩)]) ∧ w' = w.alloc (.cells #[.slice A len cap] 38) := by
  refine callsIn_of_wp Try.func61 rfl trivial ?_ rfl
  simp only [Try.ntmps61, List.size_toArray, List.length_cons, List.length_nil, Nat.reduceAdd, Nat.reduceSub, Array.replicate_succ, Array.replicate_zero, List.push_toArray, List.append_toArray, List.nil_append, List.cons_append]
  gi_wp2
  go_ret
  exact ⟨rfl, rfl⟩
end Go.Proofs.Ytnhhhnhakpambaa
