/- OrderBefore: for every input the law returns true. -/
import Derived.Test.YtiaidkdpfmbemaaOrdAw
import Derived.Test.YtiaidkdpfmbemaaOrdRb
namespace Go.Proofs.Ytiaidkdpfmbemaa
open Go.RowKit

set_option maxRecDepth 20000 in
set_option maxHeartbeats 4000000 in
theorem orderbefore_walk (N : Int) (A : Option Addr) (c : Nat) (es : List (Int × Int)) (x y : Int) (w : World) (h : Prs w (.slice A es.length c) es) (hmx : es.length ≤ 9223372036854775807) : Calls Try.prog 3 #[.agg #[.int .i64 N, .slice A es.length c], .int .i64 x, .int .i64 y] w (Ok w) := by
  obtain ⟨W, hW⟩ : ∃ W, W = w.alloc (.cells #[.int .i64 N, .slice A es.length c] 24) := ⟨_, rfl⟩
  have hWs : w.heap.size < W.heap.size := by rw [hW]; simp
  have hWb : W.heap[w.heap.size]? = some (.cells #[.int .i64 N, .slice A es.length c] 24 (0, 0)) := by rw [hW]; exact heap_alloc_new w _
  have hbw : Below w.heap.size w W := by rw [hW]; exact below_alloc _ _
  have KX := Lib.hid (show ∀ w', Below W.heap.size W w' → w'.heap[w.heap.size]? = some (.cells #[.int .i64 N, .slice A es.length c] 24 (0, 0)) from fun w' h => (h.block _ hWs).trans hWb)
  have KE := Lib.hid (show ∀ w', Below W.heap.size W w' → Below w.heap.size w w' from fun w' h => hbw.trans (h.mono (Nat.le_of_lt hWs)))
  have KP := Lib.hid (show ∀ w', Below W.heap.size W w' → Prs w' (.slice A es.length c) es from fun w' h' => h.below (KE.out _ h'))
  have HW := Lib.hid hW
  clear hWb hbw hW h
  cases hf : fewB N es.length with
  | false =>
    have Hf := Lib.hid hf; clear hf
    go_enter Try.func3, Try.ntmps3
    go_wp2_with fail
    rw [← HW.out]
    refine (awake_any W).mono ?_
    rintro e w1 ⟨rfl, hb1⟩
    have B1 := Lib.hid hb1
    clear hb1
    have hxx := KX.out _ B1.out
    have o0 := cell_of_row _ _ 0 _ _ _ hxx
    have o1 := cell_of_row _ _ 1 _ _ _ hxx
    go_wp2_with fail
    refine (few_any _ _ _ _ _).mono ?_
    rintro e w2 ⟨rfl, hb2⟩
    rw [Hf.out]
    have B2 := Lib.hid (bl2 B1.out hb2)
    clear hb2 hxx o0 o1
    have hxx := KX.out _ B2.out
    have o0 := cell_of_row _ _ 0 _ _ _ hxx
    have o1 := cell_of_row _ _ 1 _ _ _ hxx
    go_wp2_with fail
    refine (awake_any _).mono ?_
    rintro e w9 ⟨rfl, hb9⟩
    have B9 := Lib.hid (KE.out _ (bl2 B2.out hb9))
    clear hb9
    go_wp2
    go_ret
    exact ⟨rfl, B9.out⟩
  | true =>
    have hl : es.length ≤ 80 ∧ N ≤ 12 := by
      unfold fewB at hf
      rw [Bool.and_eq_true, decide_eq_true_iff, decide_eq_true_iff] at hf
      exact ⟨hf.2, hf.1⟩
    obtain ⟨hl, hN⟩ := hl
    have hl' : es.length ≤ 100000 := by omega
    have Hf := Lib.hid hf; clear hf hmx
    go_enter Try.func3, Try.ntmps3
    go_wp2_with fail
    rw [← HW.out]
    refine (awake_any W).mono ?_
    rintro e w1 ⟨rfl, hb1⟩
    have B1 := Lib.hid hb1
    clear hb1
    have hxx := KX.out _ B1.out
    have o0 := cell_of_row _ _ 0 _ _ _ hxx
    have o1 := cell_of_row _ _ 1 _ _ _ hxx
    go_wp2_with fail
    refine (few_any _ _ _ _ _).mono ?_
    rintro e w2 ⟨rfl, hb2⟩
    rw [Hf.out]
    have B2 := Lib.hid (bl2 B1.out hb2)
    clear hb2 hxx o0 o1
    have hxx := KX.out _ B2.out
    have o0 := cell_of_row _ _ 0 _ _ _ hxx
    have o1 := cell_of_row _ _ 1 _ _ _ hxx
    have HB := Lib.hid (show ∀ w', Below (w2.alloc (.cells #[.int .i64 N, .slice A es.length c] 27)).heap.size (w2.alloc (.cells #[.int .i64 N, .slice A es.length c] 27)) w' → Below W.heap.size W w' from fun w' h => bl2 (B2.out.alloc B2.out.size _) h)
    have KY := Lib.hid (show ∀ w', Below (w2.alloc (.cells #[.int .i64 N, .slice A es.length c] 27)).heap.size (w2.alloc (.cells #[.int .i64 N, .slice A es.length c] 27)) w' → w'.heap[w2.heap.size]? = some (.cells #[.int .i64 N, .slice A es.length c] 27 (0, 0)) from fun w' h => box_keep h)
    clear hxx o0 o1
    have hxx := KX.out _ B2.out
    have o0 := cell_of_row _ _ 0 _ _ _ hxx
    have o1 := cell_of_row _ _ 1 _ _ _ hxx
    go_wp2_with fail
    refine region_phi (n := 44) (fun i v w' => match i with
          | 0 => v = .agg #[.int .i64 N, .slice A es.length c]
          | 1 => v = .bool (valO N es)
          | 2 => v = .agg #[.int .i64 N, .slice A es.length c]
          | 3 => v = .bool (valO N es)
          | 4 => v = .bool true
          | 5 => v = .bool true
          | 6 => v = .agg #[.int .i64 N, .slice A es.length c]
          | 7 => v = .int .i64 x
          | 8 => v = .int .i64 y
          | 9 => v = .bool (befO N es x y)
          | 10 => v = .agg #[.int .i64 N, .slice A es.length c]
          | 11 => v = .int .i64 x
          | 12 => v = .int .i64 y
          | 13 => v = .bool (befO N es x y)
          | 14 => v = .bool true
          | 15 => v = .bool true
          | 16 => v = .bool true
          | 17 => v = .agg #[.int .i64 N, .slice A es.length c]
          | 18 => v = .int .i64 x
          | 19 => v = .int .i64 y
          | 20 => v = .bool (conO N es x y)
          | 21 => v = .agg #[.int .i64 N, .slice A es.length c]
          | 22 => v = .int .i64 x
          | 23 => v = .int .i64 y
          | 24 => v = .bool (conO N es x y)
          | 25 => v = .bool true
          | 26 => v = .bool true
          | 27 => v = .bool true
          | _ => True) (by kernel_rfl) (by kernel_rfl) rfl ?_ (allOps_spec ?_) ?_
    · intro i v w' w'' h hb
      match i, h with
      | 0, h => exact h
      | 1, h => exact h
      | 2, h => exact h
      | 3, h => exact h
      | 4, h => exact h
      | 5, h => exact h
      | 6, h => exact h
      | 7, h => exact h
      | 8, h => exact h
      | 9, h => exact h
      | 10, h => exact h
      | 11, h => exact h
      | 12, h => exact h
      | 13, h => exact h
      | 14, h => exact h
      | 15, h => exact h
      | 16, h => exact h
      | 17, h => exact h
      | 18, h => exact h
      | 19, h => exact h
      | 20, h => exact h
      | 21, h => exact h
      | 22, h => exact h
      | 23, h => exact h
      | 24, h => exact h
      | 25, h => exact h
      | 26, h => exact h
      | 27, h => exact h
      | _ + 28, _ => trivial
    · refine ⟨?_, ?_, ?_, ?_, ?_, ?_, ?_, ?_, ?_, ?_, ?_, ?_, ?_, ?_, ?_, ?_, ?_, ?_, ?_, ?_, ?_, ?_, ?_, ?_, ?_, ?_, ?_, ?_, trivial⟩
      · intro a w' hb hp
        have b7 : a.tmps[7]?.getD undef = .pointer (some ⟨w2.heap.size, 0, none⟩) := hb.at 7 (by kernel_rfl)
        exact step_run (v := .agg #[.int .i64 N, .slice A es.length c]) rfl (by simp [execOp, go_sem, b7, cell_of_row _ _ 0 _ _ _ (KY.out _ hb.ext), cell_of_row _ _ 1 _ _ _ (KY.out _ hb.ext)]) rfl
      · intro a w' hb hp
        have h17 : a.tmps[17]?.getD undef = .agg #[.int .i64 N, .slice A es.length c] := slot_eq.symm.trans (hp ⟨0, .data⟩ (by simp) rfl _ rfl)
        refine step_call (f := 13) (args := #[.agg #[.int .i64 N, .slice A es.length c]]) rfl (by simp [go_sem, h17]) ?_
        refine (valid_any N _ es _ (KP.out _ (HB.out _ hb.ext)) hl').mono ?_
        rintro e w8 ⟨h9, hb8⟩
        exact ⟨_, h9, hb8, rfl⟩
      · intro a w' hb hp
        have b3 : a.tmps[3]?.getD undef = .pointer (some ⟨w.heap.size, 0, none⟩) := hb.at 3 (by kernel_rfl)
        exact step_run (v := .agg #[.int .i64 N, .slice A es.length c]) rfl (by simp [execOp, go_sem, b3, cell_of_row _ _ 0 _ _ _ (KX.out _ (HB.out _ hb.ext)), cell_of_row _ _ 1 _ _ _ (KX.out _ (HB.out _ hb.ext))]) rfl
      · intro a w' hb hp
        have h19 : a.tmps[19]?.getD undef = .agg #[.int .i64 N, .slice A es.length c] := slot_eq.symm.trans (hp ⟨2, .data⟩ (by simp) rfl _ rfl)
        refine step_call (f := 14) (args := #[.agg #[.int .i64 N, .slice A es.length c]]) rfl (by simp [go_sem, h19]) ?_
        refine (rvalid_any N _ es _ (KP.out _ (HB.out _ hb.ext)) hl').mono ?_
        rintro e w8 ⟨h9, hb8⟩
        exact ⟨_, h9, hb8, rfl⟩
      · intro a w' hb hp
        have h18 : a.tmps[18]?.getD undef = .bool (valO N es) := slot_eq.symm.trans (hp ⟨1, .data⟩ (by simp) rfl _ rfl)
        have h20 : a.tmps[20]?.getD undef = .bool (valO N es) := slot_eq.symm.trans (hp ⟨3, .data⟩ (by simp) rfl _ rfl)
        exact step_run (v := .bool true) rfl (by simp [execOp, go_sem, h18, h20]) rfl
      · intro a w' hb hp
        have h21 : a.tmps[21]?.getD undef = .bool true := slot_eq.symm.trans (hp ⟨4, .data⟩ (by simp) rfl _ rfl)
        exact step_run (v := .bool true) rfl (by simp [execOp, Act.eval, h21]) rfl
      · intro a w' hb hp
        have b7 : a.tmps[7]?.getD undef = .pointer (some ⟨w2.heap.size, 0, none⟩) := hb.at 7 (by kernel_rfl)
        have g22 : a.tmps[22]?.getD undef = .bool true := slot_eq.symm.trans (hp ⟨5, .guard⟩ (by simp) rfl _ rfl)
        exact step_run (v := .agg #[.int .i64 N, .slice A es.length c]) (by simp [Region.wanted, yielded, bool_at g22]) (by simp [execOp, go_sem, b7, cell_of_row _ _ 0 _ _ _ (KY.out _ hb.ext), cell_of_row _ _ 1 _ _ _ (KY.out _ hb.ext)]) rfl
      · intro a w' hb hp
        have b1 : a.tmps[1]?.getD undef = .int .i64 x := hb.at 1 (by kernel_rfl)
        have g22 : a.tmps[22]?.getD undef = .bool true := slot_eq.symm.trans (hp ⟨5, .guard⟩ (by simp) rfl _ rfl)
        exact step_run (v := .int .i64 x) (by simp [Region.wanted, yielded, bool_at g22]) (by simp [execOp, Act.eval, b1]) rfl
      · intro a w' hb hp
        have b2 : a.tmps[2]?.getD undef = .int .i64 y := hb.at 2 (by kernel_rfl)
        have g22 : a.tmps[22]?.getD undef = .bool true := slot_eq.symm.trans (hp ⟨5, .guard⟩ (by simp) rfl _ rfl)
        exact step_run (v := .int .i64 y) (by simp [Region.wanted, yielded, bool_at g22]) (by simp [execOp, Act.eval, b2]) rfl
      · intro a w' hb hp
        have h23 : a.tmps[23]?.getD undef = .agg #[.int .i64 N, .slice A es.length c] := slot_eq.symm.trans (hp ⟨6, .data⟩ (by simp) rfl _ rfl)
        have h24 : a.tmps[24]?.getD undef = .int .i64 x := slot_eq.symm.trans (hp ⟨7, .data⟩ (by simp) rfl _ rfl)
        have h25 : a.tmps[25]?.getD undef = .int .i64 y := slot_eq.symm.trans (hp ⟨8, .data⟩ (by simp) rfl _ rfl)
        have g22 : a.tmps[22]?.getD undef = .bool true := slot_eq.symm.trans (hp ⟨5, .guard⟩ (by simp) rfl _ rfl)
        refine step_call (f := 15) (args := #[.agg #[.int .i64 N, .slice A es.length c], .int .i64 x, .int .i64 y]) (by simp [Region.wanted, yielded, bool_at g22]) (by simp [go_sem, h23, h24, h25]) ?_
        refine (before_any N x y _ es _ (KP.out _ (HB.out _ hb.ext)) hl').mono ?_
        rintro e w8 ⟨h9, hb8⟩
        exact ⟨_, h9, hb8, rfl⟩
      · intro a w' hb hp
        have b3 : a.tmps[3]?.getD undef = .pointer (some ⟨w.heap.size, 0, none⟩) := hb.at 3 (by kernel_rfl)
        have g22 : a.tmps[22]?.getD undef = .bool true := slot_eq.symm.trans (hp ⟨5, .guard⟩ (by simp) rfl _ rfl)
        exact step_run (v := .agg #[.int .i64 N, .slice A es.length c]) (by simp [Region.wanted, yielded, bool_at g22]) (by simp [execOp, go_sem, b3, cell_of_row _ _ 0 _ _ _ (KX.out _ (HB.out _ hb.ext)), cell_of_row _ _ 1 _ _ _ (KX.out _ (HB.out _ hb.ext))]) rfl
      · intro a w' hb hp
        have b1 : a.tmps[1]?.getD undef = .int .i64 x := hb.at 1 (by kernel_rfl)
        have g22 : a.tmps[22]?.getD undef = .bool true := slot_eq.symm.trans (hp ⟨5, .guard⟩ (by simp) rfl _ rfl)
        exact step_run (v := .int .i64 x) (by simp [Region.wanted, yielded, bool_at g22]) (by simp [execOp, Act.eval, b1]) rfl
      · intro a w' hb hp
        have b2 : a.tmps[2]?.getD undef = .int .i64 y := hb.at 2 (by kernel_rfl)
        have g22 : a.tmps[22]?.getD undef = .bool true := slot_eq.symm.trans (hp ⟨5, .guard⟩ (by simp) rfl _ rfl)
        exact step_run (v := .int .i64 y) (by simp [Region.wanted, yielded, bool_at g22]) (by simp [execOp, Act.eval, b2]) rfl
      · intro a w' hb hp
        have h27 : a.tmps[27]?.getD undef = .agg #[.int .i64 N, .slice A es.length c] := slot_eq.symm.trans (hp ⟨10, .data⟩ (by simp) rfl _ rfl)
        have h28 : a.tmps[28]?.getD undef = .int .i64 x := slot_eq.symm.trans (hp ⟨11, .data⟩ (by simp) rfl _ rfl)
        have h29 : a.tmps[29]?.getD undef = .int .i64 y := slot_eq.symm.trans (hp ⟨12, .data⟩ (by simp) rfl _ rfl)
        have g22 : a.tmps[22]?.getD undef = .bool true := slot_eq.symm.trans (hp ⟨5, .guard⟩ (by simp) rfl _ rfl)
        refine step_call (f := 16) (args := #[.agg #[.int .i64 N, .slice A es.length c], .int .i64 x, .int .i64 y]) (by simp [Region.wanted, yielded, bool_at g22]) (by simp [go_sem, h27, h28, h29]) ?_
        refine (rbefore_any N x y _ es _ (KP.out _ (HB.out _ hb.ext)) hl').mono ?_
        rintro e w8 ⟨h9, hb8⟩
        exact ⟨_, h9, hb8, rfl⟩
      · intro a w' hb hp
        have h26 : a.tmps[26]?.getD undef = .bool (befO N es x y) := slot_eq.symm.trans (hp ⟨9, .data⟩ (by simp) rfl _ rfl)
        have h30 : a.tmps[30]?.getD undef = .bool (befO N es x y) := slot_eq.symm.trans (hp ⟨13, .data⟩ (by simp) rfl _ rfl)
        have g22 : a.tmps[22]?.getD undef = .bool true := slot_eq.symm.trans (hp ⟨5, .guard⟩ (by simp) rfl _ rfl)
        exact step_run (v := .bool true) (by simp [Region.wanted, yielded, bool_at g22]) (by simp [execOp, go_sem, h26, h30]) rfl
      · intro a w' hb hp
        have h22 : a.tmps[22]?.getD undef = .bool true := slot_eq.symm.trans (hp ⟨5, .data⟩ (by simp) rfl _ rfl)
        have h31 : a.tmps[31]?.getD undef = .bool true := slot_eq.symm.trans (hp ⟨14, .data⟩ (by simp) rfl _ rfl)
        exact step_run (v := .bool true) rfl (by simp [execOp, go_sem, h22, h31]) rfl
      · intro a w' hb hp
        have h32 : a.tmps[32]?.getD undef = .bool true := slot_eq.symm.trans (hp ⟨15, .data⟩ (by simp) rfl _ rfl)
        exact step_run (v := .bool true) rfl (by simp [execOp, Act.eval, h32]) rfl
      · intro a w' hb hp
        have b7 : a.tmps[7]?.getD undef = .pointer (some ⟨w2.heap.size, 0, none⟩) := hb.at 7 (by kernel_rfl)
        have g33 : a.tmps[33]?.getD undef = .bool true := slot_eq.symm.trans (hp ⟨16, .guard⟩ (by simp) rfl _ rfl)
        exact step_run (v := .agg #[.int .i64 N, .slice A es.length c]) (by simp [Region.wanted, yielded, bool_at g33]) (by simp [execOp, go_sem, b7, cell_of_row _ _ 0 _ _ _ (KY.out _ hb.ext), cell_of_row _ _ 1 _ _ _ (KY.out _ hb.ext)]) rfl
      · intro a w' hb hp
        have b1 : a.tmps[1]?.getD undef = .int .i64 x := hb.at 1 (by kernel_rfl)
        have g33 : a.tmps[33]?.getD undef = .bool true := slot_eq.symm.trans (hp ⟨16, .guard⟩ (by simp) rfl _ rfl)
        exact step_run (v := .int .i64 x) (by simp [Region.wanted, yielded, bool_at g33]) (by simp [execOp, Act.eval, b1]) rfl
      · intro a w' hb hp
        have b2 : a.tmps[2]?.getD undef = .int .i64 y := hb.at 2 (by kernel_rfl)
        have g33 : a.tmps[33]?.getD undef = .bool true := slot_eq.symm.trans (hp ⟨16, .guard⟩ (by simp) rfl _ rfl)
        exact step_run (v := .int .i64 y) (by simp [Region.wanted, yielded, bool_at g33]) (by simp [execOp, Act.eval, b2]) rfl
      · intro a w' hb hp
        have h34 : a.tmps[34]?.getD undef = .agg #[.int .i64 N, .slice A es.length c] := slot_eq.symm.trans (hp ⟨17, .data⟩ (by simp) rfl _ rfl)
        have h35 : a.tmps[35]?.getD undef = .int .i64 x := slot_eq.symm.trans (hp ⟨18, .data⟩ (by simp) rfl _ rfl)
        have h36 : a.tmps[36]?.getD undef = .int .i64 y := slot_eq.symm.trans (hp ⟨19, .data⟩ (by simp) rfl _ rfl)
        have g33 : a.tmps[33]?.getD undef = .bool true := slot_eq.symm.trans (hp ⟨16, .guard⟩ (by simp) rfl _ rfl)
        refine step_call (f := 17) (args := #[.agg #[.int .i64 N, .slice A es.length c], .int .i64 x, .int .i64 y]) (by simp [Region.wanted, yielded, bool_at g33]) (by simp [go_sem, h34, h35, h36]) ?_
        refine (conc_any N x y _ es _ (KP.out _ (HB.out _ hb.ext)) hl').mono ?_
        rintro e w8 ⟨h9, hb8⟩
        exact ⟨_, h9, hb8, rfl⟩
      · intro a w' hb hp
        have b3 : a.tmps[3]?.getD undef = .pointer (some ⟨w.heap.size, 0, none⟩) := hb.at 3 (by kernel_rfl)
        have g33 : a.tmps[33]?.getD undef = .bool true := slot_eq.symm.trans (hp ⟨16, .guard⟩ (by simp) rfl _ rfl)
        exact step_run (v := .agg #[.int .i64 N, .slice A es.length c]) (by simp [Region.wanted, yielded, bool_at g33]) (by simp [execOp, go_sem, b3, cell_of_row _ _ 0 _ _ _ (KX.out _ (HB.out _ hb.ext)), cell_of_row _ _ 1 _ _ _ (KX.out _ (HB.out _ hb.ext))]) rfl
      · intro a w' hb hp
        have b1 : a.tmps[1]?.getD undef = .int .i64 x := hb.at 1 (by kernel_rfl)
        have g33 : a.tmps[33]?.getD undef = .bool true := slot_eq.symm.trans (hp ⟨16, .guard⟩ (by simp) rfl _ rfl)
        exact step_run (v := .int .i64 x) (by simp [Region.wanted, yielded, bool_at g33]) (by simp [execOp, Act.eval, b1]) rfl
      · intro a w' hb hp
        have b2 : a.tmps[2]?.getD undef = .int .i64 y := hb.at 2 (by kernel_rfl)
        have g33 : a.tmps[33]?.getD undef = .bool true := slot_eq.symm.trans (hp ⟨16, .guard⟩ (by simp) rfl _ rfl)
        exact step_run (v := .int .i64 y) (by simp [Region.wanted, yielded, bool_at g33]) (by simp [execOp, Act.eval, b2]) rfl
      · intro a w' hb hp
        have h38 : a.tmps[38]?.getD undef = .agg #[.int .i64 N, .slice A es.length c] := slot_eq.symm.trans (hp ⟨21, .data⟩ (by simp) rfl _ rfl)
        have h39 : a.tmps[39]?.getD undef = .int .i64 x := slot_eq.symm.trans (hp ⟨22, .data⟩ (by simp) rfl _ rfl)
        have h40 : a.tmps[40]?.getD undef = .int .i64 y := slot_eq.symm.trans (hp ⟨23, .data⟩ (by simp) rfl _ rfl)
        have g33 : a.tmps[33]?.getD undef = .bool true := slot_eq.symm.trans (hp ⟨16, .guard⟩ (by simp) rfl _ rfl)
        refine step_call (f := 18) (args := #[.agg #[.int .i64 N, .slice A es.length c], .int .i64 x, .int .i64 y]) (by simp [Region.wanted, yielded, bool_at g33]) (by simp [go_sem, h38, h39, h40]) ?_
        refine (rconc_any N x y _ es _ (KP.out _ (HB.out _ hb.ext)) hl').mono ?_
        rintro e w8 ⟨h9, hb8⟩
        exact ⟨_, h9, hb8, rfl⟩
      · intro a w' hb hp
        have h37 : a.tmps[37]?.getD undef = .bool (conO N es x y) := slot_eq.symm.trans (hp ⟨20, .data⟩ (by simp) rfl _ rfl)
        have h41 : a.tmps[41]?.getD undef = .bool (conO N es x y) := slot_eq.symm.trans (hp ⟨24, .data⟩ (by simp) rfl _ rfl)
        have g33 : a.tmps[33]?.getD undef = .bool true := slot_eq.symm.trans (hp ⟨16, .guard⟩ (by simp) rfl _ rfl)
        exact step_run (v := .bool true) (by simp [Region.wanted, yielded, bool_at g33]) (by simp [execOp, go_sem, h37, h41]) rfl
      · intro a w' hb hp
        have h33 : a.tmps[33]?.getD undef = .bool true := slot_eq.symm.trans (hp ⟨16, .data⟩ (by simp) rfl _ rfl)
        have h42 : a.tmps[42]?.getD undef = .bool true := slot_eq.symm.trans (hp ⟨25, .data⟩ (by simp) rfl _ rfl)
        exact step_run (v := .bool true) rfl (by simp [execOp, go_sem, h33, h42]) rfl
      · intro a w' hb hp
        have h43 : a.tmps[43]?.getD undef = .bool true := slot_eq.symm.trans (hp ⟨26, .data⟩ (by simp) rfl _ rfl)
        exact step_run (v := .bool true) rfl (by simp [execOp, Act.eval, h43]) rfl
    · intro vs w8 hb8 hv
      have h27 : vs 27 = .bool true := hv 27 (by decide)
      simp only [putAll, Act.put, List.setIfInBounds_toArray, List.set_cons_zero, List.set_cons_succ, Nat.zero_add, Nat.reduceAdd, h27]
      clear hv
      have B8 := Lib.hid (KE.out _ (HB.out _ hb8))
      clear hb8
      go_wp2
      go_ret
      exact ⟨rfl, B8.out⟩
end Go.Proofs.Ytiaidkdpfmbemaa
