/- OrderLinear: for every input the law returns true. -/
import Derived.Test.YtiaidkdpfmbemaaOrdAw
import Derived.Test.YtiaidkdpfmbemaaOrdRb
import Derived.Test.YtiaidkdpfmbemaaOrdRc
namespace Go.Proofs.Ytiaidkdpfmbemaa
open Go.RowKit

theorem linR_len (N : Int) (es : List (Int × Int)) : (linR N es).1.length ≤ 60 := by
  unfold linR
  cases h : valO N es with
  | false => simp
  | true =>
    obtain ⟨⟨n0, n1, _⟩, _, hac⟩ := valO_parts h
    rw [if_pos rfl, List.length_map, (li_facts hac N.toNat (Nat.le_refl _)).1]
    omega
set_option maxRecDepth 20000 in
set_option maxHeartbeats 4000000 in
theorem orderlinear_walk (N : Int) (A : Option Addr) (c : Nat) (es : List (Int × Int)) (A1 : Option Addr) (c1 : Nat) (l : List Int) (w : World) (h : Prs w (.slice A es.length c) es) (hmx : es.length ≤ 9223372036854775807) (hs1 : Sl iv w (.slice A1 l.length c1) l) (hl1 : l.length ≤ 17592186044000) : Calls Try.prog 4 #[.agg #[.int .i64 N, .slice A es.length c], .slice A1 l.length c1] w (Ok w) := by
  obtain ⟨W, hW⟩ : ∃ W, W = w.alloc (.cells #[.int .i64 N, .slice A es.length c] 24) := ⟨_, rfl⟩
  have hWs : w.heap.size < W.heap.size := by rw [hW]; simp
  have hWb : W.heap[w.heap.size]? = some (.cells #[.int .i64 N, .slice A es.length c] 24 (0, 0)) := by rw [hW]; exact heap_alloc_new w _
  have hbw : Below w.heap.size w W := by rw [hW]; exact below_alloc _ _
  have KX := Lib.hid (show ∀ w', Below W.heap.size W w' → w'.heap[w.heap.size]? = some (.cells #[.int .i64 N, .slice A es.length c] 24 (0, 0)) from fun w' h => (h.block _ hWs).trans hWb)
  have KE := Lib.hid (show ∀ w', Below W.heap.size W w' → Below w.heap.size w w' from fun w' h => hbw.trans (h.mono (Nat.le_of_lt hWs)))
  have KP := Lib.hid (show ∀ w', Below W.heap.size W w' → Prs w' (.slice A es.length c) es from fun w' h' => h.below (KE.out _ h'))
  have HW := Lib.hid hW
  have KL := Lib.hid (show ∀ w', Below W.heap.size W w' → Sl iv w' (.slice A1 l.length c1) l from fun w' h' => hs1.below (KE.out _ h'))
  clear hWb hbw hW h hs1
  cases hf : fewB N es.length with
  | false =>
    have Hf := Lib.hid hf; clear hf
    go_enter Try.func4, Try.ntmps4
    go_wp2_with fail
    rw [← HW.out]
    refine (awake_any W).mono ?_
    rintro e w1 ⟨rfl, hb1⟩
    have B1 := Lib.hid hb1
    clear hb1
    have hxx := KX.out _ B1.out
    have o0 := cell_of_row _ _ 0 _ _ _ hxx
    have o1 := cell_of_row _ _ 1 _ _ _ hxx
    go_wp2_with fail
    refine (few_any _ _ _ _ _).mono ?_
    rintro e w2 ⟨rfl, hb2⟩
    rw [Hf.out]
    have B2 := Lib.hid (bl2 B1.out hb2)
    clear hb2 hxx o0 o1
    have hxx := KX.out _ B2.out
    have o0 := cell_of_row _ _ 0 _ _ _ hxx
    have o1 := cell_of_row _ _ 1 _ _ _ hxx
    go_wp2_with fail
    refine (awake_any _).mono ?_
    rintro e w9 ⟨rfl, hb9⟩
    have B9 := Lib.hid (KE.out _ (bl2 B2.out hb9))
    clear hb9
    go_wp2
    go_ret
    exact ⟨rfl, B9.out⟩
  | true =>
    have hl : es.length ≤ 80 ∧ N ≤ 12 := by
      unfold fewB at hf
      rw [Bool.and_eq_true, decide_eq_true_iff, decide_eq_true_iff] at hf
      exact ⟨hf.2, hf.1⟩
    obtain ⟨hl, hN⟩ := hl
    have hl' : es.length ≤ 100000 := by omega
    have Hf := Lib.hid hf; clear hf hmx
    go_enter Try.func4, Try.ntmps4
    go_wp2_with fail
    rw [← HW.out]
    refine (awake_any W).mono ?_
    rintro e w1 ⟨rfl, hb1⟩
    have B1 := Lib.hid hb1
    clear hb1
    have hxx := KX.out _ B1.out
    have o0 := cell_of_row _ _ 0 _ _ _ hxx
    have o1 := cell_of_row _ _ 1 _ _ _ hxx
    go_wp2_with fail
    refine (few_any _ _ _ _ _).mono ?_
    rintro e w2 ⟨rfl, hb2⟩
    rw [Hf.out]
    have B2 := Lib.hid (bl2 B1.out hb2)
    clear hb2 hxx o0 o1
    have hxx := KX.out _ B2.out
    have o0 := cell_of_row _ _ 0 _ _ _ hxx
    have o1 := cell_of_row _ _ 1 _ _ _ hxx
    by_cases hlen : 15 < l.length
    · have e15 : decide (15 < (l.length : Int)) = true := decide_eq_true (by omega)
      clear hl1
      go_wp2_with fail
      refine (awake_any _).mono ?_
      rintro e w9 ⟨rfl, hb9⟩
      have B9 := Lib.hid (KE.out _ (bl2 B2.out hb9))
      clear hb9
      go_wp2
      go_ret
      exact ⟨rfl, B9.out⟩
    · have e15 : decide (15 < (l.length : Int)) = false := decide_eq_false (by omega)
      clear hl1
      have HB := Lib.hid (show ∀ w', Below (w2.alloc (.cells #[.int .i64 N, .slice A es.length c] 27)).heap.size (w2.alloc (.cells #[.int .i64 N, .slice A es.length c] 27)) w' → Below W.heap.size W w' from fun w' h => bl2 (B2.out.alloc B2.out.size _) h)
      have KY := Lib.hid (show ∀ w', Below (w2.alloc (.cells #[.int .i64 N, .slice A es.length c] 27)).heap.size (w2.alloc (.cells #[.int .i64 N, .slice A es.length c] 27)) w' → w'.heap[w2.heap.size]? = some (.cells #[.int .i64 N, .slice A es.length c] 27 (0, 0)) from fun w' h => box_keep h)
      clear hxx o0 o1
      have hxx := KX.out _ B2.out
      have o0 := cell_of_row _ _ 0 _ _ _ hxx
      have o1 := cell_of_row _ _ 1 _ _ _ hxx
      go_wp2_with fail
      refine (linear_any N _ es _ (KP.out _ (HB.out _ (Below.refl _ _))) hl').mono ?_
      rintro e w4 ⟨v1, h1, ho1, hb4⟩
      have hlL := linR_len N es
      obtain ⟨z, hz⟩ : ∃ z, z = (linR N es).2 := ⟨_, rfl⟩
      obtain ⟨L, hL⟩ : ∃ L, L = (linR N es).1 := ⟨_, rfl⟩
      rw [← hz] at h1
      rw [← hL] at ho1 hlL
      subst h1
      have Hz := Lib.hid hz; have HLL := Lib.hid hL
      have HL1 := Lib.hid (Sl.of_own ho1)
      have Hlen := Lib.hid (show L.length ≤ 1000 by omega)
      have HY := Lib.hid (show ∀ w', Below w4.heap.size w4 w' → Below (w2.alloc (.cells #[.int .i64 N, .slice A es.length c] 27)).heap.size (w2.alloc (.cells #[.int .i64 N, .slice A es.length c] 27)) w' from fun w' h => bl2 hb4 h)
      clear hb4 ho1 hz hL hxx o0 o1
      have hxx := KX.out _ (HB.out _ (HY.out _ (Below.refl _ _)))
      have o0 := cell_of_row _ _ 0 _ _ _ hxx
      have o1 := cell_of_row _ _ 1 _ _ _ hxx
      go_wp2_with fail
      refine (rlinear_any N _ es _ (KP.out _ (HB.out _ (HY.out _ (Below.refl _ _)))) hl').mono ?_
      rintro e w5 ⟨v2, h1, ho1, hb5⟩
      rw [← Hz.out] at h1
      rw [← HLL.out] at ho1
      subst h1
      have HL2 := Lib.hid (Sl.of_own ho1)
      replace HL1 := Lib.hid (HL1.out.below hb5)
      replace HY := Lib.hid (show ∀ w', Below w5.heap.size w5 w' → Below (w2.alloc (.cells #[.int .i64 N, .slice A es.length c] 27)).heap.size (w2.alloc (.cells #[.int .i64 N, .slice A es.length c] 27)) w' from fun w' h => HY.out _ (bl2 hb5 h))
      clear hb5 ho1 hxx o0 o1
      go_wp2_with fail
      refine region_phi (n := 60) (fun i v w' => match i with
            | 0 => v = .int .i64 z
            | 1 => v = .int .i64 z
            | 2 => v = .bool true
            | 3 => v = .bool true
            | 4 => v = v1
            | 5 => v = v2
            | 6 => v = .bool true
            | 7 => v = .bool true
            | 8 => v = .bool true
            | 9 => v = .agg #[.int .i64 N, .slice A es.length c]
            | 10 => v = .slice A1 l.length c1
            | 11 => v = .bool (isO N es l)
            | 12 => v = .agg #[.int .i64 N, .slice A es.length c]
            | 13 => v = .slice A1 l.length c1
            | 14 => v = .bool (isO N es l)
            | 15 => v = .bool true
            | 16 => v = .bool true
            | 17 => v = .bool true
            | 18 => v = .agg #[.int .i64 N, .slice A es.length c]
            | 19 => v = .slice A1 l.length c1
            | 20 => v = .bool (cutO N es l)
            | 21 => v = .agg #[.int .i64 N, .slice A es.length c]
            | 22 => v = .slice A1 l.length c1
            | 23 => v = .bool (cutO N es l)
            | 24 => v = .bool true
            | 25 => v = .bool true
            | 26 => v = .bool true
            | _ => True) (by kernel_rfl) (by kernel_rfl) rfl ?_ (allOps_spec ?_) ?_
      · intro i v w' w'' h hb
        match i, h with
        | 0, h => exact h
        | 1, h => exact h
        | 2, h => exact h
        | 3, h => exact h
        | 4, h => exact h
        | 5, h => exact h
        | 6, h => exact h
        | 7, h => exact h
        | 8, h => exact h
        | 9, h => exact h
        | 10, h => exact h
        | 11, h => exact h
        | 12, h => exact h
        | 13, h => exact h
        | 14, h => exact h
        | 15, h => exact h
        | 16, h => exact h
        | 17, h => exact h
        | 18, h => exact h
        | 19, h => exact h
        | 20, h => exact h
        | 21, h => exact h
        | 22, h => exact h
        | 23, h => exact h
        | 24, h => exact h
        | 25, h => exact h
        | 26, h => exact h
        | _ + 27, _ => trivial
      · refine ⟨?_, ?_, ?_, ?_, ?_, ?_, ?_, ?_, ?_, ?_, ?_, ?_, ?_, ?_, ?_, ?_, ?_, ?_, ?_, ?_, ?_, ?_, ?_, ?_, ?_, ?_, ?_, trivial⟩
        · intro a w' hb hp
          have b7 : a.tmps[7]?.getD undef = .int .i64 z := hb.at 7 (by kernel_rfl)
          exact step_run (v := .int .i64 z) rfl (by simp [execOp, Act.eval, b7]) rfl
        · intro a w' hb hp
          have b9 : a.tmps[9]?.getD undef = .int .i64 z := hb.at 9 (by kernel_rfl)
          exact step_run (v := .int .i64 z) rfl (by simp [execOp, Act.eval, b9]) rfl
        · intro a w' hb hp
          have h34 : a.tmps[34]?.getD undef = .int .i64 z := slot_eq.symm.trans (hp ⟨0, .data⟩ (by simp) rfl _ rfl)
          have h35 : a.tmps[35]?.getD undef = .int .i64 z := slot_eq.symm.trans (hp ⟨1, .data⟩ (by simp) rfl _ rfl)
          exact step_run (v := .bool true) rfl (by simp [execOp, go_sem, h34, h35]) rfl
        · intro a w' hb hp
          have h36 : a.tmps[36]?.getD undef = .bool true := slot_eq.symm.trans (hp ⟨2, .data⟩ (by simp) rfl _ rfl)
          exact step_run (v := .bool true) rfl (by simp [execOp, Act.eval, h36]) rfl
        · intro a w' hb hp
          have b6 : a.tmps[6]?.getD undef = v1 := hb.at 6 (by kernel_rfl)
          have g37 : a.tmps[37]?.getD undef = .bool true := slot_eq.symm.trans (hp ⟨3, .guard⟩ (by simp) rfl _ rfl)
          exact step_run (v := v1) (by simp [Region.wanted, yielded, bool_at g37]) (by simp [execOp, Act.eval, b6]) rfl
        · intro a w' hb hp
          have b8 : a.tmps[8]?.getD undef = v2 := hb.at 8 (by kernel_rfl)
          have g37 : a.tmps[37]?.getD undef = .bool true := slot_eq.symm.trans (hp ⟨3, .guard⟩ (by simp) rfl _ rfl)
          exact step_run (v := v2) (by simp [Region.wanted, yielded, bool_at g37]) (by simp [execOp, Act.eval, b8]) rfl
        · intro a w' hb hp
          have h38 : a.tmps[38]?.getD undef = v1 := slot_eq.symm.trans (hp ⟨4, .data⟩ (by simp) rfl _ rfl)
          have h39 : a.tmps[39]?.getD undef = v2 := slot_eq.symm.trans (hp ⟨5, .data⟩ (by simp) rfl _ rfl)
          have g37 : a.tmps[37]?.getD undef = .bool true := slot_eq.symm.trans (hp ⟨3, .guard⟩ (by simp) rfl _ rfl)
          refine step_call (f := 21) (args := #[v1, v2]) (by simp [Region.wanted, yielded, bool_at g37]) (by simp [go_sem, h38, h39]) ?_
          refine (same_any v1 v2 L L _ (HL1.out.below hb.ext) (HL2.out.below hb.ext) Hlen.out).mono ?_
          rintro e w8 ⟨h9, q, rfl⟩
          rw [decide_eq_true rfl] at h9
          exact ⟨_, h9, Below.drewNs _ _, rfl⟩
        · intro a w' hb hp
          have h37 : a.tmps[37]?.getD undef = .bool true := slot_eq.symm.trans (hp ⟨3, .data⟩ (by simp) rfl _ rfl)
          have h40 : a.tmps[40]?.getD undef = .bool true := slot_eq.symm.trans (hp ⟨6, .data⟩ (by simp) rfl _ rfl)
          exact step_run (v := .bool true) rfl (by simp [execOp, go_sem, h37, h40]) rfl
        · intro a w' hb hp
          have h41 : a.tmps[41]?.getD undef = .bool true := slot_eq.symm.trans (hp ⟨7, .data⟩ (by simp) rfl _ rfl)
          exact step_run (v := .bool true) rfl (by simp [execOp, Act.eval, h41]) rfl
        · intro a w' hb hp
          have b5 : a.tmps[5]?.getD undef = .pointer (some ⟨w2.heap.size, 0, none⟩) := hb.at 5 (by kernel_rfl)
          have g42 : a.tmps[42]?.getD undef = .bool true := slot_eq.symm.trans (hp ⟨8, .guard⟩ (by simp) rfl _ rfl)
          exact step_run (v := .agg #[.int .i64 N, .slice A es.length c]) (by simp [Region.wanted, yielded, bool_at g42]) (by simp [execOp, go_sem, b5, cell_of_row _ _ 0 _ _ _ (KY.out _ (HY.out _ hb.ext)), cell_of_row _ _ 1 _ _ _ (KY.out _ (HY.out _ hb.ext))]) rfl
        · intro a w' hb hp
          have b1 : a.tmps[1]?.getD undef = .slice A1 l.length c1 := hb.at 1 (by kernel_rfl)
          have g42 : a.tmps[42]?.getD undef = .bool true := slot_eq.symm.trans (hp ⟨8, .guard⟩ (by simp) rfl _ rfl)
          exact step_run (v := .slice A1 l.length c1) (by simp [Region.wanted, yielded, bool_at g42]) (by simp [execOp, Act.eval, b1]) rfl
        · intro a w' hb hp
          have h43 : a.tmps[43]?.getD undef = .agg #[.int .i64 N, .slice A es.length c] := slot_eq.symm.trans (hp ⟨9, .data⟩ (by simp) rfl _ rfl)
          have h44 : a.tmps[44]?.getD undef = .slice A1 l.length c1 := slot_eq.symm.trans (hp ⟨10, .data⟩ (by simp) rfl _ rfl)
          have g42 : a.tmps[42]?.getD undef = .bool true := slot_eq.symm.trans (hp ⟨8, .guard⟩ (by simp) rfl _ rfl)
          refine step_call (f := 22) (args := #[.agg #[.int .i64 N, .slice A es.length c], .slice A1 l.length c1]) (by simp [Region.wanted, yielded, bool_at g42]) (by simp [go_sem, h43, h44]) ?_
          refine (islin_any N _ es _ l _ (KP.out _ (HB.out _ (HY.out _ hb.ext))) hl' (KL.out _ (HB.out _ (HY.out _ hb.ext)))).mono ?_
          rintro e w8 ⟨h9, hb8⟩
          exact ⟨_, h9, hb8, rfl⟩
        · intro a w' hb hp
          have b2 : a.tmps[2]?.getD undef = .pointer (some ⟨w.heap.size, 0, none⟩) := hb.at 2 (by kernel_rfl)
          have g42 : a.tmps[42]?.getD undef = .bool true := slot_eq.symm.trans (hp ⟨8, .guard⟩ (by simp) rfl _ rfl)
          exact step_run (v := .agg #[.int .i64 N, .slice A es.length c]) (by simp [Region.wanted, yielded, bool_at g42]) (by simp [execOp, go_sem, b2, cell_of_row _ _ 0 _ _ _ (KX.out _ (HB.out _ (HY.out _ hb.ext))), cell_of_row _ _ 1 _ _ _ (KX.out _ (HB.out _ (HY.out _ hb.ext)))]) rfl
        · intro a w' hb hp
          have b1 : a.tmps[1]?.getD undef = .slice A1 l.length c1 := hb.at 1 (by kernel_rfl)
          have g42 : a.tmps[42]?.getD undef = .bool true := slot_eq.symm.trans (hp ⟨8, .guard⟩ (by simp) rfl _ rfl)
          exact step_run (v := .slice A1 l.length c1) (by simp [Region.wanted, yielded, bool_at g42]) (by simp [execOp, Act.eval, b1]) rfl
        · intro a w' hb hp
          have h46 : a.tmps[46]?.getD undef = .agg #[.int .i64 N, .slice A es.length c] := slot_eq.symm.trans (hp ⟨12, .data⟩ (by simp) rfl _ rfl)
          have h47 : a.tmps[47]?.getD undef = .slice A1 l.length c1 := slot_eq.symm.trans (hp ⟨13, .data⟩ (by simp) rfl _ rfl)
          have g42 : a.tmps[42]?.getD undef = .bool true := slot_eq.symm.trans (hp ⟨8, .guard⟩ (by simp) rfl _ rfl)
          refine step_call (f := 23) (args := #[.agg #[.int .i64 N, .slice A es.length c], .slice A1 l.length c1]) (by simp [Region.wanted, yielded, bool_at g42]) (by simp [go_sem, h46, h47]) ?_
          refine (rislin_any N _ es _ l _ (KP.out _ (HB.out _ (HY.out _ hb.ext))) hl' (KL.out _ (HB.out _ (HY.out _ hb.ext)))).mono ?_
          rintro e w8 ⟨h9, hb8⟩
          exact ⟨_, h9, hb8, rfl⟩
        · intro a w' hb hp
          have h45 : a.tmps[45]?.getD undef = .bool (isO N es l) := slot_eq.symm.trans (hp ⟨11, .data⟩ (by simp) rfl _ rfl)
          have h48 : a.tmps[48]?.getD undef = .bool (isO N es l) := slot_eq.symm.trans (hp ⟨14, .data⟩ (by simp) rfl _ rfl)
          have g42 : a.tmps[42]?.getD undef = .bool true := slot_eq.symm.trans (hp ⟨8, .guard⟩ (by simp) rfl _ rfl)
          exact step_run (v := .bool true) (by simp [Region.wanted, yielded, bool_at g42]) (by simp [execOp, go_sem, h45, h48]) rfl
        · intro a w' hb hp
          have h42 : a.tmps[42]?.getD undef = .bool true := slot_eq.symm.trans (hp ⟨8, .data⟩ (by simp) rfl _ rfl)
          have h49 : a.tmps[49]?.getD undef = .bool true := slot_eq.symm.trans (hp ⟨15, .data⟩ (by simp) rfl _ rfl)
          exact step_run (v := .bool true) rfl (by simp [execOp, go_sem, h42, h49]) rfl
        · intro a w' hb hp
          have h50 : a.tmps[50]?.getD undef = .bool true := slot_eq.symm.trans (hp ⟨16, .data⟩ (by simp) rfl _ rfl)
          exact step_run (v := .bool true) rfl (by simp [execOp, Act.eval, h50]) rfl
        · intro a w' hb hp
          have b5 : a.tmps[5]?.getD undef = .pointer (some ⟨w2.heap.size, 0, none⟩) := hb.at 5 (by kernel_rfl)
          have g51 : a.tmps[51]?.getD undef = .bool true := slot_eq.symm.trans (hp ⟨17, .guard⟩ (by simp) rfl _ rfl)
          exact step_run (v := .agg #[.int .i64 N, .slice A es.length c]) (by simp [Region.wanted, yielded, bool_at g51]) (by simp [execOp, go_sem, b5, cell_of_row _ _ 0 _ _ _ (KY.out _ (HY.out _ hb.ext)), cell_of_row _ _ 1 _ _ _ (KY.out _ (HY.out _ hb.ext))]) rfl
        · intro a w' hb hp
          have b1 : a.tmps[1]?.getD undef = .slice A1 l.length c1 := hb.at 1 (by kernel_rfl)
          have g51 : a.tmps[51]?.getD undef = .bool true := slot_eq.symm.trans (hp ⟨17, .guard⟩ (by simp) rfl _ rfl)
          exact step_run (v := .slice A1 l.length c1) (by simp [Region.wanted, yielded, bool_at g51]) (by simp [execOp, Act.eval, b1]) rfl
        · intro a w' hb hp
          have h52 : a.tmps[52]?.getD undef = .agg #[.int .i64 N, .slice A es.length c] := slot_eq.symm.trans (hp ⟨18, .data⟩ (by simp) rfl _ rfl)
          have h53 : a.tmps[53]?.getD undef = .slice A1 l.length c1 := slot_eq.symm.trans (hp ⟨19, .data⟩ (by simp) rfl _ rfl)
          have g51 : a.tmps[51]?.getD undef = .bool true := slot_eq.symm.trans (hp ⟨17, .guard⟩ (by simp) rfl _ rfl)
          refine step_call (f := 24) (args := #[.agg #[.int .i64 N, .slice A es.length c], .slice A1 l.length c1]) (by simp [Region.wanted, yielded, bool_at g51]) (by simp [go_sem, h52, h53]) ?_
          refine (cut_any N _ es _ l _ (KP.out _ (HB.out _ (HY.out _ hb.ext))) hl' (KL.out _ (HB.out _ (HY.out _ hb.ext))) (by omega)).mono ?_
          rintro e w8 ⟨h9, hb8⟩
          exact ⟨_, h9, hb8, rfl⟩
        · intro a w' hb hp
          have b2 : a.tmps[2]?.getD undef = .pointer (some ⟨w.heap.size, 0, none⟩) := hb.at 2 (by kernel_rfl)
          have g51 : a.tmps[51]?.getD undef = .bool true := slot_eq.symm.trans (hp ⟨17, .guard⟩ (by simp) rfl _ rfl)
          exact step_run (v := .agg #[.int .i64 N, .slice A es.length c]) (by simp [Region.wanted, yielded, bool_at g51]) (by simp [execOp, go_sem, b2, cell_of_row _ _ 0 _ _ _ (KX.out _ (HB.out _ (HY.out _ hb.ext))), cell_of_row _ _ 1 _ _ _ (KX.out _ (HB.out _ (HY.out _ hb.ext)))]) rfl
        · intro a w' hb hp
          have b1 : a.tmps[1]?.getD undef = .slice A1 l.length c1 := hb.at 1 (by kernel_rfl)
          have g51 : a.tmps[51]?.getD undef = .bool true := slot_eq.symm.trans (hp ⟨17, .guard⟩ (by simp) rfl _ rfl)
          exact step_run (v := .slice A1 l.length c1) (by simp [Region.wanted, yielded, bool_at g51]) (by simp [execOp, Act.eval, b1]) rfl
        · intro a w' hb hp
          have h55 : a.tmps[55]?.getD undef = .agg #[.int .i64 N, .slice A es.length c] := slot_eq.symm.trans (hp ⟨21, .data⟩ (by simp) rfl _ rfl)
          have h56 : a.tmps[56]?.getD undef = .slice A1 l.length c1 := slot_eq.symm.trans (hp ⟨22, .data⟩ (by simp) rfl _ rfl)
          have g51 : a.tmps[51]?.getD undef = .bool true := slot_eq.symm.trans (hp ⟨17, .guard⟩ (by simp) rfl _ rfl)
          refine step_call (f := 25) (args := #[.agg #[.int .i64 N, .slice A es.length c], .slice A1 l.length c1]) (by simp [Region.wanted, yielded, bool_at g51]) (by simp [go_sem, h55, h56]) ?_
          refine (rcut_any N _ es _ l _ (KP.out _ (HB.out _ (HY.out _ hb.ext))) hl' (KL.out _ (HB.out _ (HY.out _ hb.ext))) (by omega)).mono ?_
          rintro e w8 ⟨h9, hb8⟩
          exact ⟨_, h9, hb8, rfl⟩
        · intro a w' hb hp
          have h54 : a.tmps[54]?.getD undef = .bool (cutO N es l) := slot_eq.symm.trans (hp ⟨20, .data⟩ (by simp) rfl _ rfl)
          have h57 : a.tmps[57]?.getD undef = .bool (cutO N es l) := slot_eq.symm.trans (hp ⟨23, .data⟩ (by simp) rfl _ rfl)
          have g51 : a.tmps[51]?.getD undef = .bool true := slot_eq.symm.trans (hp ⟨17, .guard⟩ (by simp) rfl _ rfl)
          exact step_run (v := .bool true) (by simp [Region.wanted, yielded, bool_at g51]) (by simp [execOp, go_sem, h54, h57]) rfl
        · intro a w' hb hp
          have h51 : a.tmps[51]?.getD undef = .bool true := slot_eq.symm.trans (hp ⟨17, .data⟩ (by simp) rfl _ rfl)
          have h58 : a.tmps[58]?.getD undef = .bool true := slot_eq.symm.trans (hp ⟨24, .data⟩ (by simp) rfl _ rfl)
          exact step_run (v := .bool true) rfl (by simp [execOp, go_sem, h51, h58]) rfl
        · intro a w' hb hp
          have h59 : a.tmps[59]?.getD undef = .bool true := slot_eq.symm.trans (hp ⟨25, .data⟩ (by simp) rfl _ rfl)
          exact step_run (v := .bool true) rfl (by simp [execOp, Act.eval, h59]) rfl
      · intro vs w8 hb8 hv
        have h26 : vs 26 = .bool true := hv 26 (by decide)
        simp only [putAll, Act.put, List.setIfInBounds_toArray, List.set_cons_zero, List.set_cons_succ, Nat.zero_add, Nat.reduceAdd, h26]
        clear hv
        have B8 := Lib.hid (KE.out _ (HB.out _ (HY.out _ hb8)))
        clear hb8
        go_wp2
        go_ret
        exact ⟨rfl, B8.out⟩
end Go.Proofs.Ytiaidkdpfmbemaa
