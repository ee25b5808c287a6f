/- Layer 10: slices.Equal at fields and at atoms. -/
import Derived.Test.YtekpefcggikcbaaGreatDoorMSvD
import Derived.BigRegion
namespace Go.Proofs.YtekpefcggikcbaaGreatDoor
open Go.RowKit

def EqRelG {α : Type} (W0 : World) (l m : List α) (gk : Nat) (v : Value) (wr : World) : Prop :=
 ∃ i : Nat, v = .int .i64 (i : Int) ∧ i ≤ l.length ∧ l.length ≤ gk + i ∧ l.take i = m.take i ∧ Hid (Below W0.heap.size W0 wr)
section
variable {w w' : World} {S T : Nat → Prop}
set_option maxHeartbeats 4000000 in
theorem fdsEq_any (l m : List Fd) (v u : Value) (L : Lies w S v (.s 4 (l.flatMap dF))) (M : Lies w T u (.s 4 (m.flatMap dF))) (hn : l.length = m.length → l.length ≤ 1000000000) :
  Calls Tryz.prog 165 #[v, u] w (Tells w (.bool (decide (l = m)))) := by
 obtain ⟨A, n, c, rfl, hm⟩ := L.slc
 obtain rfl : n = l.length := by have : n * 4 = (l.flatMap dF).length := hm; rw [flat_len dF_len] at this; omega
 obtain ⟨A2, n, c2, rfl, hm2⟩ := M.slc
 obtain rfl : n = m.length := by have : n * 4 = (m.flatMap dF).length := hm2; rw [flat_len dF_len] at this; omega
 have LL := Lib.hid L
 have MM := Lib.hid M
 clear L M hm hm2
 by_cases hlen : l.length = m.length
 ·have hn := hn hlen
  rw [← hlen]
  have HLN := Lib.hid hlen
  clear hlen
  go_enter Tryz.func165, Tryz.ntmps165
  go_wp2_with fail
  go_loopg [5, 13, 14, 15, 16, 17, 18, 19, 20, 21, 22, 23, 24, 25] l.length (fun gk _ vi _ _ _ _ _ _ _ _ _ _ _ _ wr => EqRelG w l m gk vi wr)
  case atStart => exact ⟨0, rfl, by omega, by omega, by simp, Below.refl _ _⟩
  case round =>
   obtain ⟨i, rfl, hil, hgk, hq, HR⟩ := hrel
   by_cases hie : i = l.length
   ·have hc : ¬ ((i : Int) < (l.length : Int)) := by omega
    have HF := Lib.hid (show decide (l = m) = true by
     rw [decide_eq_true_eq]
     have := hq
     rw [hie, List.take_length, HLN.out, List.take_length] at this
     exact this)
    clear hie
    go_wp2_with fail
    go_ret
    exact ⟨by rw [HF.out]; rfl, HR.out⟩
   ·have hc : (i : Int) < (l.length : Int) := by omega
    have hlt : i < l.length := by omega
    obtain ⟨x, hx⟩ : ∃ x, l[i]? = some x := ⟨l[i], List.getElem?_eq_getElem hlt⟩
    obtain ⟨y, hy⟩ : ∃ y, m[i]? = some y := ⟨m[i]'(by rw [← HLN.out]; exact hlt), List.getElem?_eq_getElem (by rw [← HLN.out]; exact hlt)⟩
    have LW := Lib.hid (LL.out.belowT HR.out)
    have MW := Lib.hid (MM.out.belowT HR.out)
    obtain ⟨bb, o, n', c', he, hn', -, hbl, hcell⟩ := sl_cell (z := 4) LW.out (by intro e0; have := congrArg List.length e0; rw [flat_len dF_len, List.length_nil] at this; omega)
    obtain ⟨bb2, o2, n2', c2', he2, hn2', -, hbl2, hcell2⟩ := sl_cell (z := 4) MW.out (by intro e0; have := congrArg List.length e0; rw [flat_len dF_len, List.length_nil] at this; have := HLN.out; omega)
    simp only [Value.slice.injEq] at he he2
    obtain ⟨rfl, -, rfl⟩ := he
    obtain ⟨rfl, -, rfl⟩ := he2
    obtain ⟨u0, u1, u2, u3⟩ := fd_cells hcell hx
    obtain ⟨p0, p1, p2, p3⟩ := fd_cells hcell2 hy
    have HQ := Lib.hid hq
    have HX := Lib.hid hx
    have HY := Lib.hid hy
    clear hcell hcell2 hbl hbl2 hie hq hx hy
    obtain ⟨a0, a1, a2, a3⟩ := x
    obtain ⟨b0, b1, b2, b3⟩ := y
    by_cases g0 : a0 = b0
    rotate_left
    ·have HF := Lib.hid (show decide (l = m) = false by
      rw [decide_eq_false_iff_not]
      intro e
      have h1 := HX.out
      have h2 := HY.out
      rw [e, h2] at h1
      injection h1 with h1
      apply g0
      simp_all)
     have n1 : ¬ (ofL a0).toList = (ofL b0).toList := by rw [ofL_toList, ofL_toList]; exact g0
     clear g0
     go_wp2_with fail
     go_region
     go_wp2_with fail
     all_goals
      go_ret
      exact ⟨by rw [HF.out]; rfl, HR.out.drew⟩
    subst g0
    by_cases g1 : a1 = b1
    rotate_left
    ·have HF := Lib.hid (show decide (l = m) = false by
      rw [decide_eq_false_iff_not]
      intro e
      have h1 := HX.out
      have h2 := HY.out
      rw [e, h2] at h1
      injection h1 with h1
      apply g1
      simp_all)
     have n1 : (a1 == b1) = false := by rw [beq_eq_false_iff_ne]; exact g1
     go_wp2_with fail
     go_region
     go_wp2_with fail
     all_goals
      go_ret
      exact ⟨by rw [HF.out]; rfl, HR.out.drew⟩
    subst g1
    by_cases g2 : a2 = b2
    rotate_left
    ·have HF := Lib.hid (show decide (l = m) = false by
      rw [decide_eq_false_iff_not]
      intro e
      have h1 := HX.out
      have h2 := HY.out
      rw [e, h2] at h1
      injection h1 with h1
      apply g2
      simp_all)
     have n1 : (a2 == b2) = false := by rw [beq_eq_false_iff_ne]; exact g2
     go_wp2_with fail
     go_region
     go_wp2_with fail
     all_goals
      go_ret
      exact ⟨by rw [HF.out]; rfl, HR.out.drew⟩
    subst g2
    by_cases g3 : a3 = b3
    rotate_left
    ·have HF := Lib.hid (show decide (l = m) = false by
      rw [decide_eq_false_iff_not]
      intro e
      have h1 := HX.out
      have h2 := HY.out
      rw [e, h2] at h1
      injection h1 with h1
      apply g3
      simp_all)
     have n1 : (a3 == b3) = false := by rw [beq_eq_false_iff_ne]; exact g3
     go_wp2_with fail
     go_region
     go_wp2_with fail
     all_goals
      go_ret
      exact ⟨by rw [HF.out]; rfl, HR.out.drew⟩
    subst g3
    have HF := Lib.hid (show l.take (i + 1) = m.take (i + 1) by rw [List.take_add_one, List.take_add_one, HQ.out, HX.out, HY.out])
    go_wp2_with fail
    go_region
    go_wp2_with fail
    all_goals
     go_roundg (gk - 1)
     case rel => exact ⟨i + 1, by simp, by omega, by omega, HF.out, HR.out.drew⟩
     case measure => omega
 ·have HF := Lib.hid (show decide (l = m) = false by rw [decide_eq_false_iff_not]; intro e; exact hlen (by rw [e]))
  have e1 : ((l.length : Int) == (m.length : Int)) = false := by rw [beq_eq_false_iff_ne]; omega
  clear hlen hn
  go_enter Tryz.func165, Tryz.ntmps165
  go_wp2_with fail
  go_ret
  exact ⟨by rw [HF.out]; rfl, Below.refl _ _⟩
set_option maxHeartbeats 4000000 in
theorem amsEq_any (l m : List Am) (v u : Value) (L : Lies w S v (.s 9 (l.flatMap dA))) (M : Lies w T u (.s 9 (m.flatMap dA))) (hn : l.length = m.length → l.length ≤ 1000000000) :
  Calls Tryz.prog 166 #[v, u] w (Tells w (.bool (decide (l = m)))) := by
 obtain ⟨A, n, c, rfl, hm⟩ := L.slc
 obtain rfl : n = l.length := by have : n * 9 = (l.flatMap dA).length := hm; rw [flat_len dA_len] at this; omega
 obtain ⟨A2, n, c2, rfl, hm2⟩ := M.slc
 obtain rfl : n = m.length := by have : n * 9 = (m.flatMap dA).length := hm2; rw [flat_len dA_len] at this; omega
 have LL := Lib.hid L
 have MM := Lib.hid M
 clear L M hm hm2
 by_cases hlen : l.length = m.length
 ·have hn := hn hlen
  rw [← hlen]
  have HLN := Lib.hid hlen
  clear hlen
  go_enter Tryz.func166, Tryz.ntmps166
  go_wp2_with fail
  go_loopg [5, 13, 14, 15, 16, 17, 18, 19, 20, 21, 22, 23, 24, 25] l.length (fun gk _ vi _ _ _ _ _ _ _ _ _ _ _ _ wr => EqRelG w l m gk vi wr)
  case atStart => exact ⟨0, rfl, by omega, by omega, by simp, Below.refl _ _⟩
  case round =>
   obtain ⟨i, rfl, hil, hgk, hq, HR⟩ := hrel
   by_cases hie : i = l.length
   ·have hc : ¬ ((i : Int) < (l.length : Int)) := by omega
    have HF := Lib.hid (show decide (l = m) = true by
     rw [decide_eq_true_eq]
     have := hq
     rw [hie, List.take_length, HLN.out, List.take_length] at this
     exact this)
    clear hie
    go_wp2_with fail
    go_ret
    exact ⟨by rw [HF.out]; rfl, HR.out⟩
   ·have hc : (i : Int) < (l.length : Int) := by omega
    have hlt : i < l.length := by omega
    obtain ⟨x, hx⟩ : ∃ x, l[i]? = some x := ⟨l[i], List.getElem?_eq_getElem hlt⟩
    obtain ⟨y, hy⟩ : ∃ y, m[i]? = some y := ⟨m[i]'(by rw [← HLN.out]; exact hlt), List.getElem?_eq_getElem (by rw [← HLN.out]; exact hlt)⟩
    have LW := Lib.hid (LL.out.belowT HR.out)
    have MW := Lib.hid (MM.out.belowT HR.out)
    obtain ⟨bb, o, n', c', he, hn', -, hbl, hcell⟩ := sl_cell (z := 9) LW.out (by intro e0; have := congrArg List.length e0; rw [flat_len dA_len, List.length_nil] at this; omega)
    obtain ⟨bb2, o2, n2', c2', he2, hn2', -, hbl2, hcell2⟩ := sl_cell (z := 9) MW.out (by intro e0; have := congrArg List.length e0; rw [flat_len dA_len, List.length_nil] at this; have := HLN.out; omega)
    simp only [Value.slice.injEq] at he he2
    obtain ⟨rfl, -, rfl⟩ := he
    obtain ⟨rfl, -, rfl⟩ := he2
    obtain ⟨u0, u1, u2, u3, u4, u5, u6, u7, u8⟩ := am_cells hcell hx
    obtain ⟨p0, p1, p2, p3, p4, p5, p6, p7, p8⟩ := am_cells hcell2 hy
    have HQ := Lib.hid hq
    have HX := Lib.hid hx
    have HY := Lib.hid hy
    clear hcell hcell2 hbl hbl2 hie hq hx hy
    obtain ⟨⟨a0, a1, a2, a3⟩, a4, ⟨a5, a6, a7, a8⟩⟩ := x
    obtain ⟨⟨b0, b1, b2, b3⟩, b4, ⟨b5, b6, b7, b8⟩⟩ := y
    by_cases g0 : a0 = b0
    rotate_left
    ·have HF := Lib.hid (show decide (l = m) = false by
      rw [decide_eq_false_iff_not]
      intro e
      have h1 := HX.out
      have h2 := HY.out
      rw [e, h2] at h1
      injection h1 with h1
      apply g0
      simp_all)
     have n1 : (a0 == b0) = false := by rw [beq_eq_false_iff_ne]; exact g0
     go_wp2_with fail
     go_region
     go_wp2_with fail
     all_goals
      go_ret
      exact ⟨by rw [HF.out]; rfl, HR.out.drew⟩
    subst g0
    by_cases g1 : a1 = b1
    rotate_left
    ·have HF := Lib.hid (show decide (l = m) = false by
      rw [decide_eq_false_iff_not]
      intro e
      have h1 := HX.out
      have h2 := HY.out
      rw [e, h2] at h1
      injection h1 with h1
      apply g1
      simp_all)
     have n1 : ¬ (ofL a1).toList = (ofL b1).toList := by rw [ofL_toList, ofL_toList]; exact g1
     clear g1
     go_wp2_with fail
     go_region
     go_wp2_with fail
     all_goals
      go_ret
      exact ⟨by rw [HF.out]; rfl, HR.out.drew⟩
    subst g1
    by_cases g2 : a2 = b2
    rotate_left
    ·have HF := Lib.hid (show decide (l = m) = false by
      rw [decide_eq_false_iff_not]
      intro e
      have h1 := HX.out
      have h2 := HY.out
      rw [e, h2] at h1
      injection h1 with h1
      apply g2
      simp_all)
     have n1 : ¬ (ofL a2).toList = (ofL b2).toList := by rw [ofL_toList, ofL_toList]; exact g2
     clear g2
     go_wp2_with fail
     go_region
     go_wp2_with fail
     all_goals
      go_ret
      exact ⟨by rw [HF.out]; rfl, HR.out.drew⟩
    subst g2
    by_cases g3 : a3 = b3
    rotate_left
    ·have HF := Lib.hid (show decide (l = m) = false by
      rw [decide_eq_false_iff_not]
      intro e
      have h1 := HX.out
      have h2 := HY.out
      rw [e, h2] at h1
      injection h1 with h1
      apply g3
      simp_all)
     have n1 : (a3 == b3) = false := by rw [beq_eq_false_iff_ne]; exact g3
     go_wp2_with fail
     go_region
     go_wp2_with fail
     all_goals
      go_ret
      exact ⟨by rw [HF.out]; rfl, HR.out.drew⟩
    subst g3
    by_cases g4 : a4 = b4
    rotate_left
    ·have HF := Lib.hid (show decide (l = m) = false by
      rw [decide_eq_false_iff_not]
      intro e
      have h1 := HX.out
      have h2 := HY.out
      rw [e, h2] at h1
      injection h1 with h1
      apply g4
      simp_all)
     have n1 : ¬ (ofL a4).toList = (ofL b4).toList := by rw [ofL_toList, ofL_toList]; exact g4
     clear g4
     go_wp2_with fail
     go_region
     go_wp2_with fail
     all_goals
      go_ret
      exact ⟨by rw [HF.out]; rfl, HR.out.drew⟩
    subst g4
    by_cases g5 : a5 = b5
    rotate_left
    ·have HF := Lib.hid (show decide (l = m) = false by
      rw [decide_eq_false_iff_not]
      intro e
      have h1 := HX.out
      have h2 := HY.out
      rw [e, h2] at h1
      injection h1 with h1
      apply g5
      simp_all)
     have n1 : (a5 == b5) = false := by rw [beq_eq_false_iff_ne]; exact g5
     go_wp2_with fail
     go_region
     go_wp2_with fail
     all_goals
      go_ret
      exact ⟨by rw [HF.out]; rfl, HR.out.drew⟩
    subst g5
    by_cases g6 : a6 = b6
    rotate_left
    ·have HF := Lib.hid (show decide (l = m) = false by
      rw [decide_eq_false_iff_not]
      intro e
      have h1 := HX.out
      have h2 := HY.out
      rw [e, h2] at h1
      injection h1 with h1
      apply g6
      simp_all)
     have n1 : ¬ (ofL a6).toList = (ofL b6).toList := by rw [ofL_toList, ofL_toList]; exact g6
     clear g6
     go_wp2_with fail
     go_region
     go_wp2_with fail
     all_goals
      go_ret
      exact ⟨by rw [HF.out]; rfl, HR.out.drew⟩
    subst g6
    by_cases g7 : a7 = b7
    rotate_left
    ·have HF := Lib.hid (show decide (l = m) = false by
      rw [decide_eq_false_iff_not]
      intro e
      have h1 := HX.out
      have h2 := HY.out
      rw [e, h2] at h1
      injection h1 with h1
      apply g7
      simp_all)
     have n1 : ¬ (ofL a7).toList = (ofL b7).toList := by rw [ofL_toList, ofL_toList]; exact g7
     clear g7
     go_wp2_with fail
     go_region
     go_wp2_with fail
     all_goals
      go_ret
      exact ⟨by rw [HF.out]; rfl, HR.out.drew⟩
    subst g7
    by_cases g8 : a8 = b8
    rotate_left
    ·have HF := Lib.hid (show decide (l = m) = false by
      rw [decide_eq_false_iff_not]
      intro e
      have h1 := HX.out
      have h2 := HY.out
      rw [e, h2] at h1
      injection h1 with h1
      apply g8
      simp_all)
     have n1 : (a8 == b8) = false := by rw [beq_eq_false_iff_ne]; exact g8
     go_wp2_with fail
     go_region
     go_wp2_with fail
     all_goals
      go_ret
      exact ⟨by rw [HF.out]; rfl, HR.out.drew⟩
    subst g8
    have HF := Lib.hid (show l.take (i + 1) = m.take (i + 1) by rw [List.take_add_one, List.take_add_one, HQ.out, HX.out, HY.out])
    go_wp2_with fail
    go_region
    go_wp2_with fail
    all_goals
     go_roundg (gk - 1)
     case rel => exact ⟨i + 1, by simp, by omega, by omega, HF.out, HR.out.drew⟩
     case measure => omega
 ·have HF := Lib.hid (show decide (l = m) = false by rw [decide_eq_false_iff_not]; intro e; exact hlen (by rw [e]))
  have e1 : ((l.length : Int) == (m.length : Int)) = false := by rw [beq_eq_false_iff_ne]; omega
  clear hlen hn
  go_enter Tryz.func166, Tryz.ntmps166
  go_wp2_with fail
  go_ret
  exact ⟨by rw [HF.out]; rfl, Below.refl _ _⟩
end
end Go.Proofs.YtekpefcggikcbaaGreatDoor
