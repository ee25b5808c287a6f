/- Layer 10: the contract of the reference's Equal. -/
import Derived.Test.YtekpefcggikcbaaGreatDoorSyEm
import Derived.Test.YtekpefcggikcbaaGreatDoorSyEi
namespace Go.Proofs.YtekpefcggikcbaaGreatDoor
open Go.RowKit

section
variable {w w' : World} {S T : Nat → Prop}
set_option maxRecDepth 20000 in
set_option maxHeartbeats 16000000 in
theorem requal_any (l m : List Pr) (v u : Value) (L : Lir w S v (.s 4 (l.flatMap dP))) (M : Lir w T u (.s 4 (m.flatMap dP))) (hn : l.length ≤ 1000000000) (hg : ∀ p ∈ l, GR p) :
  Calls Tryz.prog 16 #[v, u] w (Tells w (.bool (eqL prw l m))) := by
 obtain ⟨A, n, c, rfl, hm⟩ := L.slc
 rw [flat_len pr_len] at hm
 obtain rfl : n = l.length := by omega
 obtain ⟨A2, n, c2, rfl, hm2⟩ := M.slc
 rw [flat_len pr_len] at hm2
 obtain rfl : n = m.length := by omega
 have LL := Lib.hid L
 have MM := Lib.hid M
 have HG := Lib.hid hg
 have HDF := Lib.hid (show l ≠ m → eqL prw l m = false from fun h => by
  cases he : eqL prw l m with
  | false => rfl
  | true => exact absurd ((eqL_iff (fun _ _ => prw_iff)).1 he) h)
 clear L M hm hm2 hg
 by_cases hlen : l.length = m.length
 rotate_left
 ·have HF := Lib.hid (HDF.out fun e => hlen (by rw [e]))
  have e1 : ((l.length : Int) == (m.length : Int)) = false := by rw [beq_eq_false_iff_ne]; omega
  clear hlen hn
  go_enter Tryz.func16, Tryz.ntmps16
  go_wp2_with fail
  go_ret
  exact ⟨by rw [HF.out]; rfl, Below.refl _ _⟩
 rw [← hlen]
 have HLN := Lib.hid hlen
 clear hlen
 go_enter Tryz.func16, Tryz.ntmps16
 go_wp2_with fail
 go_loopg [5] l.length (fun gk v5 wr => EmRel w l m gk v5 wr)
 case atStart => exact ⟨0, rfl, by omega, by omega, by unfold Hid; simp, Below.refl _ _⟩
 case round =>
  obtain ⟨i, rfl, hil, hgk, HQ, HR⟩ := hrel
  by_cases hie : i = l.length
  ·have HF := Lib.hid (show eqL prw l m = true by
    rw [eqL_iff (fun _ _ => prw_iff)]
    have := HQ.out
    rw [hie, List.take_length, HLN.out, List.take_length] at this
    exact this)
   subst hie
   go_wp2_with fail
   go_ret
   exact ⟨by rw [HF.out]; rfl, HR.out⟩
  have hlt : i < l.length := by omega
  have hil1 : (i : Int) < (l.length : Int) := by omega
  obtain ⟨x, hx⟩ : ∃ x, l[i]? = some x := ⟨l[i], List.getElem?_eq_getElem hlt⟩
  obtain ⟨y, hy⟩ : ∃ y, m[i]? = some y := ⟨m[i]'(by rw [← HLN.out]; exact hlt), List.getElem?_eq_getElem (by rw [← HLN.out]; exact hlt)⟩
  obtain ⟨bb, o, n', c', he, -, -, -, -, hcell⟩ := (LL.out.belowT HR.out).cell (by intro e0; have := congrArg List.length e0; rw [flat_len pr_len, List.length_nil] at this; omega)
  obtain ⟨bb2, o2, n2', c2', he2, -, -, -, -, hcell2⟩ := (MM.out.belowT HR.out).cell (by intro e0; have := congrArg List.length e0; rw [flat_len pr_len, List.length_nil] at this; have := HLN.out; omega)
  simp only [Value.slice.injEq] at he he2
  obtain ⟨rfl, -, rfl⟩ := he
  obtain ⟨rfl, -, rfl⟩ := he2
  obtain ⟨A1, c1, A3, c3, A5, c5, q0, q1, q2, q3, L1, L2, L3⟩ := rpr_cells hcell hx
  obtain ⟨B1, d1, B3, d3, B5, d5, r0, r1, r2, r3, M1, M2, M3⟩ := rpr_cells hcell2 hy
  have hgp := HG.out x (List.mem_of_getElem? hx)
  obtain ⟨nx, rx, mx, bx⟩ := x
  obtain ⟨ny, ry, my, yb⟩ := y
  simp only at q0 q1 q2 q3 r0 r1 r2 r3 L1 L2 L3 M1 M2 M3
  have C1 := Lib.hid (fun w' (hb : Below wr.heap.size wr w') => sameStrs_any rx ry _ _ (L1.belowT hb) (M1.belowT hb) (fun _ => hgp.rl))
  have C2 := Lib.hid (fun w' (hb : Below wr.heap.size wr w') => eqMsgs_any mx my _ _ (L2.belowT hb) (M2.belowT hb) hgp.ml hgp.fl)
  have C3 := Lib.hid (fun w' (hb : Below wr.heap.size wr w') => eqItems_any (nIs bx + 1) bx yb w' _ _ _ _ (by omega) hgp.bn hgp.td (L3.belowT hb) (M3.belowT hb))
  have HNE := Lib.hid (show (Pr.mk nx rx mx bx) ≠ ⟨ny, ry, my, yb⟩ → eqL prw l m = false by
   intro hne
   apply HDF.out
   intro e
   have h1 := hx
   rw [e, hy] at h1
   exact hne (Option.some.inj h1).symm)
  have HX := Lib.hid hx
  have HY := Lib.hid hy
  obtain ⟨t0, h0⟩ : ∃ b, ((ofL nx).toList == (ofL ny).toList) = b := ⟨_, rfl⟩
  obtain ⟨t1, h1⟩ : ∃ b, decide (rx = ry) = b := ⟨_, rfl⟩
  obtain ⟨t2, h2⟩ : ∃ b, decide (mx = my) = b := ⟨_, rfl⟩
  obtain ⟨t3, h3⟩ : ∃ b, eqIs bx yb = b := ⟨_, rfl⟩
  have HALL := Lib.hid (show ((((!t0) || (!t1)) || (!t2)) || (!t3)) = false ↔ (Pr.mk nx rx mx bx) = ⟨ny, ry, my, yb⟩ by
   rw [← h0, ← h1, ← h2, ← h3]
   simp only [Bool.or_eq_false_iff, Bool.not_eq_false', beq_iff_eq, decide_eq_true_eq, eqIs_iff, ofL_toList, Pr.mk.injEq, and_assoc])
  have T0 := Lib.hid h0
  have T1 := Lib.hid h1
  have T2 := Lib.hid h2
  have T3 := Lib.hid h3
  clear hcell hcell2 hx hy L1 L2 L3 M1 M2 M3 hgp h0 h1 h2 h3
  go_wp2_with fail
  refine region_phi (n := 70) (Wd [(false, .slice (some ⟨bb, o, none⟩) l.length c),
    (false, .int .i64 (i : Int)),
    (false, .pointer (some ⟨bb, o + i * 4, none⟩)),
    (false, .pointer (some ⟨bb, o + i * 4, none⟩)),
    (false, .string (ofL nx)),
    (false, .slice (some ⟨bb2, o2, none⟩) l.length c2),
    (false, .int .i64 (i : Int)),
    (false, .pointer (some ⟨bb2, o2 + i * 4, none⟩)),
    (false, .pointer (some ⟨bb2, o2 + i * 4, none⟩)),
    (false, .string (ofL ny)),
    (false, .bool (!t0)),
    (false, .bool (!t0)),
    ((!t0), .slice (some ⟨bb, o, none⟩) l.length c),
    ((!t0), .int .i64 (i : Int)),
    ((!t0), .pointer (some ⟨bb, o + i * 4, none⟩)),
    ((!t0), .pointer (some ⟨bb, o + i * 4 + 1, none⟩)),
    ((!t0), .slice A1 rx.length c1),
    ((!t0), .slice (some ⟨bb2, o2, none⟩) l.length c2),
    ((!t0), .int .i64 (i : Int)),
    ((!t0), .pointer (some ⟨bb2, o2 + i * 4, none⟩)),
    ((!t0), .pointer (some ⟨bb2, o2 + i * 4 + 1, none⟩)),
    ((!t0), .slice B1 ry.length d1),
    ((!t0), .bool t1),
    ((!t0), .bool (!t1)),
    (false, .bool ((!t0) || (!t1))),
    (false, .bool ((!t0) || (!t1))),
    (((!t0) || (!t1)), .slice (some ⟨bb, o, none⟩) l.length c),
    (((!t0) || (!t1)), .int .i64 (i : Int)),
    (((!t0) || (!t1)), .pointer (some ⟨bb, o + i * 4, none⟩)),
    (((!t0) || (!t1)), .pointer (some ⟨bb, o + i * 4 + 2, none⟩)),
    (((!t0) || (!t1)), .slice A3 mx.length c3),
    (((!t0) || (!t1)), .slice (some ⟨bb2, o2, none⟩) l.length c2),
    (((!t0) || (!t1)), .int .i64 (i : Int)),
    (((!t0) || (!t1)), .pointer (some ⟨bb2, o2 + i * 4, none⟩)),
    (((!t0) || (!t1)), .pointer (some ⟨bb2, o2 + i * 4 + 2, none⟩)),
    (((!t0) || (!t1)), .slice B3 my.length d3),
    (((!t0) || (!t1)), .bool t2),
    (((!t0) || (!t1)), .bool (!t2)),
    (false, .bool (((!t0) || (!t1)) || (!t2))),
    (false, .bool (((!t0) || (!t1)) || (!t2))),
    ((((!t0) || (!t1)) || (!t2)), .slice (some ⟨bb, o, none⟩) l.length c),
    ((((!t0) || (!t1)) || (!t2)), .int .i64 (i : Int)),
    ((((!t0) || (!t1)) || (!t2)), .pointer (some ⟨bb, o + i * 4, none⟩)),
    ((((!t0) || (!t1)) || (!t2)), .pointer (some ⟨bb, o + i * 4 + 3, none⟩)),
    ((((!t0) || (!t1)) || (!t2)), .slice A5 bx.length c5),
    ((((!t0) || (!t1)) || (!t2)), .slice (some ⟨bb2, o2, none⟩) l.length c2),
    ((((!t0) || (!t1)) || (!t2)), .int .i64 (i : Int)),
    ((((!t0) || (!t1)) || (!t2)), .pointer (some ⟨bb2, o2 + i * 4, none⟩)),
    ((((!t0) || (!t1)) || (!t2)), .pointer (some ⟨bb2, o2 + i * 4 + 3, none⟩)),
    ((((!t0) || (!t1)) || (!t2)), .slice B5 yb.length d5),
    ((((!t0) || (!t1)) || (!t2)), .bool t3),
    ((((!t0) || (!t1)) || (!t2)), .bool (!t3)),
    (false, .bool ((((!t0) || (!t1)) || (!t2)) || (!t3)))]) (by kernel_rfl) (by kernel_rfl) rfl (fun _ _ _ _ h _ => h) (allOps_spec ?_) ?_
  ·refine ⟨?_, ?_, ?_, ?_, ?_, ?_, ?_, ?_, ?_, ?_, ?_, ?_, ?_, ?_, ?_, ?_, ?_, ?_, ?_, ?_, ?_, ?_, ?_, ?_, ?_, ?_, ?_, ?_, ?_, ?_, ?_, ?_, ?_, ?_, ?_, ?_, ?_, ?_, ?_, ?_, ?_, ?_, ?_, ?_, ?_, ?_, ?_, ?_, ?_, ?_, ?_, ?_, ?_, trivial⟩
   ·intro a w' hb hp
    have b0 : a.tmps[0]?.getD undef = .slice (some ⟨bb, o, none⟩) l.length c := hb.at 0 (by kernel_rfl)
    exact wd_run rfl rfl (by simp [execOp, go_sem, Act.eval, b0])
   ·intro a w' hb hp
    have b5 : a.tmps[5]?.getD undef = .int .i64 (i : Int) := hb.at 5 (by kernel_rfl)
    exact wd_run rfl rfl (by simp [execOp, go_sem, Act.eval, b5])
   ·exact fun a w' hb hp => wd_run rfl rfl (by simp [execOp, go_sem, Act.eval, wd_get (hp ⟨0, .data⟩ (by simp) rfl _ rfl) rfl rfl, wd_get (hp ⟨1, .data⟩ (by simp) rfl _ rfl) rfl rfl, hil1])
   ·exact fun a w' hb hp => wd_run rfl rfl (by simp [execOp, go_sem, Act.eval, wd_get (hp ⟨2, .data⟩ (by simp) rfl _ rfl) rfl rfl])
   ·intro a w' hb hp
    have kc := (hb.ext.cell (World.block_lt_of_cell? _ _ q0)).trans q0
    exact wd_run rfl rfl (by simp [execOp, go_sem, Act.eval, wd_get (hp ⟨3, .data⟩ (by simp) rfl _ rfl) rfl rfl, kc])
   ·intro a w' hb hp
    have b1 : a.tmps[1]?.getD undef = .slice (some ⟨bb2, o2, none⟩) l.length c2 := hb.at 1 (by kernel_rfl)
    exact wd_run rfl rfl (by simp [execOp, go_sem, Act.eval, b1])
   ·intro a w' hb hp
    have b5 : a.tmps[5]?.getD undef = .int .i64 (i : Int) := hb.at 5 (by kernel_rfl)
    exact wd_run rfl rfl (by simp [execOp, go_sem, Act.eval, b5])
   ·exact fun a w' hb hp => wd_run rfl rfl (by simp [execOp, go_sem, Act.eval, wd_get (hp ⟨5, .data⟩ (by simp) rfl _ rfl) rfl rfl, wd_get (hp ⟨6, .data⟩ (by simp) rfl _ rfl) rfl rfl, hil1])
   ·exact fun a w' hb hp => wd_run rfl rfl (by simp [execOp, go_sem, Act.eval, wd_get (hp ⟨7, .data⟩ (by simp) rfl _ rfl) rfl rfl])
   ·intro a w' hb hp
    have kc := (hb.ext.cell (World.block_lt_of_cell? _ _ r0)).trans r0
    exact wd_run rfl rfl (by simp [execOp, go_sem, Act.eval, wd_get (hp ⟨8, .data⟩ (by simp) rfl _ rfl) rfl rfl, kc])
   ·intro a w' hb hp
    have h21 := wd_get (hp ⟨4, .data⟩ (by simp) rfl _ rfl) rfl rfl
    have h26 := wd_get (hp ⟨9, .data⟩ (by simp) rfl _ rfl) rfl rfl
    have tt := T0.out
    exact wd_run rfl rfl (by simp [execOp, go_sem, Act.eval, h21, h26, tt])
   ·exact fun a w' hb hp => wd_run rfl rfl (by simp [execOp, go_sem, Act.eval, wd_get (hp ⟨10, .data⟩ (by simp) rfl _ rfl) rfl rfl])
   ·intro a w' hb hp
    have gg := wd_get (hp ⟨11, .guard⟩ (by simp) rfl _ rfl) rfl rfl
    by_cases hg : (!t0) = true
    ·exact wd_off rfl hg (by rw [hg] at gg; simp [Region.wanted, yielded, bool_at gg])
    rw [Bool.not_eq_true] at hg
    rw [hg] at gg
    have b0 : a.tmps[0]?.getD undef = .slice (some ⟨bb, o, none⟩) l.length c := hb.at 0 (by kernel_rfl)
    exact wd_run rfl (by simp [Region.wanted, yielded, bool_at gg]) (by simp [execOp, go_sem, Act.eval, b0])
   ·intro a w' hb hp
    have gg := wd_get (hp ⟨11, .guard⟩ (by simp) rfl _ rfl) rfl rfl
    by_cases hg : (!t0) = true
    ·exact wd_off rfl hg (by rw [hg] at gg; simp [Region.wanted, yielded, bool_at gg])
    rw [Bool.not_eq_true] at hg
    rw [hg] at gg
    have b5 : a.tmps[5]?.getD undef = .int .i64 (i : Int) := hb.at 5 (by kernel_rfl)
    exact wd_run rfl (by simp [Region.wanted, yielded, bool_at gg]) (by simp [execOp, go_sem, Act.eval, b5])
   ·intro a w' hb hp
    have gg := wd_get (hp ⟨11, .guard⟩ (by simp) rfl _ rfl) rfl rfl
    by_cases hg : (!t0) = true
    ·exact wd_off rfl hg (by rw [hg] at gg; simp [Region.wanted, yielded, bool_at gg])
    rw [Bool.not_eq_true] at hg
    rw [hg] at gg
    exact wd_run rfl (by simp [Region.wanted, yielded, bool_at gg]) (by simp [execOp, go_sem, Act.eval, wd_get (hp ⟨12, .data⟩ (by simp) rfl _ rfl) rfl hg, wd_get (hp ⟨13, .data⟩ (by simp) rfl _ rfl) rfl hg, hil1])
   ·intro a w' hb hp
    have gg := wd_get (hp ⟨11, .guard⟩ (by simp) rfl _ rfl) rfl rfl
    by_cases hg : (!t0) = true
    ·exact wd_off rfl hg (by rw [hg] at gg; simp [Region.wanted, yielded, bool_at gg])
    rw [Bool.not_eq_true] at hg
    rw [hg] at gg
    exact wd_run rfl (by simp [Region.wanted, yielded, bool_at gg]) (by simp [execOp, go_sem, Act.eval, wd_get (hp ⟨14, .data⟩ (by simp) rfl _ rfl) rfl hg])
   ·intro a w' hb hp
    have gg := wd_get (hp ⟨11, .guard⟩ (by simp) rfl _ rfl) rfl rfl
    by_cases hg : (!t0) = true
    ·exact wd_off rfl hg (by rw [hg] at gg; simp [Region.wanted, yielded, bool_at gg])
    rw [Bool.not_eq_true] at hg
    rw [hg] at gg
    have kc := (hb.ext.cell (World.block_lt_of_cell? _ _ q1)).trans q1
    exact wd_run rfl (by simp [Region.wanted, yielded, bool_at gg]) (by simp [execOp, go_sem, Act.eval, wd_get (hp ⟨15, .data⟩ (by simp) rfl _ rfl) rfl hg, kc])
   ·intro a w' hb hp
    have gg := wd_get (hp ⟨11, .guard⟩ (by simp) rfl _ rfl) rfl rfl
    by_cases hg : (!t0) = true
    ·exact wd_off rfl hg (by rw [hg] at gg; simp [Region.wanted, yielded, bool_at gg])
    rw [Bool.not_eq_true] at hg
    rw [hg] at gg
    have b1 : a.tmps[1]?.getD undef = .slice (some ⟨bb2, o2, none⟩) l.length c2 := hb.at 1 (by kernel_rfl)
    exact wd_run rfl (by simp [Region.wanted, yielded, bool_at gg]) (by simp [execOp, go_sem, Act.eval, b1])
   ·intro a w' hb hp
    have gg := wd_get (hp ⟨11, .guard⟩ (by simp) rfl _ rfl) rfl rfl
    by_cases hg : (!t0) = true
    ·exact wd_off rfl hg (by rw [hg] at gg; simp [Region.wanted, yielded, bool_at gg])
    rw [Bool.not_eq_true] at hg
    rw [hg] at gg
    have b5 : a.tmps[5]?.getD undef = .int .i64 (i : Int) := hb.at 5 (by kernel_rfl)
    exact wd_run rfl (by simp [Region.wanted, yielded, bool_at gg]) (by simp [execOp, go_sem, Act.eval, b5])
   ·intro a w' hb hp
    have gg := wd_get (hp ⟨11, .guard⟩ (by simp) rfl _ rfl) rfl rfl
    by_cases hg : (!t0) = true
    ·exact wd_off rfl hg (by rw [hg] at gg; simp [Region.wanted, yielded, bool_at gg])
    rw [Bool.not_eq_true] at hg
    rw [hg] at gg
    exact wd_run rfl (by simp [Region.wanted, yielded, bool_at gg]) (by simp [execOp, go_sem, Act.eval, wd_get (hp ⟨17, .data⟩ (by simp) rfl _ rfl) rfl hg, wd_get (hp ⟨18, .data⟩ (by simp) rfl _ rfl) rfl hg, hil1])
   ·intro a w' hb hp
    have gg := wd_get (hp ⟨11, .guard⟩ (by simp) rfl _ rfl) rfl rfl
    by_cases hg : (!t0) = true
    ·exact wd_off rfl hg (by rw [hg] at gg; simp [Region.wanted, yielded, bool_at gg])
    rw [Bool.not_eq_true] at hg
    rw [hg] at gg
    exact wd_run rfl (by simp [Region.wanted, yielded, bool_at gg]) (by simp [execOp, go_sem, Act.eval, wd_get (hp ⟨19, .data⟩ (by simp) rfl _ rfl) rfl hg])
   ·intro a w' hb hp
    have gg := wd_get (hp ⟨11, .guard⟩ (by simp) rfl _ rfl) rfl rfl
    by_cases hg : (!t0) = true
    ·exact wd_off rfl hg (by rw [hg] at gg; simp [Region.wanted, yielded, bool_at gg])
    rw [Bool.not_eq_true] at hg
    rw [hg] at gg
    have kc := (hb.ext.cell (World.block_lt_of_cell? _ _ r1)).trans r1
    exact wd_run rfl (by simp [Region.wanted, yielded, bool_at gg]) (by simp [execOp, go_sem, Act.eval, wd_get (hp ⟨20, .data⟩ (by simp) rfl _ rfl) rfl hg, kc])
   ·intro a w' hb hp
    have gg := wd_get (hp ⟨11, .guard⟩ (by simp) rfl _ rfl) rfl rfl
    by_cases hg : (!t0) = true
    ·exact wd_off rfl hg (by rw [hg] at gg; simp [Region.wanted, yielded, bool_at gg])
    rw [Bool.not_eq_true] at hg
    rw [hg] at gg
    refine step_call (f := 43) (args := #[.slice A1 rx.length c1, .slice B1 ry.length d1]) (by simp [Region.wanted, yielded, bool_at gg]) (by simp [go_sem, wd_get (hp ⟨16, .data⟩ (by simp) rfl _ rfl) rfl hg, wd_get (hp ⟨21, .data⟩ (by simp) rfl _ rfl) rfl hg]) ?_
    refine (C1.out w' hb.ext).mono ?_
    rintro e w5 ⟨rfl, hb5⟩
    exact ⟨_, rfl, hb5, wd_mk rfl fun _ => by rw [T1.out]⟩
   ·intro a w' hb hp
    have gg := wd_get (hp ⟨11, .guard⟩ (by simp) rfl _ rfl) rfl rfl
    by_cases hg : (!t0) = true
    ·exact wd_off rfl hg (by rw [hg] at gg; simp [Region.wanted, yielded, bool_at gg])
    rw [Bool.not_eq_true] at hg
    rw [hg] at gg
    exact wd_run rfl (by simp [Region.wanted, yielded, bool_at gg]) (by simp [execOp, go_sem, Act.eval, wd_get (hp ⟨22, .data⟩ (by simp) rfl _ rfl) rfl hg])
   ·intro a w' hb hp
    have gg := wd_get (hp ⟨11, .data⟩ (by simp) rfl _ rfl) rfl rfl
    by_cases hg : (!t0) = true
    ·rw [hg] at gg
     exact wd_run2 rfl rfl (v := .bool true) (by simp [execOp, go_sem, Act.eval, gg]) (by rw [hg]; rfl)
    rw [Bool.not_eq_true] at hg
    rw [hg] at gg
    exact wd_run2 (v := .bool (!t1)) rfl rfl (by simp [execOp, go_sem, Act.eval, gg, wd_get (hp ⟨23, .data⟩ (by simp) rfl _ rfl) rfl hg]) (by rw [hg]; rfl)
   ·exact fun a w' hb hp => wd_run rfl rfl (by simp [execOp, go_sem, Act.eval, wd_get (hp ⟨24, .data⟩ (by simp) rfl _ rfl) rfl rfl])
   ·intro a w' hb hp
    have gg := wd_get (hp ⟨25, .guard⟩ (by simp) rfl _ rfl) rfl rfl
    by_cases hg : ((!t0) || (!t1)) = true
    ·exact wd_off rfl hg (by rw [hg] at gg; simp [Region.wanted, yielded, bool_at gg])
    rw [Bool.not_eq_true] at hg
    rw [hg] at gg
    have b0 : a.tmps[0]?.getD undef = .slice (some ⟨bb, o, none⟩) l.length c := hb.at 0 (by kernel_rfl)
    exact wd_run rfl (by simp [Region.wanted, yielded, bool_at gg]) (by simp [execOp, go_sem, Act.eval, b0])
   ·intro a w' hb hp
    have gg := wd_get (hp ⟨25, .guard⟩ (by simp) rfl _ rfl) rfl rfl
    by_cases hg : ((!t0) || (!t1)) = true
    ·exact wd_off rfl hg (by rw [hg] at gg; simp [Region.wanted, yielded, bool_at gg])
    rw [Bool.not_eq_true] at hg
    rw [hg] at gg
    have b5 : a.tmps[5]?.getD undef = .int .i64 (i : Int) := hb.at 5 (by kernel_rfl)
    exact wd_run rfl (by simp [Region.wanted, yielded, bool_at gg]) (by simp [execOp, go_sem, Act.eval, b5])
   ·intro a w' hb hp
    have gg := wd_get (hp ⟨25, .guard⟩ (by simp) rfl _ rfl) rfl rfl
    by_cases hg : ((!t0) || (!t1)) = true
    ·exact wd_off rfl hg (by rw [hg] at gg; simp [Region.wanted, yielded, bool_at gg])
    rw [Bool.not_eq_true] at hg
    rw [hg] at gg
    exact wd_run rfl (by simp [Region.wanted, yielded, bool_at gg]) (by simp [execOp, go_sem, Act.eval, wd_get (hp ⟨26, .data⟩ (by simp) rfl _ rfl) rfl hg, wd_get (hp ⟨27, .data⟩ (by simp) rfl _ rfl) rfl hg, hil1])
   ·intro a w' hb hp
    have gg := wd_get (hp ⟨25, .guard⟩ (by simp) rfl _ rfl) rfl rfl
    by_cases hg : ((!t0) || (!t1)) = true
    ·exact wd_off rfl hg (by rw [hg] at gg; simp [Region.wanted, yielded, bool_at gg])
    rw [Bool.not_eq_true] at hg
    rw [hg] at gg
    exact wd_run rfl (by simp [Region.wanted, yielded, bool_at gg]) (by simp [execOp, go_sem, Act.eval, wd_get (hp ⟨28, .data⟩ (by simp) rfl _ rfl) rfl hg])
   ·intro a w' hb hp
    have gg := wd_get (hp ⟨25, .guard⟩ (by simp) rfl _ rfl) rfl rfl
    by_cases hg : ((!t0) || (!t1)) = true
    ·exact wd_off rfl hg (by rw [hg] at gg; simp [Region.wanted, yielded, bool_at gg])
    rw [Bool.not_eq_true] at hg
    rw [hg] at gg
    have kc := (hb.ext.cell (World.block_lt_of_cell? _ _ q2)).trans q2
    exact wd_run rfl (by simp [Region.wanted, yielded, bool_at gg]) (by simp [execOp, go_sem, Act.eval, wd_get (hp ⟨29, .data⟩ (by simp) rfl _ rfl) rfl hg, kc])
   ·intro a w' hb hp
    have gg := wd_get (hp ⟨25, .guard⟩ (by simp) rfl _ rfl) rfl rfl
    by_cases hg : ((!t0) || (!t1)) = true
    ·exact wd_off rfl hg (by rw [hg] at gg; simp [Region.wanted, yielded, bool_at gg])
    rw [Bool.not_eq_true] at hg
    rw [hg] at gg
    have b1 : a.tmps[1]?.getD undef = .slice (some ⟨bb2, o2, none⟩) l.length c2 := hb.at 1 (by kernel_rfl)
    exact wd_run rfl (by simp [Region.wanted, yielded, bool_at gg]) (by simp [execOp, go_sem, Act.eval, b1])
   ·intro a w' hb hp
    have gg := wd_get (hp ⟨25, .guard⟩ (by simp) rfl _ rfl) rfl rfl
    by_cases hg : ((!t0) || (!t1)) = true
    ·exact wd_off rfl hg (by rw [hg] at gg; simp [Region.wanted, yielded, bool_at gg])
    rw [Bool.not_eq_true] at hg
    rw [hg] at gg
    have b5 : a.tmps[5]?.getD undef = .int .i64 (i : Int) := hb.at 5 (by kernel_rfl)
    exact wd_run rfl (by simp [Region.wanted, yielded, bool_at gg]) (by simp [execOp, go_sem, Act.eval, b5])
   ·intro a w' hb hp
    have gg := wd_get (hp ⟨25, .guard⟩ (by simp) rfl _ rfl) rfl rfl
    by_cases hg : ((!t0) || (!t1)) = true
    ·exact wd_off rfl hg (by rw [hg] at gg; simp [Region.wanted, yielded, bool_at gg])
    rw [Bool.not_eq_true] at hg
    rw [hg] at gg
    exact wd_run rfl (by simp [Region.wanted, yielded, bool_at gg]) (by simp [execOp, go_sem, Act.eval, wd_get (hp ⟨31, .data⟩ (by simp) rfl _ rfl) rfl hg, wd_get (hp ⟨32, .data⟩ (by simp) rfl _ rfl) rfl hg, hil1])
   ·intro a w' hb hp
    have gg := wd_get (hp ⟨25, .guard⟩ (by simp) rfl _ rfl) rfl rfl
    by_cases hg : ((!t0) || (!t1)) = true
    ·exact wd_off rfl hg (by rw [hg] at gg; simp [Region.wanted, yielded, bool_at gg])
    rw [Bool.not_eq_true] at hg
    rw [hg] at gg
    exact wd_run rfl (by simp [Region.wanted, yielded, bool_at gg]) (by simp [execOp, go_sem, Act.eval, wd_get (hp ⟨33, .data⟩ (by simp) rfl _ rfl) rfl hg])
   ·intro a w' hb hp
    have gg := wd_get (hp ⟨25, .guard⟩ (by simp) rfl _ rfl) rfl rfl
    by_cases hg : ((!t0) || (!t1)) = true
    ·exact wd_off rfl hg (by rw [hg] at gg; simp [Region.wanted, yielded, bool_at gg])
    rw [Bool.not_eq_true] at hg
    rw [hg] at gg
    have kc := (hb.ext.cell (World.block_lt_of_cell? _ _ r2)).trans r2
    exact wd_run rfl (by simp [Region.wanted, yielded, bool_at gg]) (by simp [execOp, go_sem, Act.eval, wd_get (hp ⟨34, .data⟩ (by simp) rfl _ rfl) rfl hg, kc])
   ·intro a w' hb hp
    have gg := wd_get (hp ⟨25, .guard⟩ (by simp) rfl _ rfl) rfl rfl
    by_cases hg : ((!t0) || (!t1)) = true
    ·exact wd_off rfl hg (by rw [hg] at gg; simp [Region.wanted, yielded, bool_at gg])
    rw [Bool.not_eq_true] at hg
    rw [hg] at gg
    refine step_call (f := 44) (args := #[.slice A3 mx.length c3, .slice B3 my.length d3]) (by simp [Region.wanted, yielded, bool_at gg]) (by simp [go_sem, wd_get (hp ⟨30, .data⟩ (by simp) rfl _ rfl) rfl hg, wd_get (hp ⟨35, .data⟩ (by simp) rfl _ rfl) rfl hg]) ?_
    refine (C2.out w' hb.ext).mono ?_
    rintro e w5 ⟨rfl, hb5⟩
    exact ⟨_, rfl, hb5, wd_mk rfl fun _ => by rw [T2.out]⟩
   ·intro a w' hb hp
    have gg := wd_get (hp ⟨25, .guard⟩ (by simp) rfl _ rfl) rfl rfl
    by_cases hg : ((!t0) || (!t1)) = true
    ·exact wd_off rfl hg (by rw [hg] at gg; simp [Region.wanted, yielded, bool_at gg])
    rw [Bool.not_eq_true] at hg
    rw [hg] at gg
    exact wd_run rfl (by simp [Region.wanted, yielded, bool_at gg]) (by simp [execOp, go_sem, Act.eval, wd_get (hp ⟨36, .data⟩ (by simp) rfl _ rfl) rfl hg])
   ·intro a w' hb hp
    have gg := wd_get (hp ⟨25, .data⟩ (by simp) rfl _ rfl) rfl rfl
    by_cases hg : ((!t0) || (!t1)) = true
    ·rw [hg] at gg
     exact wd_run2 rfl rfl (v := .bool true) (by simp [execOp, go_sem, Act.eval, gg]) (by rw [hg]; rfl)
    rw [Bool.not_eq_true] at hg
    rw [hg] at gg
    exact wd_run2 (v := .bool (!t2)) rfl rfl (by simp [execOp, go_sem, Act.eval, gg, wd_get (hp ⟨37, .data⟩ (by simp) rfl _ rfl) rfl hg]) (by rw [hg]; rfl)
   ·exact fun a w' hb hp => wd_run rfl rfl (by simp [execOp, go_sem, Act.eval, wd_get (hp ⟨38, .data⟩ (by simp) rfl _ rfl) rfl rfl])
   ·intro a w' hb hp
    have gg := wd_get (hp ⟨39, .guard⟩ (by simp) rfl _ rfl) rfl rfl
    by_cases hg : (((!t0) || (!t1)) || (!t2)) = true
    ·exact wd_off rfl hg (by rw [hg] at gg; simp [Region.wanted, yielded, bool_at gg])
    rw [Bool.not_eq_true] at hg
    rw [hg] at gg
    have b0 : a.tmps[0]?.getD undef = .slice (some ⟨bb, o, none⟩) l.length c := hb.at 0 (by kernel_rfl)
    exact wd_run rfl (by simp [Region.wanted, yielded, bool_at gg]) (by simp [execOp, go_sem, Act.eval, b0])
   ·intro a w' hb hp
    have gg := wd_get (hp ⟨39, .guard⟩ (by simp) rfl _ rfl) rfl rfl
    by_cases hg : (((!t0) || (!t1)) || (!t2)) = true
    ·exact wd_off rfl hg (by rw [hg] at gg; simp [Region.wanted, yielded, bool_at gg])
    rw [Bool.not_eq_true] at hg
    rw [hg] at gg
    have b5 : a.tmps[5]?.getD undef = .int .i64 (i : Int) := hb.at 5 (by kernel_rfl)
    exact wd_run rfl (by simp [Region.wanted, yielded, bool_at gg]) (by simp [execOp, go_sem, Act.eval, b5])
   ·intro a w' hb hp
    have gg := wd_get (hp ⟨39, .guard⟩ (by simp) rfl _ rfl) rfl rfl
    by_cases hg : (((!t0) || (!t1)) || (!t2)) = true
    ·exact wd_off rfl hg (by rw [hg] at gg; simp [Region.wanted, yielded, bool_at gg])
    rw [Bool.not_eq_true] at hg
    rw [hg] at gg
    exact wd_run rfl (by simp [Region.wanted, yielded, bool_at gg]) (by simp [execOp, go_sem, Act.eval, wd_get (hp ⟨40, .data⟩ (by simp) rfl _ rfl) rfl hg, wd_get (hp ⟨41, .data⟩ (by simp) rfl _ rfl) rfl hg, hil1])
   ·intro a w' hb hp
    have gg := wd_get (hp ⟨39, .guard⟩ (by simp) rfl _ rfl) rfl rfl
    by_cases hg : (((!t0) || (!t1)) || (!t2)) = true
    ·exact wd_off rfl hg (by rw [hg] at gg; simp [Region.wanted, yielded, bool_at gg])
    rw [Bool.not_eq_true] at hg
    rw [hg] at gg
    exact wd_run rfl (by simp [Region.wanted, yielded, bool_at gg]) (by simp [execOp, go_sem, Act.eval, wd_get (hp ⟨42, .data⟩ (by simp) rfl _ rfl) rfl hg])
   ·intro a w' hb hp
    have gg := wd_get (hp ⟨39, .guard⟩ (by simp) rfl _ rfl) rfl rfl
    by_cases hg : (((!t0) || (!t1)) || (!t2)) = true
    ·exact wd_off rfl hg (by rw [hg] at gg; simp [Region.wanted, yielded, bool_at gg])
    rw [Bool.not_eq_true] at hg
    rw [hg] at gg
    have kc := (hb.ext.cell (World.block_lt_of_cell? _ _ q3)).trans q3
    exact wd_run rfl (by simp [Region.wanted, yielded, bool_at gg]) (by simp [execOp, go_sem, Act.eval, wd_get (hp ⟨43, .data⟩ (by simp) rfl _ rfl) rfl hg, kc])
   ·intro a w' hb hp
    have gg := wd_get (hp ⟨39, .guard⟩ (by simp) rfl _ rfl) rfl rfl
    by_cases hg : (((!t0) || (!t1)) || (!t2)) = true
    ·exact wd_off rfl hg (by rw [hg] at gg; simp [Region.wanted, yielded, bool_at gg])
    rw [Bool.not_eq_true] at hg
    rw [hg] at gg
    have b1 : a.tmps[1]?.getD undef = .slice (some ⟨bb2, o2, none⟩) l.length c2 := hb.at 1 (by kernel_rfl)
    exact wd_run rfl (by simp [Region.wanted, yielded, bool_at gg]) (by simp [execOp, go_sem, Act.eval, b1])
   ·intro a w' hb hp
    have gg := wd_get (hp ⟨39, .guard⟩ (by simp) rfl _ rfl) rfl rfl
    by_cases hg : (((!t0) || (!t1)) || (!t2)) = true
    ·exact wd_off rfl hg (by rw [hg] at gg; simp [Region.wanted, yielded, bool_at gg])
    rw [Bool.not_eq_true] at hg
    rw [hg] at gg
    have b5 : a.tmps[5]?.getD undef = .int .i64 (i : Int) := hb.at 5 (by kernel_rfl)
    exact wd_run rfl (by simp [Region.wanted, yielded, bool_at gg]) (by simp [execOp, go_sem, Act.eval, b5])
   ·intro a w' hb hp
    have gg := wd_get (hp ⟨39, .guard⟩ (by simp) rfl _ rfl) rfl rfl
    by_cases hg : (((!t0) || (!t1)) || (!t2)) = true
    ·exact wd_off rfl hg (by rw [hg] at gg; simp [Region.wanted, yielded, bool_at gg])
    rw [Bool.not_eq_true] at hg
    rw [hg] at gg
    exact wd_run rfl (by simp [Region.wanted, yielded, bool_at gg]) (by simp [execOp, go_sem, Act.eval, wd_get (hp ⟨45, .data⟩ (by simp) rfl _ rfl) rfl hg, wd_get (hp ⟨46, .data⟩ (by simp) rfl _ rfl) rfl hg, hil1])
   ·intro a w' hb hp
    have gg := wd_get (hp ⟨39, .guard⟩ (by simp) rfl _ rfl) rfl rfl
    by_cases hg : (((!t0) || (!t1)) || (!t2)) = true
    ·exact wd_off rfl hg (by rw [hg] at gg; simp [Region.wanted, yielded, bool_at gg])
    rw [Bool.not_eq_true] at hg
    rw [hg] at gg
    exact wd_run rfl (by simp [Region.wanted, yielded, bool_at gg]) (by simp [execOp, go_sem, Act.eval, wd_get (hp ⟨47, .data⟩ (by simp) rfl _ rfl) rfl hg])
   ·intro a w' hb hp
    have gg := wd_get (hp ⟨39, .guard⟩ (by simp) rfl _ rfl) rfl rfl
    by_cases hg : (((!t0) || (!t1)) || (!t2)) = true
    ·exact wd_off rfl hg (by rw [hg] at gg; simp [Region.wanted, yielded, bool_at gg])
    rw [Bool.not_eq_true] at hg
    rw [hg] at gg
    have kc := (hb.ext.cell (World.block_lt_of_cell? _ _ r3)).trans r3
    exact wd_run rfl (by simp [Region.wanted, yielded, bool_at gg]) (by simp [execOp, go_sem, Act.eval, wd_get (hp ⟨48, .data⟩ (by simp) rfl _ rfl) rfl hg, kc])
   ·intro a w' hb hp
    have gg := wd_get (hp ⟨39, .guard⟩ (by simp) rfl _ rfl) rfl rfl
    by_cases hg : (((!t0) || (!t1)) || (!t2)) = true
    ·exact wd_off rfl hg (by rw [hg] at gg; simp [Region.wanted, yielded, bool_at gg])
    rw [Bool.not_eq_true] at hg
    rw [hg] at gg
    refine step_call (f := 45) (args := #[.slice A5 bx.length c5, .slice B5 yb.length d5]) (by simp [Region.wanted, yielded, bool_at gg]) (by simp [go_sem, wd_get (hp ⟨44, .data⟩ (by simp) rfl _ rfl) rfl hg, wd_get (hp ⟨49, .data⟩ (by simp) rfl _ rfl) rfl hg]) ?_
    refine (C3.out w' hb.ext).mono ?_
    rintro e w5 ⟨rfl, hb5⟩
    exact ⟨_, rfl, hb5, wd_mk rfl fun _ => by rw [T3.out]⟩
   ·intro a w' hb hp
    have gg := wd_get (hp ⟨39, .guard⟩ (by simp) rfl _ rfl) rfl rfl
    by_cases hg : (((!t0) || (!t1)) || (!t2)) = true
    ·exact wd_off rfl hg (by rw [hg] at gg; simp [Region.wanted, yielded, bool_at gg])
    rw [Bool.not_eq_true] at hg
    rw [hg] at gg
    exact wd_run rfl (by simp [Region.wanted, yielded, bool_at gg]) (by simp [execOp, go_sem, Act.eval, wd_get (hp ⟨50, .data⟩ (by simp) rfl _ rfl) rfl hg])
   ·intro a w' hb hp
    have gg := wd_get (hp ⟨39, .data⟩ (by simp) rfl _ rfl) rfl rfl
    by_cases hg : (((!t0) || (!t1)) || (!t2)) = true
    ·rw [hg] at gg
     exact wd_run2 rfl rfl (v := .bool true) (by simp [execOp, go_sem, Act.eval, gg]) (by rw [hg]; rfl)
    rw [Bool.not_eq_true] at hg
    rw [hg] at gg
    exact wd_run2 (v := .bool (!t3)) rfl rfl (by simp [execOp, go_sem, Act.eval, gg, wd_get (hp ⟨51, .data⟩ (by simp) rfl _ rfl) rfl hg]) (by rw [hg]; rfl)
  ·intro vs w2 hext hall
   have HEXT := Lib.hid hext
   have e52 : vs 52 = .bool ((((!t0) || (!t1)) || (!t2)) || (!t3)) := hall 52 (by decide) rfl
   clear hext hall
   by_cases hp : (Pr.mk nx rx mx bx) = ⟨ny, ry, my, yb⟩
   ·have HF := Lib.hid (show l.take (i + 1) = m.take (i + 1) by rw [List.take_add_one, List.take_add_one, HQ.out, HX.out, HY.out, hp])
    rw [HALL.out.2 hp] at e52
    simp only [putAll, Act.put, List.setIfInBounds_toArray, List.set_cons_zero, List.set_cons_succ, Nat.zero_add, Nat.reduceAdd, e52]
    clear e52 hp
    go_wp2_with fail
    go_roundg (gk - 1)
    case rel => exact ⟨i + 1, by simp, by omega, by omega, HF.out, HR.out.trans (HEXT.out.mono HR.out.size)⟩
    case measure => omega
   ·have HF := Lib.hid (HNE.out hp)
    have hq := mt HALL.out.1 hp
    rw [Bool.not_eq_false] at hq
    rw [hq] at e52
    simp only [putAll, Act.put, List.setIfInBounds_toArray, List.set_cons_zero, List.set_cons_succ, Nat.zero_add, Nat.reduceAdd, e52]
    clear e52 hp hq
    go_wp2_with fail
    go_ret
    exact ⟨by rw [HF.out]; rfl, HR.out.trans (HEXT.out.mono HR.out.size)⟩
end
end Go.Proofs.YtekpefcggikcbaaGreatDoor
