/- Layer 10: the contract of the reference's EqualMessages. -/
import Derived.Test.YtekpefcggikcbaaGreatDoorMSyCt
import Derived.Test.YtekpefcggikcbaaGreatDoorMRegE
namespace Go.Proofs.YtekpefcggikcbaaGreatDoor
open Go.RowKit

def EmRel {α : Type} (W0 : World) (l m : List α) (gk : Nat) (v : Value) (wr : World) : Prop :=
 ∃ i : Nat, v = .int .i64 (i : Int) ∧ i ≤ l.length ∧ l.length ≤ gk + i ∧ Hid (l.take i = m.take i) ∧ Hid (Below W0.heap.size W0 wr)
section
variable {w w' : World} {S T : Nat → Prop}
set_option maxRecDepth 20000 in
set_option maxHeartbeats 16000000 in
theorem eqMsgs_any (l m : List Ms) (v u : Value) (L : Lir w S v (.s 3 (l.flatMap dM))) (M : Lir w T u (.s 3 (m.flatMap dM))) (hn : l.length ≤ 1000000000) (hg : ∀ x ∈ l, x.fs.length ≤ 1000000000 ∧ x.wh.length ≤ 1000000000) :
  Calls Tryz.prog 44 #[v, u] w (Tells w (.bool (decide (l = m)))) := by
 obtain ⟨A, n, c, rfl, hm⟩ := L.slc
 rw [flat_len ms_len] at hm
 obtain rfl : n = l.length := by omega
 obtain ⟨A2, n, c2, rfl, hm2⟩ := M.slc
 rw [flat_len ms_len] at hm2
 obtain rfl : n = m.length := by omega
 have LL := Lib.hid L
 have MM := Lib.hid M
 have HG := Lib.hid hg
 clear L M hm hm2 hg
 by_cases hlen : l.length = m.length
 rotate_left
 ·have HF := Lib.hid (show decide (l = m) = false by rw [decide_eq_false_iff_not]; intro e; exact hlen (by rw [e]))
  have e1 : ((l.length : Int) == (m.length : Int)) = false := by rw [beq_eq_false_iff_ne]; omega
  clear hlen hn
  go_enter Tryz.func44, Tryz.ntmps44
  go_wp2_with fail
  go_ret
  exact ⟨by rw [HF.out]; rfl, Below.refl _ _⟩
 rw [← hlen]
 have HLN := Lib.hid hlen
 clear hlen
 go_enter Tryz.func44, Tryz.ntmps44
 go_wp2_with fail
 go_loopg [5, 6, 7] l.length (fun gk v5 _ _ wr => EmRel w l m gk v5 wr)
 case atStart => exact ⟨0, rfl, by omega, by omega, by unfold Hid; simp, Below.refl _ _⟩
 case round =>
  obtain ⟨i, rfl, hil, hgk, HQ, HR⟩ := hrel
  by_cases hie : i = l.length
  ·have HF := Lib.hid (show decide (l = m) = true by
    rw [decide_eq_true_eq]
    have := HQ.out
    rw [hie, List.take_length, HLN.out, List.take_length] at this
    exact this)
   subst hie
   go_wp2_with fail
   go_ret
   exact ⟨by rw [HF.out]; rfl, HR.out⟩
  have hlt : i < l.length := by omega
  obtain ⟨x, hx⟩ : ∃ x, l[i]? = some x := ⟨l[i], List.getElem?_eq_getElem hlt⟩
  obtain ⟨y, hy⟩ : ∃ y, m[i]? = some y := ⟨m[i]'(by rw [← HLN.out]; exact hlt), List.getElem?_eq_getElem (by rw [← HLN.out]; exact hlt)⟩
  obtain ⟨bb, o, n', c', he, -, -, -, -, hcell⟩ := (LL.out.belowT HR.out).cell (by intro e0; have := congrArg List.length e0; rw [flat_len ms_len, List.length_nil] at this; omega)
  obtain ⟨bb2, o2, n2', c2', he2, -, -, -, -, hcell2⟩ := (MM.out.belowT HR.out).cell (by intro e0; have := congrArg List.length e0; rw [flat_len ms_len, List.length_nil] at this; have := HLN.out; omega)
  simp only [Value.slice.injEq] at he he2
  obtain ⟨rfl, -, rfl⟩ := he
  obtain ⟨rfl, -, rfl⟩ := he2
  obtain ⟨A1, c1, A3, c3, u0, u1, u2, LF, LW⟩ := rms_cells hcell hx
  obtain ⟨B1, d1, B3, d3, p0, p1, p2, MF, MW⟩ := rms_cells hcell2 hy
  obtain ⟨hgf, hgw⟩ := HG.out x (List.mem_of_getElem? hx)
  obtain ⟨nx, fx, wx⟩ := x
  obtain ⟨ny, fy, wy⟩ := y
  simp only at u0 u1 u2 p0 p1 p2 LF LW MF MW hgf hgw
  have HX := Lib.hid hx
  have HY := Lib.hid hy
  have HLF := Lib.hid LF
  have HLW := Lib.hid LW
  have HMF := Lib.hid MF
  have HMW := Lib.hid MW
  have HNE := Lib.hid (show (⟨nx, fx, wx⟩ : Ms) ≠ ⟨ny, fy, wy⟩ → decide (l = m) = false by
   intro hne
   rw [decide_eq_false_iff_not]
   intro e
   have h1 := hx
   rw [e, hy] at h1
   exact hne (Option.some.inj h1).symm)
  clear hcell hcell2 hx hy LF LW MF MW
  obtain ⟨t0, h0⟩ : ∃ b, ((ofL nx).toList == (ofL ny).toList) = b := ⟨_, rfl⟩
  obtain ⟨t1, h1⟩ : ∃ b, ((fx.length : Int) == (fy.length : Int)) = b := ⟨_, rfl⟩
  obtain ⟨t2, h2⟩ : ∃ b, ((wx.length : Int) == (wy.length : Int)) = b := ⟨_, rfl⟩
  have HALL := Lib.hid (show (((!t0) || (!t1)) || (!t2)) = false ↔ nx = ny ∧ fx.length = fy.length ∧ wx.length = wy.length by
   rw [← h0, ← h1, ← h2]
   simp only [Bool.or_eq_false_iff, Bool.not_eq_false', beq_iff_eq, ofL_toList, and_assoc, Int.ofNat_inj])
  have T0 := Lib.hid h0
  have T1 := Lib.hid h1
  have T2 := Lib.hid h2
  have hil1 : (i : Int) < (l.length : Int) := by omega
  clear h0 h1 h2
  go_wp2_with fail
  refine region_phi (n := 114) (Wd [(false, .slice (some ⟨bb, o, none⟩) l.length c),
    (false, .int .i64 (i : Int)),
    (false, .pointer (some ⟨bb, o + i * 3, none⟩)),
    (false, .pointer (some ⟨bb, o + i * 3, none⟩)),
    (false, .string (ofL nx)),
    (false, .slice (some ⟨bb2, o2, none⟩) l.length c2),
    (false, .int .i64 (i : Int)),
    (false, .pointer (some ⟨bb2, o2 + i * 3, none⟩)),
    (false, .pointer (some ⟨bb2, o2 + i * 3, none⟩)),
    (false, .string (ofL ny)),
    (false, .bool (!t0)),
    (false, .bool (!t0)),
    ((!t0), .slice (some ⟨bb, o, none⟩) l.length c),
    ((!t0), .int .i64 (i : Int)),
    ((!t0), .pointer (some ⟨bb, o + i * 3, none⟩)),
    ((!t0), .pointer (some ⟨bb, o + i * 3 + 1, none⟩)),
    ((!t0), .slice A1 fx.length c1),
    ((!t0), .int .i64 (fx.length : Int)),
    ((!t0), .slice (some ⟨bb2, o2, none⟩) l.length c2),
    ((!t0), .int .i64 (i : Int)),
    ((!t0), .pointer (some ⟨bb2, o2 + i * 3, none⟩)),
    ((!t0), .pointer (some ⟨bb2, o2 + i * 3 + 1, none⟩)),
    ((!t0), .slice B1 fy.length d1),
    ((!t0), .int .i64 (fy.length : Int)),
    ((!t0), .bool (!t1)),
    (false, .bool ((!t0) || (!t1))),
    (false, .bool ((!t0) || (!t1))),
    (((!t0) || (!t1)), .slice (some ⟨bb, o, none⟩) l.length c),
    (((!t0) || (!t1)), .int .i64 (i : Int)),
    (((!t0) || (!t1)), .pointer (some ⟨bb, o + i * 3, none⟩)),
    (((!t0) || (!t1)), .pointer (some ⟨bb, o + i * 3 + 2, none⟩)),
    (((!t0) || (!t1)), .slice A3 wx.length c3),
    (((!t0) || (!t1)), .int .i64 (wx.length : Int)),
    (((!t0) || (!t1)), .slice (some ⟨bb2, o2, none⟩) l.length c2),
    (((!t0) || (!t1)), .int .i64 (i : Int)),
    (((!t0) || (!t1)), .pointer (some ⟨bb2, o2 + i * 3, none⟩)),
    (((!t0) || (!t1)), .pointer (some ⟨bb2, o2 + i * 3 + 2, none⟩)),
    (((!t0) || (!t1)), .slice B3 wy.length d3),
    (((!t0) || (!t1)), .int .i64 (wy.length : Int)),
    (((!t0) || (!t1)), .bool (!t2)),
    (false, .bool (((!t0) || (!t1)) || (!t2)))]) (by kernel_rfl) (by kernel_rfl) rfl (fun _ _ _ _ h _ => h) (allOps_spec ?_) ?_
  ·refine ⟨?_, ?_, ?_, ?_, ?_, ?_, ?_, ?_, ?_, ?_, ?_, ?_, ?_, ?_, ?_, ?_, ?_, ?_, ?_, ?_, ?_, ?_, ?_, ?_, ?_, ?_, ?_, ?_, ?_, ?_, ?_, ?_, ?_, ?_, ?_, ?_, ?_, ?_, ?_, ?_, ?_, trivial⟩
   ·intro a w' hb hp
    have b0 : a.tmps[0]?.getD undef = .slice (some ⟨bb, o, none⟩) l.length c := hb.at 0 (by kernel_rfl)
    exact wd_run rfl rfl (by simp [execOp, go_sem, Act.eval, b0])
   ·intro a w' hb hp
    have b5 : a.tmps[5]?.getD undef = .int .i64 (i : Int) := hb.at 5 (by kernel_rfl)
    exact wd_run rfl rfl (by simp [execOp, go_sem, Act.eval, b5])
   ·exact fun a w' hb hp => wd_run rfl rfl (by simp [execOp, go_sem, Act.eval, wd_get (hp ⟨0, .data⟩ (by simp) rfl _ rfl) rfl rfl, wd_get (hp ⟨1, .data⟩ (by simp) rfl _ rfl) rfl rfl, hil1])
   ·exact fun a w' hb hp => wd_run rfl rfl (by simp [execOp, go_sem, Act.eval, wd_get (hp ⟨2, .data⟩ (by simp) rfl _ rfl) rfl rfl])
   ·intro a w' hb hp
    have kc := (hb.ext.cell (World.block_lt_of_cell? _ _ u0)).trans u0
    exact wd_run rfl rfl (by simp [execOp, go_sem, Act.eval, wd_get (hp ⟨3, .data⟩ (by simp) rfl _ rfl) rfl rfl, kc])
   ·intro a w' hb hp
    have b1 : a.tmps[1]?.getD undef = .slice (some ⟨bb2, o2, none⟩) l.length c2 := hb.at 1 (by kernel_rfl)
    exact wd_run rfl rfl (by simp [execOp, go_sem, Act.eval, b1])
   ·intro a w' hb hp
    have b5 : a.tmps[5]?.getD undef = .int .i64 (i : Int) := hb.at 5 (by kernel_rfl)
    exact wd_run rfl rfl (by simp [execOp, go_sem, Act.eval, b5])
   ·exact fun a w' hb hp => wd_run rfl rfl (by simp [execOp, go_sem, Act.eval, wd_get (hp ⟨5, .data⟩ (by simp) rfl _ rfl) rfl rfl, wd_get (hp ⟨6, .data⟩ (by simp) rfl _ rfl) rfl rfl, hil1])
   ·exact fun a w' hb hp => wd_run rfl rfl (by simp [execOp, go_sem, Act.eval, wd_get (hp ⟨7, .data⟩ (by simp) rfl _ rfl) rfl rfl])
   ·intro a w' hb hp
    have kc := (hb.ext.cell (World.block_lt_of_cell? _ _ p0)).trans p0
    exact wd_run rfl rfl (by simp [execOp, go_sem, Act.eval, wd_get (hp ⟨8, .data⟩ (by simp) rfl _ rfl) rfl rfl, kc])
   ·intro a w' hb hp
    have h23 := wd_get (hp ⟨4, .data⟩ (by simp) rfl _ rfl) rfl rfl
    have h28 := wd_get (hp ⟨9, .data⟩ (by simp) rfl _ rfl) rfl rfl
    have tt := T0.out
    exact wd_run rfl rfl (by simp [execOp, go_sem, Act.eval, h23, h28, tt])
   ·exact fun a w' hb hp => wd_run rfl rfl (by simp [execOp, go_sem, Act.eval, wd_get (hp ⟨10, .data⟩ (by simp) rfl _ rfl) rfl rfl])
   ·intro a w' hb hp
    have gg := wd_get (hp ⟨11, .guard⟩ (by simp) rfl _ rfl) rfl rfl
    by_cases hg : (!t0) = true
    ·exact wd_off rfl hg (by rw [hg] at gg; simp [Region.wanted, yielded, bool_at gg])
    rw [Bool.not_eq_true] at hg
    rw [hg] at gg
    have b0 : a.tmps[0]?.getD undef = .slice (some ⟨bb, o, none⟩) l.length c := hb.at 0 (by kernel_rfl)
    exact wd_run rfl (by simp [Region.wanted, yielded, bool_at gg]) (by simp [execOp, go_sem, Act.eval, b0])
   ·intro a w' hb hp
    have gg := wd_get (hp ⟨11, .guard⟩ (by simp) rfl _ rfl) rfl rfl
    by_cases hg : (!t0) = true
    ·exact wd_off rfl hg (by rw [hg] at gg; simp [Region.wanted, yielded, bool_at gg])
    rw [Bool.not_eq_true] at hg
    rw [hg] at gg
    have b5 : a.tmps[5]?.getD undef = .int .i64 (i : Int) := hb.at 5 (by kernel_rfl)
    exact wd_run rfl (by simp [Region.wanted, yielded, bool_at gg]) (by simp [execOp, go_sem, Act.eval, b5])
   ·intro a w' hb hp
    have gg := wd_get (hp ⟨11, .guard⟩ (by simp) rfl _ rfl) rfl rfl
    by_cases hg : (!t0) = true
    ·exact wd_off rfl hg (by rw [hg] at gg; simp [Region.wanted, yielded, bool_at gg])
    rw [Bool.not_eq_true] at hg
    rw [hg] at gg
    exact wd_run rfl (by simp [Region.wanted, yielded, bool_at gg]) (by simp [execOp, go_sem, Act.eval, wd_get (hp ⟨12, .data⟩ (by simp) rfl _ rfl) rfl hg, wd_get (hp ⟨13, .data⟩ (by simp) rfl _ rfl) rfl hg, hil1])
   ·intro a w' hb hp
    have gg := wd_get (hp ⟨11, .guard⟩ (by simp) rfl _ rfl) rfl rfl
    by_cases hg : (!t0) = true
    ·exact wd_off rfl hg (by rw [hg] at gg; simp [Region.wanted, yielded, bool_at gg])
    rw [Bool.not_eq_true] at hg
    rw [hg] at gg
    exact wd_run rfl (by simp [Region.wanted, yielded, bool_at gg]) (by simp [execOp, go_sem, Act.eval, wd_get (hp ⟨14, .data⟩ (by simp) rfl _ rfl) rfl hg])
   ·intro a w' hb hp
    have gg := wd_get (hp ⟨11, .guard⟩ (by simp) rfl _ rfl) rfl rfl
    by_cases hg : (!t0) = true
    ·exact wd_off rfl hg (by rw [hg] at gg; simp [Region.wanted, yielded, bool_at gg])
    rw [Bool.not_eq_true] at hg
    rw [hg] at gg
    have kc := (hb.ext.cell (World.block_lt_of_cell? _ _ u1)).trans u1
    exact wd_run rfl (by simp [Region.wanted, yielded, bool_at gg]) (by simp [execOp, go_sem, Act.eval, wd_get (hp ⟨15, .data⟩ (by simp) rfl _ rfl) rfl hg, kc])
   ·intro a w' hb hp
    have gg := wd_get (hp ⟨11, .guard⟩ (by simp) rfl _ rfl) rfl rfl
    by_cases hg : (!t0) = true
    ·exact wd_off rfl hg (by rw [hg] at gg; simp [Region.wanted, yielded, bool_at gg])
    rw [Bool.not_eq_true] at hg
    rw [hg] at gg
    exact wd_run rfl (by simp [Region.wanted, yielded, bool_at gg]) (by simp [go_sem, Act.eval, wd_get (hp ⟨16, .data⟩ (by simp) rfl _ rfl) rfl hg])
   ·intro a w' hb hp
    have gg := wd_get (hp ⟨11, .guard⟩ (by simp) rfl _ rfl) rfl rfl
    by_cases hg : (!t0) = true
    ·exact wd_off rfl hg (by rw [hg] at gg; simp [Region.wanted, yielded, bool_at gg])
    rw [Bool.not_eq_true] at hg
    rw [hg] at gg
    have b1 : a.tmps[1]?.getD undef = .slice (some ⟨bb2, o2, none⟩) l.length c2 := hb.at 1 (by kernel_rfl)
    exact wd_run rfl (by simp [Region.wanted, yielded, bool_at gg]) (by simp [execOp, go_sem, Act.eval, b1])
   ·intro a w' hb hp
    have gg := wd_get (hp ⟨11, .guard⟩ (by simp) rfl _ rfl) rfl rfl
    by_cases hg : (!t0) = true
    ·exact wd_off rfl hg (by rw [hg] at gg; simp [Region.wanted, yielded, bool_at gg])
    rw [Bool.not_eq_true] at hg
    rw [hg] at gg
    have b5 : a.tmps[5]?.getD undef = .int .i64 (i : Int) := hb.at 5 (by kernel_rfl)
    exact wd_run rfl (by simp [Region.wanted, yielded, bool_at gg]) (by simp [execOp, go_sem, Act.eval, b5])
   ·intro a w' hb hp
    have gg := wd_get (hp ⟨11, .guard⟩ (by simp) rfl _ rfl) rfl rfl
    by_cases hg : (!t0) = true
    ·exact wd_off rfl hg (by rw [hg] at gg; simp [Region.wanted, yielded, bool_at gg])
    rw [Bool.not_eq_true] at hg
    rw [hg] at gg
    exact wd_run rfl (by simp [Region.wanted, yielded, bool_at gg]) (by simp [execOp, go_sem, Act.eval, wd_get (hp ⟨18, .data⟩ (by simp) rfl _ rfl) rfl hg, wd_get (hp ⟨19, .data⟩ (by simp) rfl _ rfl) rfl hg, hil1])
   ·intro a w' hb hp
    have gg := wd_get (hp ⟨11, .guard⟩ (by simp) rfl _ rfl) rfl rfl
    by_cases hg : (!t0) = true
    ·exact wd_off rfl hg (by rw [hg] at gg; simp [Region.wanted, yielded, bool_at gg])
    rw [Bool.not_eq_true] at hg
    rw [hg] at gg
    exact wd_run rfl (by simp [Region.wanted, yielded, bool_at gg]) (by simp [execOp, go_sem, Act.eval, wd_get (hp ⟨20, .data⟩ (by simp) rfl _ rfl) rfl hg])
   ·intro a w' hb hp
    have gg := wd_get (hp ⟨11, .guard⟩ (by simp) rfl _ rfl) rfl rfl
    by_cases hg : (!t0) = true
    ·exact wd_off rfl hg (by rw [hg] at gg; simp [Region.wanted, yielded, bool_at gg])
    rw [Bool.not_eq_true] at hg
    rw [hg] at gg
    have kc := (hb.ext.cell (World.block_lt_of_cell? _ _ p1)).trans p1
    exact wd_run rfl (by simp [Region.wanted, yielded, bool_at gg]) (by simp [execOp, go_sem, Act.eval, wd_get (hp ⟨21, .data⟩ (by simp) rfl _ rfl) rfl hg, kc])
   ·intro a w' hb hp
    have gg := wd_get (hp ⟨11, .guard⟩ (by simp) rfl _ rfl) rfl rfl
    by_cases hg : (!t0) = true
    ·exact wd_off rfl hg (by rw [hg] at gg; simp [Region.wanted, yielded, bool_at gg])
    rw [Bool.not_eq_true] at hg
    rw [hg] at gg
    exact wd_run rfl (by simp [Region.wanted, yielded, bool_at gg]) (by simp [go_sem, Act.eval, wd_get (hp ⟨22, .data⟩ (by simp) rfl _ rfl) rfl hg])
   ·intro a w' hb hp
    have gg := wd_get (hp ⟨11, .guard⟩ (by simp) rfl _ rfl) rfl rfl
    by_cases hg : (!t0) = true
    ·exact wd_off rfl hg (by rw [hg] at gg; simp [Region.wanted, yielded, bool_at gg])
    rw [Bool.not_eq_true] at hg
    rw [hg] at gg
    have h36 := wd_get (hp ⟨17, .data⟩ (by simp) rfl _ rfl) rfl hg
    have h42 := wd_get (hp ⟨23, .data⟩ (by simp) rfl _ rfl) rfl hg
    have tt : ((fx.length : Int) != (fy.length : Int)) = !t1 := by rw [bne, T1.out]
    exact wd_run rfl (by simp [Region.wanted, yielded, bool_at gg]) (by simp [execOp, go_sem, Act.eval, h36, h42, tt])
   ·intro a w' hb hp
    have gg := wd_get (hp ⟨11, .data⟩ (by simp) rfl _ rfl) rfl rfl
    by_cases hg : (!t0) = true
    ·rw [hg] at gg
     exact wd_run2 rfl rfl (v := .bool true) (by simp [execOp, go_sem, Act.eval, gg]) (by rw [hg]; rfl)
    rw [Bool.not_eq_true] at hg
    rw [hg] at gg
    exact wd_run2 (v := .bool (!t1)) rfl rfl (by simp [execOp, go_sem, Act.eval, gg, wd_get (hp ⟨24, .data⟩ (by simp) rfl _ rfl) rfl hg]) (by rw [hg]; rfl)
   ·exact fun a w' hb hp => wd_run rfl rfl (by simp [execOp, go_sem, Act.eval, wd_get (hp ⟨25, .data⟩ (by simp) rfl _ rfl) rfl rfl])
   ·intro a w' hb hp
    have gg := wd_get (hp ⟨26, .guard⟩ (by simp) rfl _ rfl) rfl rfl
    by_cases hg : ((!t0) || (!t1)) = true
    ·exact wd_off rfl hg (by rw [hg] at gg; simp [Region.wanted, yielded, bool_at gg])
    rw [Bool.not_eq_true] at hg
    rw [hg] at gg
    have b0 : a.tmps[0]?.getD undef = .slice (some ⟨bb, o, none⟩) l.length c := hb.at 0 (by kernel_rfl)
    exact wd_run rfl (by simp [Region.wanted, yielded, bool_at gg]) (by simp [execOp, go_sem, Act.eval, b0])
   ·intro a w' hb hp
    have gg := wd_get (hp ⟨26, .guard⟩ (by simp) rfl _ rfl) rfl rfl
    by_cases hg : ((!t0) || (!t1)) = true
    ·exact wd_off rfl hg (by rw [hg] at gg; simp [Region.wanted, yielded, bool_at gg])
    rw [Bool.not_eq_true] at hg
    rw [hg] at gg
    have b5 : a.tmps[5]?.getD undef = .int .i64 (i : Int) := hb.at 5 (by kernel_rfl)
    exact wd_run rfl (by simp [Region.wanted, yielded, bool_at gg]) (by simp [execOp, go_sem, Act.eval, b5])
   ·intro a w' hb hp
    have gg := wd_get (hp ⟨26, .guard⟩ (by simp) rfl _ rfl) rfl rfl
    by_cases hg : ((!t0) || (!t1)) = true
    ·exact wd_off rfl hg (by rw [hg] at gg; simp [Region.wanted, yielded, bool_at gg])
    rw [Bool.not_eq_true] at hg
    rw [hg] at gg
    exact wd_run rfl (by simp [Region.wanted, yielded, bool_at gg]) (by simp [execOp, go_sem, Act.eval, wd_get (hp ⟨27, .data⟩ (by simp) rfl _ rfl) rfl hg, wd_get (hp ⟨28, .data⟩ (by simp) rfl _ rfl) rfl hg, hil1])
   ·intro a w' hb hp
    have gg := wd_get (hp ⟨26, .guard⟩ (by simp) rfl _ rfl) rfl rfl
    by_cases hg : ((!t0) || (!t1)) = true
    ·exact wd_off rfl hg (by rw [hg] at gg; simp [Region.wanted, yielded, bool_at gg])
    rw [Bool.not_eq_true] at hg
    rw [hg] at gg
    exact wd_run rfl (by simp [Region.wanted, yielded, bool_at gg]) (by simp [execOp, go_sem, Act.eval, wd_get (hp ⟨29, .data⟩ (by simp) rfl _ rfl) rfl hg])
   ·intro a w' hb hp
    have gg := wd_get (hp ⟨26, .guard⟩ (by simp) rfl _ rfl) rfl rfl
    by_cases hg : ((!t0) || (!t1)) = true
    ·exact wd_off rfl hg (by rw [hg] at gg; simp [Region.wanted, yielded, bool_at gg])
    rw [Bool.not_eq_true] at hg
    rw [hg] at gg
    have kc := (hb.ext.cell (World.block_lt_of_cell? _ _ u2)).trans u2
    exact wd_run rfl (by simp [Region.wanted, yielded, bool_at gg]) (by simp [execOp, go_sem, Act.eval, wd_get (hp ⟨30, .data⟩ (by simp) rfl _ rfl) rfl hg, kc])
   ·intro a w' hb hp
    have gg := wd_get (hp ⟨26, .guard⟩ (by simp) rfl _ rfl) rfl rfl
    by_cases hg : ((!t0) || (!t1)) = true
    ·exact wd_off rfl hg (by rw [hg] at gg; simp [Region.wanted, yielded, bool_at gg])
    rw [Bool.not_eq_true] at hg
    rw [hg] at gg
    exact wd_run rfl (by simp [Region.wanted, yielded, bool_at gg]) (by simp [go_sem, Act.eval, wd_get (hp ⟨31, .data⟩ (by simp) rfl _ rfl) rfl hg])
   ·intro a w' hb hp
    have gg := wd_get (hp ⟨26, .guard⟩ (by simp) rfl _ rfl) rfl rfl
    by_cases hg : ((!t0) || (!t1)) = true
    ·exact wd_off rfl hg (by rw [hg] at gg; simp [Region.wanted, yielded, bool_at gg])
    rw [Bool.not_eq_true] at hg
    rw [hg] at gg
    have b1 : a.tmps[1]?.getD undef = .slice (some ⟨bb2, o2, none⟩) l.length c2 := hb.at 1 (by kernel_rfl)
    exact wd_run rfl (by simp [Region.wanted, yielded, bool_at gg]) (by simp [execOp, go_sem, Act.eval, b1])
   ·intro a w' hb hp
    have gg := wd_get (hp ⟨26, .guard⟩ (by simp) rfl _ rfl) rfl rfl
    by_cases hg : ((!t0) || (!t1)) = true
    ·exact wd_off rfl hg (by rw [hg] at gg; simp [Region.wanted, yielded, bool_at gg])
    rw [Bool.not_eq_true] at hg
    rw [hg] at gg
    have b5 : a.tmps[5]?.getD undef = .int .i64 (i : Int) := hb.at 5 (by kernel_rfl)
    exact wd_run rfl (by simp [Region.wanted, yielded, bool_at gg]) (by simp [execOp, go_sem, Act.eval, b5])
   ·intro a w' hb hp
    have gg := wd_get (hp ⟨26, .guard⟩ (by simp) rfl _ rfl) rfl rfl
    by_cases hg : ((!t0) || (!t1)) = true
    ·exact wd_off rfl hg (by rw [hg] at gg; simp [Region.wanted, yielded, bool_at gg])
    rw [Bool.not_eq_true] at hg
    rw [hg] at gg
    exact wd_run rfl (by simp [Region.wanted, yielded, bool_at gg]) (by simp [execOp, go_sem, Act.eval, wd_get (hp ⟨33, .data⟩ (by simp) rfl _ rfl) rfl hg, wd_get (hp ⟨34, .data⟩ (by simp) rfl _ rfl) rfl hg, hil1])
   ·intro a w' hb hp
    have gg := wd_get (hp ⟨26, .guard⟩ (by simp) rfl _ rfl) rfl rfl
    by_cases hg : ((!t0) || (!t1)) = true
    ·exact wd_off rfl hg (by rw [hg] at gg; simp [Region.wanted, yielded, bool_at gg])
    rw [Bool.not_eq_true] at hg
    rw [hg] at gg
    exact wd_run rfl (by simp [Region.wanted, yielded, bool_at gg]) (by simp [execOp, go_sem, Act.eval, wd_get (hp ⟨35, .data⟩ (by simp) rfl _ rfl) rfl hg])
   ·intro a w' hb hp
    have gg := wd_get (hp ⟨26, .guard⟩ (by simp) rfl _ rfl) rfl rfl
    by_cases hg : ((!t0) || (!t1)) = true
    ·exact wd_off rfl hg (by rw [hg] at gg; simp [Region.wanted, yielded, bool_at gg])
    rw [Bool.not_eq_true] at hg
    rw [hg] at gg
    have kc := (hb.ext.cell (World.block_lt_of_cell? _ _ p2)).trans p2
    exact wd_run rfl (by simp [Region.wanted, yielded, bool_at gg]) (by simp [execOp, go_sem, Act.eval, wd_get (hp ⟨36, .data⟩ (by simp) rfl _ rfl) rfl hg, kc])
   ·intro a w' hb hp
    have gg := wd_get (hp ⟨26, .guard⟩ (by simp) rfl _ rfl) rfl rfl
    by_cases hg : ((!t0) || (!t1)) = true
    ·exact wd_off rfl hg (by rw [hg] at gg; simp [Region.wanted, yielded, bool_at gg])
    rw [Bool.not_eq_true] at hg
    rw [hg] at gg
    exact wd_run rfl (by simp [Region.wanted, yielded, bool_at gg]) (by simp [go_sem, Act.eval, wd_get (hp ⟨37, .data⟩ (by simp) rfl _ rfl) rfl hg])
   ·intro a w' hb hp
    have gg := wd_get (hp ⟨26, .guard⟩ (by simp) rfl _ rfl) rfl rfl
    by_cases hg : ((!t0) || (!t1)) = true
    ·exact wd_off rfl hg (by rw [hg] at gg; simp [Region.wanted, yielded, bool_at gg])
    rw [Bool.not_eq_true] at hg
    rw [hg] at gg
    have h51 := wd_get (hp ⟨32, .data⟩ (by simp) rfl _ rfl) rfl hg
    have h57 := wd_get (hp ⟨38, .data⟩ (by simp) rfl _ rfl) rfl hg
    have tt : ((wx.length : Int) != (wy.length : Int)) = !t2 := by rw [bne, T2.out]
    exact wd_run rfl (by simp [Region.wanted, yielded, bool_at gg]) (by simp [execOp, go_sem, Act.eval, h51, h57, tt])
   ·intro a w' hb hp
    have gg := wd_get (hp ⟨26, .data⟩ (by simp) rfl _ rfl) rfl rfl
    by_cases hg : ((!t0) || (!t1)) = true
    ·rw [hg] at gg
     exact wd_run2 rfl rfl (v := .bool true) (by simp [execOp, go_sem, Act.eval, gg]) (by rw [hg]; rfl)
    rw [Bool.not_eq_true] at hg
    rw [hg] at gg
    exact wd_run2 (v := .bool (!t2)) rfl rfl (by simp [execOp, go_sem, Act.eval, gg, wd_get (hp ⟨39, .data⟩ (by simp) rfl _ rfl) rfl hg]) (by rw [hg]; rfl)
  ·intro vs w2 hext hall
   have HEXT := Lib.hid hext
   have e40 : vs 40 = .bool (((!t0) || (!t1)) || (!t2)) := hall 40 (by decide) rfl
   clear hext hall
   by_cases hp : nx = ny ∧ fx.length = fy.length ∧ wx.length = wy.length
   rotate_left
   ·have HF := Lib.hid (HNE.out fun e => hp (by injection e with e0 e1 e2; exact ⟨e0, by rw [e1], by rw [e2]⟩))
    have hq := mt HALL.out.1 hp
    rw [Bool.not_eq_false] at hq
    rw [hq] at e40
    simp only [putAll, Act.put, List.setIfInBounds_toArray, List.set_cons_zero, List.set_cons_succ, Nat.zero_add, Nat.reduceAdd, e40]
    clear e40 hp hq
    go_wp2_with fail
    go_ret
    exact ⟨by rw [HF.out]; rfl, HR.out.trans (HEXT.out.mono HR.out.size)⟩
   rw [HALL.out.2 hp] at e40
   simp only [putAll, Act.put, List.setIfInBounds_toArray, List.set_cons_zero, List.set_cons_succ, Nat.zero_add, Nat.reduceAdd, e40]
   obtain ⟨g0, g1, g2⟩ := hp
   subst g0
   rw [← g1] at p1
   rw [← g2] at p2
   have G1 := Lib.hid g1
   have G2 := Lib.hid g2
   replace u1 := (HEXT.out.cell (World.block_lt_of_cell? _ _ u1)).trans u1
   replace u2 := (HEXT.out.cell (World.block_lt_of_cell? _ _ u2)).trans u2
   replace p1 := (HEXT.out.cell (World.block_lt_of_cell? _ _ p1)).trans p1
   replace p2 := (HEXT.out.cell (World.block_lt_of_cell? _ _ p2)).trans p2
   have HR0 := Lib.hid (HR.out.trans (HEXT.out.mono HR.out.size))
   replace HLF := Lib.hid (HLF.out.belowT HEXT.out)
   replace HLW := Lib.hid (HLW.out.belowT HEXT.out)
   replace HMF := Lib.hid (HMF.out.belowT HEXT.out)
   replace HMW := Lib.hid (HMW.out.belowT HEXT.out)
   clear HR u0 p0 e40 g1 g2 T0 T1 T2 HALL HEXT
   have HR := HR0
   clear HR0
   generalize w2 = WR at *
   go_wp2_with fail
   generalize gk = gO at *
   go_loopg [6] fx.length (fun gk v6 wr => EmRel WR fx fy gk v6 wr)
   case atStart => exact ⟨0, rfl, by omega, by omega, by unfold Hid; simp, Below.refl _ WR⟩
   case round =>
    obtain ⟨j, rfl, hjl, hjg, HQ2, HR2⟩ := hrel
    have HR3 := Lib.hid (HR2.out)
    have a1 : wr.cell? ⟨bb, o + i * 3 + 1, none⟩ = some (.slice A1 fx.length c1) := (HR3.out.cell (World.block_lt_of_cell? _ _ u1)).trans u1
    have b1 : wr.cell? ⟨bb2, o2 + i * 3 + 1, none⟩ = some (.slice B1 fx.length d1) := (HR3.out.cell (World.block_lt_of_cell? _ _ p1)).trans p1
    by_cases hje : j = fx.length
    ·have HF2 := Lib.hid (show fx = fy by
      have := HQ2.out
      rw [hje, List.take_length, G1.out, List.take_length] at this
      exact this)
     subst hje
     have HF1 := HF2
     have HBW := HR3
     clear HF2 HQ2 HR2 HR3
     go_wp2_with fail
     clear a1 b1
     go_loopg [7] wx.length (fun gk v6 wr => EmRel WR wx wy gk v6 wr)
     case atStart => exact ⟨0, rfl, by omega, by omega, by unfold Hid; simp, HBW.out⟩
     case round =>
      obtain ⟨j, rfl, hjl, hjg, HQ2, HR2⟩ := hrel
      have HR3 := Lib.hid (HR2.out)
      have a1 : wr.cell? ⟨bb, o + i * 3 + 2, none⟩ = some (.slice A3 wx.length c3) := (HR3.out.cell (World.block_lt_of_cell? _ _ u2)).trans u2
      have b1 : wr.cell? ⟨bb2, o2 + i * 3 + 2, none⟩ = some (.slice B3 wx.length d3) := (HR3.out.cell (World.block_lt_of_cell? _ _ p2)).trans p2
      by_cases hje : j = wx.length
      ·have HF2 := Lib.hid (show wx = wy by
        have := HQ2.out
        rw [hje, List.take_length, G2.out, List.take_length] at this
        exact this)
       subst hje
       have HFIN := Lib.hid (show l.take (i + 1) = m.take (i + 1) by
        rw [List.take_add_one, List.take_add_one, HQ.out, HX.out, HY.out, HF1.out, HF2.out])
       go_wp2_with fail
       go_roundg (gO - 1)
       case rel => exact ⟨i + 1, by simp, by omega, by omega, HFIN.out, HR.out.trans (HR3.out.mono HR.out.size)⟩
       case measure => omega
      ·have hjlt : j < wx.length := by omega
       obtain ⟨x, hx⟩ : ∃ x, wx[j]? = some x := ⟨wx[j], List.getElem?_eq_getElem hjlt⟩
       obtain ⟨y, hy⟩ : ∃ y, wy[j]? = some y := ⟨wy[j]'(by rw [← G2.out]; exact hjlt), List.getElem?_eq_getElem (by rw [← G2.out]; exact hjlt)⟩
       obtain ⟨bb3, o3, n3, c4, he, -, -, -, hcell⟩ := sl_cell (HLW.out.belowT HR3.out) (by intro e0; have := congrArg List.length e0; rw [flat_len dA_len, List.length_nil] at this; omega)
       obtain ⟨bb4, o4, n4, c5, he2, -, -, -, hcell2⟩ := sl_cell (HMW.out.belowT HR3.out) (by intro e0; have := congrArg List.length e0; rw [flat_len dA_len, List.length_nil] at this; have := G2.out; omega)
       simp only [Value.slice.injEq] at he he2
       obtain ⟨rfl, -, rfl⟩ := he
       obtain ⟨rfl, -, rfl⟩ := he2
       obtain ⟨q0, q1, q2, q3, q4, q5, q6, q7, q8⟩ := am_cells hcell hx
       obtain ⟨r0, r1, r2, r3, r4, r5, r6, r7, r8⟩ := am_cells hcell2 hy
       obtain ⟨⟨a0, k1, k2, k3⟩, k4, ⟨k5, k6, k7, k8⟩⟩ := x
       obtain ⟨⟨b0, m1, m2, m3⟩, m4, ⟨m5, m6, m7, m8⟩⟩ := y
       have HX2 := Lib.hid hx
       have HY2 := Lib.hid hy
       clear hcell hcell2 hx hy
       obtain ⟨ne, hne⟩ : ∃ b, decide ((⟨⟨a0, k1, k2, k3⟩, k4, ⟨k5, k6, k7, k8⟩⟩ : Am) ≠ ⟨⟨b0, m1, m2, m3⟩, m4, ⟨m5, m6, m7, m8⟩⟩) = b := ⟨_, rfl⟩
       have HNEB := Lib.hid hne
       have hil1 : (i : Int) < (l.length : Int) := by omega
       have hjl1 : (j : Int) < (wx.length : Int) := by omega
       clear hne
       go_wp2_with fail
       refine region_phi (n := 114) (Wd [(false, .slice (some ⟨bb, o, none⟩) l.length c),
         (false, .int .i64 (i : Int)),
         (false, .pointer (some ⟨bb, o + i * 3, none⟩)),
         (false, .pointer (some ⟨bb, o + i * 3 + 2, none⟩)),
         (false, .slice (some ⟨bb3, o3, none⟩) wx.length c3),
         (false, .int .i64 (j : Int)),
         (false, .pointer (some ⟨bb3, o3 + j * 9, none⟩)),
         (false, .agg #[.int .i64 a0, .string (ofL k1), .string (ofL k2), .int .i64 k3, .string (ofL k4), .int .i64 k5, .string (ofL k6), .string (ofL k7), .int .i64 k8]),
         (false, .slice (some ⟨bb2, o2, none⟩) l.length c2),
         (false, .int .i64 (i : Int)),
         (false, .pointer (some ⟨bb2, o2 + i * 3, none⟩)),
         (false, .pointer (some ⟨bb2, o2 + i * 3 + 2, none⟩)),
         (false, .slice (some ⟨bb4, o4, none⟩) wx.length d3),
         (false, .int .i64 (j : Int)),
         (false, .pointer (some ⟨bb4, o4 + j * 9, none⟩)),
         (false, .agg #[.int .i64 b0, .string (ofL m1), .string (ofL m2), .int .i64 m3, .string (ofL m4), .int .i64 m5, .string (ofL m6), .string (ofL m7), .int .i64 m8]),
         (false, .bool ne)]) (by kernel_rfl) (by kernel_rfl) rfl (fun _ _ _ _ h _ => h) (allOps_spec ?_) ?_
       ·refine ⟨?_, ?_, ?_, ?_, ?_, ?_, ?_, ?_, ?_, ?_, ?_, ?_, ?_, ?_, ?_, ?_, ?_, trivial⟩
        ·intro a w' hb hp
         have b0 : a.tmps[0]?.getD undef = .slice (some ⟨bb, o, none⟩) l.length c := hb.at 0 (by kernel_rfl)
         exact wd_run rfl rfl (by simp [execOp, go_sem, Act.eval, b0])
        ·intro a w' hb hp
         have b5 : a.tmps[5]?.getD undef = .int .i64 (i : Int) := hb.at 5 (by kernel_rfl)
         exact wd_run rfl rfl (by simp [execOp, go_sem, Act.eval, b5])
        ·exact fun a w' hb hp => wd_run rfl rfl (by simp [execOp, go_sem, Act.eval, wd_get (hp ⟨0, .data⟩ (by simp) rfl _ rfl) rfl rfl, wd_get (hp ⟨1, .data⟩ (by simp) rfl _ rfl) rfl rfl, hil1])
        ·exact fun a w' hb hp => wd_run rfl rfl (by simp [execOp, go_sem, Act.eval, wd_get (hp ⟨2, .data⟩ (by simp) rfl _ rfl) rfl rfl])
        ·intro a w' hb hp
         have kc := (hb.ext.cell (World.block_lt_of_cell? _ _ a1)).trans a1
         exact wd_run rfl rfl (by simp [execOp, go_sem, Act.eval, wd_get (hp ⟨3, .data⟩ (by simp) rfl _ rfl) rfl rfl, kc])
        ·intro a w' hb hp
         have b7 : a.tmps[7]?.getD undef = .int .i64 (j : Int) := hb.at 7 (by kernel_rfl)
         exact wd_run rfl rfl (by simp [execOp, go_sem, Act.eval, b7])
        ·exact fun a w' hb hp => wd_run rfl rfl (by simp [execOp, go_sem, Act.eval, wd_get (hp ⟨4, .data⟩ (by simp) rfl _ rfl) rfl rfl, wd_get (hp ⟨5, .data⟩ (by simp) rfl _ rfl) rfl rfl, hjl1])
        ·intro a w' hb hp
         have kc0 := (hb.ext.cell (World.block_lt_of_cell? _ _ q0)).trans q0
         have kc1 := (hb.ext.cell (World.block_lt_of_cell? _ _ q1)).trans q1
         have kc2 := (hb.ext.cell (World.block_lt_of_cell? _ _ q2)).trans q2
         have kc3 := (hb.ext.cell (World.block_lt_of_cell? _ _ q3)).trans q3
         have kc4 := (hb.ext.cell (World.block_lt_of_cell? _ _ q4)).trans q4
         have kc5 := (hb.ext.cell (World.block_lt_of_cell? _ _ q5)).trans q5
         have kc6 := (hb.ext.cell (World.block_lt_of_cell? _ _ q6)).trans q6
         have kc7 := (hb.ext.cell (World.block_lt_of_cell? _ _ q7)).trans q7
         have kc8 := (hb.ext.cell (World.block_lt_of_cell? _ _ q8)).trans q8
         exact wd_run rfl rfl (by simp [execOp, go_sem, Act.eval, wd_get (hp ⟨6, .data⟩ (by simp) rfl _ rfl) rfl rfl, kc0, kc1, kc2, kc3, kc4, kc5, kc6, kc7, kc8])
        ·intro a w' hb hp
         have b1 : a.tmps[1]?.getD undef = .slice (some ⟨bb2, o2, none⟩) l.length c2 := hb.at 1 (by kernel_rfl)
         exact wd_run rfl rfl (by simp [execOp, go_sem, Act.eval, b1])
        ·intro a w' hb hp
         have b5 : a.tmps[5]?.getD undef = .int .i64 (i : Int) := hb.at 5 (by kernel_rfl)
         exact wd_run rfl rfl (by simp [execOp, go_sem, Act.eval, b5])
        ·exact fun a w' hb hp => wd_run rfl rfl (by simp [execOp, go_sem, Act.eval, wd_get (hp ⟨8, .data⟩ (by simp) rfl _ rfl) rfl rfl, wd_get (hp ⟨9, .data⟩ (by simp) rfl _ rfl) rfl rfl, hil1])
        ·exact fun a w' hb hp => wd_run rfl rfl (by simp [execOp, go_sem, Act.eval, wd_get (hp ⟨10, .data⟩ (by simp) rfl _ rfl) rfl rfl])
        ·intro a w' hb hp
         have kc := (hb.ext.cell (World.block_lt_of_cell? _ _ b1)).trans b1
         exact wd_run rfl rfl (by simp [execOp, go_sem, Act.eval, wd_get (hp ⟨11, .data⟩ (by simp) rfl _ rfl) rfl rfl, kc])
        ·intro a w' hb hp
         have b7 : a.tmps[7]?.getD undef = .int .i64 (j : Int) := hb.at 7 (by kernel_rfl)
         exact wd_run rfl rfl (by simp [execOp, go_sem, Act.eval, b7])
        ·exact fun a w' hb hp => wd_run rfl rfl (by simp [execOp, go_sem, Act.eval, wd_get (hp ⟨12, .data⟩ (by simp) rfl _ rfl) rfl rfl, wd_get (hp ⟨13, .data⟩ (by simp) rfl _ rfl) rfl rfl, hjl1])
        ·intro a w' hb hp
         have kc0 := (hb.ext.cell (World.block_lt_of_cell? _ _ r0)).trans r0
         have kc1 := (hb.ext.cell (World.block_lt_of_cell? _ _ r1)).trans r1
         have kc2 := (hb.ext.cell (World.block_lt_of_cell? _ _ r2)).trans r2
         have kc3 := (hb.ext.cell (World.block_lt_of_cell? _ _ r3)).trans r3
         have kc4 := (hb.ext.cell (World.block_lt_of_cell? _ _ r4)).trans r4
         have kc5 := (hb.ext.cell (World.block_lt_of_cell? _ _ r5)).trans r5
         have kc6 := (hb.ext.cell (World.block_lt_of_cell? _ _ r6)).trans r6
         have kc7 := (hb.ext.cell (World.block_lt_of_cell? _ _ r7)).trans r7
         have kc8 := (hb.ext.cell (World.block_lt_of_cell? _ _ r8)).trans r8
         exact wd_run rfl rfl (by simp [execOp, go_sem, Act.eval, wd_get (hp ⟨14, .data⟩ (by simp) rfl _ rfl) rfl rfl, kc0, kc1, kc2, kc3, kc4, kc5, kc6, kc7, kc8])
        ·intro a w' hb hp
         have h104 := wd_get (hp ⟨7, .data⟩ (by simp) rfl _ rfl) rfl rfl
         have h112 := wd_get (hp ⟨15, .data⟩ (by simp) rfl _ rfl) rfl rfl
         by_cases g0 : a0 = b0
         rotate_left
         ·have hv : ne = true := by rw [← HNEB.out, decide_eq_true_eq]; intro e; exact g0 (congrArg (fun x : Am => x.l.k) e)
          have n1 : (a0 == b0) = false := by rw [beq_eq_false_iff_ne]; exact g0
          clear g0 HNEB
          exact wd_run2 (v := .bool true) rfl rfl (by simp [execOp, go_sem, Act.eval, h104, h112, n1]) (by rw [hv])
         subst g0
         by_cases g1 : k1 = m1
         rotate_left
         ·have hv : ne = true := by rw [← HNEB.out, decide_eq_true_eq]; intro e; exact g1 (congrArg (fun x : Am => x.l.m) e)
          have n1 : ((ofL k1).toList == (ofL m1).toList) = false := by rw [ofL_toList, ofL_toList, beq_eq_false_iff_ne]; exact g1
          clear g1 HNEB
          exact wd_run2 (v := .bool true) rfl rfl (by simp [execOp, go_sem, Act.eval, h104, h112, n1]) (by rw [hv])
         subst g1
         by_cases g2 : k2 = m2
         rotate_left
         ·have hv : ne = true := by rw [← HNEB.out, decide_eq_true_eq]; intro e; exact g2 (congrArg (fun x : Am => x.l.f) e)
          have n1 : ((ofL k2).toList == (ofL m2).toList) = false := by rw [ofL_toList, ofL_toList, beq_eq_false_iff_ne]; exact g2
          clear g2 HNEB
          exact wd_run2 (v := .bool true) rfl rfl (by simp [execOp, go_sem, Act.eval, h104, h112, n1]) (by rw [hv])
         subst g2
         by_cases g3 : k3 = m3
         rotate_left
         ·have hv : ne = true := by rw [← HNEB.out, decide_eq_true_eq]; intro e; exact g3 (congrArg (fun x : Am => x.l.n) e)
          have n1 : (k3 == m3) = false := by rw [beq_eq_false_iff_ne]; exact g3
          clear g3 HNEB
          exact wd_run2 (v := .bool true) rfl rfl (by simp [execOp, go_sem, Act.eval, h104, h112, n1]) (by rw [hv])
         subst g3
         by_cases g4 : k4 = m4
         rotate_left
         ·have hv : ne = true := by rw [← HNEB.out, decide_eq_true_eq]; intro e; exact g4 (congrArg (fun x : Am => x.op) e)
          have n1 : ((ofL k4).toList == (ofL m4).toList) = false := by rw [ofL_toList, ofL_toList, beq_eq_false_iff_ne]; exact g4
          clear g4 HNEB
          exact wd_run2 (v := .bool true) rfl rfl (by simp [execOp, go_sem, Act.eval, h104, h112, n1]) (by rw [hv])
         subst g4
         by_cases g5 : k5 = m5
         rotate_left
         ·have hv : ne = true := by rw [← HNEB.out, decide_eq_true_eq]; intro e; exact g5 (congrArg (fun x : Am => x.r.k) e)
          have n1 : (k5 == m5) = false := by rw [beq_eq_false_iff_ne]; exact g5
          clear g5 HNEB
          exact wd_run2 (v := .bool true) rfl rfl (by simp [execOp, go_sem, Act.eval, h104, h112, n1]) (by rw [hv])
         subst g5
         by_cases g6 : k6 = m6
         rotate_left
         ·have hv : ne = true := by rw [← HNEB.out, decide_eq_true_eq]; intro e; exact g6 (congrArg (fun x : Am => x.r.m) e)
          have n1 : ((ofL k6).toList == (ofL m6).toList) = false := by rw [ofL_toList, ofL_toList, beq_eq_false_iff_ne]; exact g6
          clear g6 HNEB
          exact wd_run2 (v := .bool true) rfl rfl (by simp [execOp, go_sem, Act.eval, h104, h112, n1]) (by rw [hv])
         subst g6
         by_cases g7 : k7 = m7
         rotate_left
         ·have hv : ne = true := by rw [← HNEB.out, decide_eq_true_eq]; intro e; exact g7 (congrArg (fun x : Am => x.r.f) e)
          have n1 : ((ofL k7).toList == (ofL m7).toList) = false := by rw [ofL_toList, ofL_toList, beq_eq_false_iff_ne]; exact g7
          clear g7 HNEB
          exact wd_run2 (v := .bool true) rfl rfl (by simp [execOp, go_sem, Act.eval, h104, h112, n1]) (by rw [hv])
         subst g7
         by_cases g8 : k8 = m8
         rotate_left
         ·have hv : ne = true := by rw [← HNEB.out, decide_eq_true_eq]; intro e; exact g8 (congrArg (fun x : Am => x.r.n) e)
          have n1 : (k8 == m8) = false := by rw [beq_eq_false_iff_ne]; exact g8
          clear g8 HNEB
          exact wd_run2 (v := .bool true) rfl rfl (by simp [execOp, go_sem, Act.eval, h104, h112, n1]) (by rw [hv])
         subst g8
         have hv : ne = false := by rw [← HNEB.out]; simp
         exact wd_run2 (v := .bool false) rfl rfl (by simp [execOp, go_sem, Act.eval, h104, h112]) (by rw [hv])
       ·intro vs w2 hext hall
        have HEXT := Lib.hid hext
        have e16 : vs 16 = .bool ne := hall 16 (by decide) rfl
        clear hext hall
        simp only [putAll, Act.put, List.setIfInBounds_toArray, List.set_cons_zero, List.set_cons_succ, Nat.zero_add, Nat.reduceAdd, e16]
        clear e16
        cases ne with
        | true =>
         have HF := Lib.hid (HNE.out (by
          intro e
          injection e with e1 e2 e3
          have h1 := HX2.out
          rw [e3, HY2.out] at h1
          injection h1 with h1
          have h2 := HNEB.out
          rw [decide_eq_true_eq] at h2
          exact h2 h1.symm))
         go_wp2_with fail
         go_ret
         exact ⟨by rw [HF.out]; rfl, (HR.out.trans (HR3.out.mono HR.out.size)).trans (HEXT.out.mono (HR.out.trans (HR3.out.mono HR.out.size)).size)⟩
        | false =>
         have hxy := HNEB.out
         rw [decide_eq_false_iff_not, Classical.not_not] at hxy
         have HF := Lib.hid (show wx.take (j + 1) = wy.take (j + 1) by rw [List.take_add_one, List.take_add_one, HQ2.out, HX2.out, HY2.out, hxy])
         clear hxy
         go_wp2_with fail
         go_roundg (gk - 1)
         case rel => exact ⟨j + 1, by simp, by omega, by omega, HF.out, HR2.out.trans (HEXT.out.mono HR2.out.size)⟩
         case measure => omega
    ·have hjlt : j < fx.length := by omega
     obtain ⟨x, hx⟩ : ∃ x, fx[j]? = some x := ⟨fx[j], List.getElem?_eq_getElem hjlt⟩
     obtain ⟨y, hy⟩ : ∃ y, fy[j]? = some y := ⟨fy[j]'(by rw [← G1.out]; exact hjlt), List.getElem?_eq_getElem (by rw [← G1.out]; exact hjlt)⟩
     obtain ⟨bb3, o3, n3, c4, he, -, -, -, hcell⟩ := sl_cell (HLF.out.belowT HR3.out) (by intro e0; have := congrArg List.length e0; rw [flat_len dF_len, List.length_nil] at this; omega)
     obtain ⟨bb4, o4, n4, c5, he2, -, -, -, hcell2⟩ := sl_cell (HMF.out.belowT HR3.out) (by intro e0; have := congrArg List.length e0; rw [flat_len dF_len, List.length_nil] at this; have := G1.out; omega)
     simp only [Value.slice.injEq] at he he2
     obtain ⟨rfl, -, rfl⟩ := he
     obtain ⟨rfl, -, rfl⟩ := he2
     obtain ⟨q0, q1, q2, q3⟩ := fd_cells hcell hx
     obtain ⟨r0, r1, r2, r3⟩ := fd_cells hcell2 hy
     obtain ⟨a0, k1, k2, k3⟩ := x
     obtain ⟨b0, m1, m2, m3⟩ := y
     have HX2 := Lib.hid hx
     have HY2 := Lib.hid hy
     clear hcell hcell2 hx hy
     obtain ⟨ne, hne⟩ : ∃ b, decide ((⟨a0, k1, k2, k3⟩ : Fd) ≠ ⟨b0, m1, m2, m3⟩) = b := ⟨_, rfl⟩
     have HNEB := Lib.hid hne
     have hil1 : (i : Int) < (l.length : Int) := by omega
     have hjl1 : (j : Int) < (fx.length : Int) := by omega
     clear hne
     go_wp2_with fail
     refine region_phi (n := 114) (Wd [(false, .slice (some ⟨bb, o, none⟩) l.length c),
       (false, .int .i64 (i : Int)),
       (false, .pointer (some ⟨bb, o + i * 3, none⟩)),
       (false, .pointer (some ⟨bb, o + i * 3 + 1, none⟩)),
       (false, .slice (some ⟨bb3, o3, none⟩) fx.length c1),
       (false, .int .i64 (j : Int)),
       (false, .pointer (some ⟨bb3, o3 + j * 4, none⟩)),
       (false, .agg #[.string (ofL a0), .int .i64 k1, .int .i64 k2, .int .i64 k3]),
       (false, .slice (some ⟨bb2, o2, none⟩) l.length c2),
       (false, .int .i64 (i : Int)),
       (false, .pointer (some ⟨bb2, o2 + i * 3, none⟩)),
       (false, .pointer (some ⟨bb2, o2 + i * 3 + 1, none⟩)),
       (false, .slice (some ⟨bb4, o4, none⟩) fx.length d1),
       (false, .int .i64 (j : Int)),
       (false, .pointer (some ⟨bb4, o4 + j * 4, none⟩)),
       (false, .agg #[.string (ofL b0), .int .i64 m1, .int .i64 m2, .int .i64 m3]),
       (false, .bool ne)]) (by kernel_rfl) (by kernel_rfl) rfl (fun _ _ _ _ h _ => h) (allOps_spec ?_) ?_
     ·refine ⟨?_, ?_, ?_, ?_, ?_, ?_, ?_, ?_, ?_, ?_, ?_, ?_, ?_, ?_, ?_, ?_, ?_, trivial⟩
      ·intro a w' hb hp
       have b0 : a.tmps[0]?.getD undef = .slice (some ⟨bb, o, none⟩) l.length c := hb.at 0 (by kernel_rfl)
       exact wd_run rfl rfl (by simp [execOp, go_sem, Act.eval, b0])
      ·intro a w' hb hp
       have b5 : a.tmps[5]?.getD undef = .int .i64 (i : Int) := hb.at 5 (by kernel_rfl)
       exact wd_run rfl rfl (by simp [execOp, go_sem, Act.eval, b5])
      ·exact fun a w' hb hp => wd_run rfl rfl (by simp [execOp, go_sem, Act.eval, wd_get (hp ⟨0, .data⟩ (by simp) rfl _ rfl) rfl rfl, wd_get (hp ⟨1, .data⟩ (by simp) rfl _ rfl) rfl rfl, hil1])
      ·exact fun a w' hb hp => wd_run rfl rfl (by simp [execOp, go_sem, Act.eval, wd_get (hp ⟨2, .data⟩ (by simp) rfl _ rfl) rfl rfl])
      ·intro a w' hb hp
       have kc := (hb.ext.cell (World.block_lt_of_cell? _ _ a1)).trans a1
       exact wd_run rfl rfl (by simp [execOp, go_sem, Act.eval, wd_get (hp ⟨3, .data⟩ (by simp) rfl _ rfl) rfl rfl, kc])
      ·intro a w' hb hp
       have b6 : a.tmps[6]?.getD undef = .int .i64 (j : Int) := hb.at 6 (by kernel_rfl)
       exact wd_run rfl rfl (by simp [execOp, go_sem, Act.eval, b6])
      ·exact fun a w' hb hp => wd_run rfl rfl (by simp [execOp, go_sem, Act.eval, wd_get (hp ⟨4, .data⟩ (by simp) rfl _ rfl) rfl rfl, wd_get (hp ⟨5, .data⟩ (by simp) rfl _ rfl) rfl rfl, hjl1])
      ·intro a w' hb hp
       have kc0 := (hb.ext.cell (World.block_lt_of_cell? _ _ q0)).trans q0
       have kc1 := (hb.ext.cell (World.block_lt_of_cell? _ _ q1)).trans q1
       have kc2 := (hb.ext.cell (World.block_lt_of_cell? _ _ q2)).trans q2
       have kc3 := (hb.ext.cell (World.block_lt_of_cell? _ _ q3)).trans q3
       exact wd_run rfl rfl (by simp [execOp, go_sem, Act.eval, wd_get (hp ⟨6, .data⟩ (by simp) rfl _ rfl) rfl rfl, kc0, kc1, kc2, kc3])
      ·intro a w' hb hp
       have b1 : a.tmps[1]?.getD undef = .slice (some ⟨bb2, o2, none⟩) l.length c2 := hb.at 1 (by kernel_rfl)
       exact wd_run rfl rfl (by simp [execOp, go_sem, Act.eval, b1])
      ·intro a w' hb hp
       have b5 : a.tmps[5]?.getD undef = .int .i64 (i : Int) := hb.at 5 (by kernel_rfl)
       exact wd_run rfl rfl (by simp [execOp, go_sem, Act.eval, b5])
      ·exact fun a w' hb hp => wd_run rfl rfl (by simp [execOp, go_sem, Act.eval, wd_get (hp ⟨8, .data⟩ (by simp) rfl _ rfl) rfl rfl, wd_get (hp ⟨9, .data⟩ (by simp) rfl _ rfl) rfl rfl, hil1])
      ·exact fun a w' hb hp => wd_run rfl rfl (by simp [execOp, go_sem, Act.eval, wd_get (hp ⟨10, .data⟩ (by simp) rfl _ rfl) rfl rfl])
      ·intro a w' hb hp
       have kc := (hb.ext.cell (World.block_lt_of_cell? _ _ b1)).trans b1
       exact wd_run rfl rfl (by simp [execOp, go_sem, Act.eval, wd_get (hp ⟨11, .data⟩ (by simp) rfl _ rfl) rfl rfl, kc])
      ·intro a w' hb hp
       have b6 : a.tmps[6]?.getD undef = .int .i64 (j : Int) := hb.at 6 (by kernel_rfl)
       exact wd_run rfl rfl (by simp [execOp, go_sem, Act.eval, b6])
      ·exact fun a w' hb hp => wd_run rfl rfl (by simp [execOp, go_sem, Act.eval, wd_get (hp ⟨12, .data⟩ (by simp) rfl _ rfl) rfl rfl, wd_get (hp ⟨13, .data⟩ (by simp) rfl _ rfl) rfl rfl, hjl1])
      ·intro a w' hb hp
       have kc0 := (hb.ext.cell (World.block_lt_of_cell? _ _ r0)).trans r0
       have kc1 := (hb.ext.cell (World.block_lt_of_cell? _ _ r1)).trans r1
       have kc2 := (hb.ext.cell (World.block_lt_of_cell? _ _ r2)).trans r2
       have kc3 := (hb.ext.cell (World.block_lt_of_cell? _ _ r3)).trans r3
       exact wd_run rfl rfl (by simp [execOp, go_sem, Act.eval, wd_get (hp ⟨14, .data⟩ (by simp) rfl _ rfl) rfl rfl, kc0, kc1, kc2, kc3])
      ·intro a w' hb hp
       have h77 := wd_get (hp ⟨7, .data⟩ (by simp) rfl _ rfl) rfl rfl
       have h85 := wd_get (hp ⟨15, .data⟩ (by simp) rfl _ rfl) rfl rfl
       by_cases g0 : a0 = b0
       rotate_left
       ·have hv : ne = true := by rw [← HNEB.out, decide_eq_true_eq]; intro e; exact g0 (congrArg (fun x : Fd => x.nm) e)
        have n1 : ((ofL a0).toList == (ofL b0).toList) = false := by rw [ofL_toList, ofL_toList, beq_eq_false_iff_ne]; exact g0
        clear g0 HNEB
        exact wd_run2 (v := .bool true) rfl rfl (by simp [execOp, go_sem, Act.eval, h77, h85, n1]) (by rw [hv])
       subst g0
       by_cases g1 : k1 = m1
       rotate_left
       ·have hv : ne = true := by rw [← HNEB.out, decide_eq_true_eq]; intro e; exact g1 (congrArg (fun x : Fd => x.k) e)
        have n1 : (k1 == m1) = false := by rw [beq_eq_false_iff_ne]; exact g1
        clear g1 HNEB
        exact wd_run2 (v := .bool true) rfl rfl (by simp [execOp, go_sem, Act.eval, h77, h85, n1]) (by rw [hv])
       subst g1
       by_cases g2 : k2 = m2
       rotate_left
       ·have hv : ne = true := by rw [← HNEB.out, decide_eq_true_eq]; intro e; exact g2 (congrArg (fun x : Fd => x.lo) e)
        have n1 : (k2 == m2) = false := by rw [beq_eq_false_iff_ne]; exact g2
        clear g2 HNEB
        exact wd_run2 (v := .bool true) rfl rfl (by simp [execOp, go_sem, Act.eval, h77, h85, n1]) (by rw [hv])
       subst g2
       by_cases g3 : k3 = m3
       rotate_left
       ·have hv : ne = true := by rw [← HNEB.out, decide_eq_true_eq]; intro e; exact g3 (congrArg (fun x : Fd => x.hi) e)
        have n1 : (k3 == m3) = false := by rw [beq_eq_false_iff_ne]; exact g3
        clear g3 HNEB
        exact wd_run2 (v := .bool true) rfl rfl (by simp [execOp, go_sem, Act.eval, h77, h85, n1]) (by rw [hv])
       subst g3
       have hv : ne = false := by rw [← HNEB.out]; simp
       exact wd_run2 (v := .bool false) rfl rfl (by simp [execOp, go_sem, Act.eval, h77, h85]) (by rw [hv])
     ·intro vs w2 hext hall
      have HEXT := Lib.hid hext
      have e16 : vs 16 = .bool ne := hall 16 (by decide) rfl
      clear hext hall
      simp only [putAll, Act.put, List.setIfInBounds_toArray, List.set_cons_zero, List.set_cons_succ, Nat.zero_add, Nat.reduceAdd, e16]
      clear e16
      cases ne with
      | true =>
       have HF := Lib.hid (HNE.out (by
        intro e
        injection e with e1 e2 e3
        have h1 := HX2.out
        rw [e2, HY2.out] at h1
        injection h1 with h1
        have h2 := HNEB.out
        rw [decide_eq_true_eq] at h2
        exact h2 h1.symm))
       go_wp2_with fail
       go_ret
       exact ⟨by rw [HF.out]; rfl, (HR.out.trans (HR3.out.mono HR.out.size)).trans (HEXT.out.mono (HR.out.trans (HR3.out.mono HR.out.size)).size)⟩
      | false =>
       have hxy := HNEB.out
       rw [decide_eq_false_iff_not, Classical.not_not] at hxy
       have HF := Lib.hid (show fx.take (j + 1) = fy.take (j + 1) by rw [List.take_add_one, List.take_add_one, HQ2.out, HX2.out, HY2.out, hxy])
       clear hxy
       go_wp2_with fail
       go_roundg (gk - 1)
       case rel => exact ⟨j + 1, by simp, by omega, by omega, HF.out, HR2.out.trans (HEXT.out.mono HR2.out.size)⟩
       case measure => omega
end
end Go.Proofs.YtekpefcggikcbaaGreatDoor
