/- Layer 10: the contract of validItem: choices, unknown kinds, and all kinds. -/
import Derived.Test.YtekpefcggikcbaaGreatDoorSvK
import Derived.Test.YtekpefcggikcbaaGreatDoorMPtLn
namespace Go.Proofs.YtekpefcggikcbaaGreatDoor
open Go.RowKit

section
variable {w w' : World} {S T : Nat → Prop}
set_option maxRecDepth 20000 in
set_option maxHeartbeats 8000000 in
theorem vItem2_any (tk : Int) (fr nm al : Bs) (to : List Bs) (v1 : Value) (A : Option Addr) (n c : Nat) (L1 : Lies w S v1 (dL to)) :
  Calls Tryz.prog 155 #[.agg #[.int .i64 2, .string (ofL fr), v1, .string (ofL nm), .string (ofL al), .int .i64 tk, .slice A n c]] w (Tells w (.bool (hdB 2 fr to nm al tk n))) := by
 obtain ⟨At, m1, ct, rfl, -⟩ := L1.slc
 obtain ⟨W0, hW0⟩ : ∃ W, (w.alloc (.cells #[.int .i64 2, .string (ofL fr), .slice At m1 ct, .string (ofL nm), .string (ofL al), .int .i64 tk, .slice A n c] 70)).alloc (.cells #[.int .i64 0, .string (ofL fr), .slice none 0 0, .string ⟨#[]⟩, .string ⟨#[]⟩, .int .i64 tk, .slice A n c] 70) = W := ⟨_, rfl⟩
 have B1 := Lib.hid (show Below w.heap.size w W0 by rw [← hW0]; exact ((Below.refl _ w).alloc (Nat.le_refl _) _).alloc (by simp) _)
 have X1 := Lib.hid (show Bx W0 w.heap.size 70 #[.int .i64 2, .string (ofL fr), .slice At m1 ct, .string (ofL nm), .string (ofL al), .int .i64 tk, .slice A n c] by rw [← hW0]; exact (Bx.new w _ _).alloc _)
 have X2 := Lib.hid (show Bx W0 (w.heap.size + 1) 70 #[.int .i64 0, .string (ofL fr), .slice none 0 0, .string ⟨#[]⟩, .string ⟨#[]⟩, .int .i64 tk, .slice A n c] by rw [← hW0]; exact Bx.new2 (size_alloc _ _))
 have MM := Lib.hid (show Lies w (fun k => S k ∧ k < w.heap.size) (.slice At m1 ct) (dL to) from L1.mono fun k hk hS => ⟨hS, hk⟩)
 clear L1
 have HW0 := Lib.hid hW0
 clear hW0
 cases hc0 : wdB fr with
 | false =>
  have H := Lib.hid (show false = hdB 2 fr to nm al tk n by unfold hdB; simp [hc0])
  have HC0 := Lib.hid hc0
  clear hc0
  go_enter Tryz.func155, Tryz.ntmps155
  go_wp2_with fail
  rw [HW0.out]
  refine region_phi (n := 118) (fun i v w' => match i with
     | 0 => v = .pointer (some ⟨w.heap.size, 1, none⟩)
     | 1 => v = .string (ofL fr)
     | 2 => v = .bool false
     | 3 => v = .bool false
     | 4 => v = undef
     | 5 => v = undef
     | 6 => v = undef
     | 7 => v = .bool false
     | 8 => v = .bool false
     | 9 => v = undef
     | 10 => v = undef
     | 11 => v = undef
     | 12 => v = undef
     | 13 => v = undef
     | 14 => v = undef
     | 15 => v = .bool false
     | 16 => v = .bool false
     | _ => True) (by kernel_rfl) (by kernel_rfl) rfl ?_ (allOps_spec ?_) ?_
  ·intro i v w w' h hb
   match i, h with
   | 0, h => exact h
   | 1, h => exact h
   | 2, h => exact h
   | 3, h => exact h
   | 4, h => exact h
   | 5, h => exact h
   | 6, h => exact h
   | 7, h => exact h
   | 8, h => exact h
   | 9, h => exact h
   | 10, h => exact h
   | 11, h => exact h
   | 12, h => exact h
   | 13, h => exact h
   | 14, h => exact h
   | 15, h => exact h
   | 16, h => exact h
   | _ + 17, _ => trivial
  ·refine ⟨?_, ?_, ?_, ?_, ?_, ?_, ?_, ?_, ?_, ?_, ?_, ?_, ?_, ?_, ?_, ?_, ?_, trivial⟩
   ·intro a w' hb hp
    have b1 : a.tmps[1]?.getD undef = .pointer (some ⟨w.heap.size, 0, none⟩) := hb.at 1 (by kernel_rfl)
    exact step_run (v := .pointer (some ⟨w.heap.size, 1, none⟩)) rfl (by simp [execOp, go_sem, b1, Act.eval]) rfl
   ·intro a w' hb hp
    have h38 : a.tmps[38]?.getD undef = .pointer (some ⟨w.heap.size, 1, none⟩) := slot_eq.symm.trans (hp ⟨0, .data⟩ (by simp) rfl _ rfl)
    have k1 : w'.cell? ⟨w.heap.size, 1, none⟩ = some (.string (ofL fr)) := (X1.out.below hb.ext).cell 1
    exact step_run (v := .string (ofL fr)) rfl (by simp [execOp, go_sem, Act.eval, h38, k1]) rfl
   ·intro a w' hb hp
    have h39 : a.tmps[39]?.getD undef = .string (ofL fr) := slot_eq.symm.trans (hp ⟨1, .data⟩ (by simp) rfl _ rfl)
    refine step_call (f := 61) (args := #[.string (ofL fr)]) rfl (by simp [go_sem, h39]) ?_
    refine (isWord_any fr _).mono ?_
    rintro e w5 ⟨rfl, rfl⟩
    exact ⟨_, rfl, Below.refl _ _, by rw [HC0.out]; rfl⟩
   ·intro a w' hb hp
    have h40 : a.tmps[40]?.getD undef = .bool false := slot_eq.symm.trans (hp ⟨2, .data⟩ (by simp) rfl _ rfl)
    exact step_run (v := .bool false) rfl (by simp [execOp, Act.eval, h40]) rfl
   ·intro a w' hb hp
    have g41 : a.tmps[41]?.getD undef = .bool false := slot_eq.symm.trans (hp ⟨3, .guard⟩ (by simp) rfl _ rfl)
    exact step_off (by simp [Region.wanted, yielded, bool_at g41]) rfl
   ·intro a w' hb hp
    have g41 : a.tmps[41]?.getD undef = .bool false := slot_eq.symm.trans (hp ⟨3, .guard⟩ (by simp) rfl _ rfl)
    exact step_off (by simp [Region.wanted, yielded, bool_at g41]) rfl
   ·intro a w' hb hp
    have g41 : a.tmps[41]?.getD undef = .bool false := slot_eq.symm.trans (hp ⟨3, .guard⟩ (by simp) rfl _ rfl)
    exact step_off (by simp [Region.wanted, yielded, bool_at g41]) rfl
   ·intro a w' hb hp
    have h41 : a.tmps[41]?.getD undef = .bool false := slot_eq.symm.trans (hp ⟨3, .data⟩ (by simp) rfl _ rfl)
    have h44 : a.tmps[44]?.getD undef = undef := slot_eq.symm.trans (hp ⟨6, .data⟩ (by simp) rfl _ rfl)
    exact step_run (v := .bool false) rfl (by simp [execOp, go_sem, h41, h44, Act.eval]) rfl
   ·intro a w' hb hp
    have h45 : a.tmps[45]?.getD undef = .bool false := slot_eq.symm.trans (hp ⟨7, .data⟩ (by simp) rfl _ rfl)
    exact step_run (v := .bool false) rfl (by simp [execOp, Act.eval, h45]) rfl
   ·intro a w' hb hp
    have g46 : a.tmps[46]?.getD undef = .bool false := slot_eq.symm.trans (hp ⟨8, .guard⟩ (by simp) rfl _ rfl)
    exact step_off (by simp [Region.wanted, yielded, bool_at g46]) rfl
   ·intro a w' hb hp
    have g46 : a.tmps[46]?.getD undef = .bool false := slot_eq.symm.trans (hp ⟨8, .guard⟩ (by simp) rfl _ rfl)
    exact step_off (by simp [Region.wanted, yielded, bool_at g46]) rfl
   ·intro a w' hb hp
    have g46 : a.tmps[46]?.getD undef = .bool false := slot_eq.symm.trans (hp ⟨8, .guard⟩ (by simp) rfl _ rfl)
    exact step_off (by simp [Region.wanted, yielded, bool_at g46]) rfl
   ·intro a w' hb hp
    have g46 : a.tmps[46]?.getD undef = .bool false := slot_eq.symm.trans (hp ⟨8, .guard⟩ (by simp) rfl _ rfl)
    exact step_off (by simp [Region.wanted, yielded, bool_at g46]) rfl
   ·intro a w' hb hp
    have g46 : a.tmps[46]?.getD undef = .bool false := slot_eq.symm.trans (hp ⟨8, .guard⟩ (by simp) rfl _ rfl)
    exact step_off (by simp [Region.wanted, yielded, bool_at g46]) rfl
   ·intro a w' hb hp
    have g46 : a.tmps[46]?.getD undef = .bool false := slot_eq.symm.trans (hp ⟨8, .guard⟩ (by simp) rfl _ rfl)
    exact step_off (by simp [Region.wanted, yielded, bool_at g46]) rfl
   ·intro a w' hb hp
    have h46 : a.tmps[46]?.getD undef = .bool false := slot_eq.symm.trans (hp ⟨8, .data⟩ (by simp) rfl _ rfl)
    have h52 : a.tmps[52]?.getD undef = undef := slot_eq.symm.trans (hp ⟨14, .data⟩ (by simp) rfl _ rfl)
    exact step_run (v := .bool false) rfl (by simp [execOp, go_sem, h46, h52, Act.eval]) rfl
   ·intro a w' hb hp
    have h53 : a.tmps[53]?.getD undef = .bool false := slot_eq.symm.trans (hp ⟨15, .data⟩ (by simp) rfl _ rfl)
    exact step_run (v := .bool false) rfl (by simp [execOp, Act.eval, h53]) rfl
  ·intro vs w1 hb hv
   have h16 : vs 16 = .bool false := hv 16 (by decide)
   have B3 := Lib.hid (B1.out.trans (hb.mono B1.out.size))
   have Y1 := Lib.hid (X1.out.below hb)
   have Y2 := Lib.hid (X2.out.below hb)
   clear hb hv
   simp only [putAll, Act.put, List.setIfInBounds_toArray, List.set_cons_zero, List.set_cons_succ, Nat.zero_add, Nat.reduceAdd, h16]
   clear h16
   have p0 : w1.cell? ⟨w.heap.size, 0, none⟩ = some (.int .i64 2) := Y1.out.cell 0
   obtain ⟨p1, p2, p3, p4, p5, p6⟩ := Y1.out.c7
   have q0 := Y2.out.free 0
   have r0 : w1.cell? ⟨w.heap.size + 1, 0, none⟩ = some (.int .i64 0) := Y2.out.cell 0
   obtain ⟨r1, r2, r3, r4, r5, r6⟩ := Y2.out.c7
   go_wp2_with fail
   go_ret
   exact ⟨by rw [H.out]; rfl, B3.out.setCell (p := ⟨w.heap.size + 1, 0, none⟩) (show w.heap.size ≤ w.heap.size + 1 by omega) _⟩
 | true =>
  cases hc1 : frB tk 0 1000 with
  | false =>
   have H := Lib.hid (show false = hdB 2 fr to nm al tk n by unfold hdB; simp [hc1])
   have HC0 := Lib.hid hc0
   clear hc0
   have HC1 := Lib.hid hc1
   clear hc1
   go_enter Tryz.func155, Tryz.ntmps155
   go_wp2_with fail
   rw [HW0.out]
   refine region_phi (n := 118) (fun i v w' => match i with
      | 0 => v = .pointer (some ⟨w.heap.size, 1, none⟩)
      | 1 => v = .string (ofL fr)
      | 2 => v = .bool true
      | 3 => v = .bool true
      | 4 => v = .pointer (some ⟨w.heap.size, 5, none⟩)
      | 5 => v = .int .i64 tk
      | 6 => v = .bool false
      | 7 => v = .bool false
      | 8 => v = .bool false
      | 9 => v = undef
      | 10 => v = undef
      | 11 => v = undef
      | 12 => v = undef
      | 13 => v = undef
      | 14 => v = undef
      | 15 => v = .bool false
      | 16 => v = .bool false
      | _ => True) (by kernel_rfl) (by kernel_rfl) rfl ?_ (allOps_spec ?_) ?_
   ·intro i v w w' h hb
    match i, h with
    | 0, h => exact h
    | 1, h => exact h
    | 2, h => exact h
    | 3, h => exact h
    | 4, h => exact h
    | 5, h => exact h
    | 6, h => exact h
    | 7, h => exact h
    | 8, h => exact h
    | 9, h => exact h
    | 10, h => exact h
    | 11, h => exact h
    | 12, h => exact h
    | 13, h => exact h
    | 14, h => exact h
    | 15, h => exact h
    | 16, h => exact h
    | _ + 17, _ => trivial
   ·refine ⟨?_, ?_, ?_, ?_, ?_, ?_, ?_, ?_, ?_, ?_, ?_, ?_, ?_, ?_, ?_, ?_, ?_, trivial⟩
    ·intro a w' hb hp
     have b1 : a.tmps[1]?.getD undef = .pointer (some ⟨w.heap.size, 0, none⟩) := hb.at 1 (by kernel_rfl)
     exact step_run (v := .pointer (some ⟨w.heap.size, 1, none⟩)) rfl (by simp [execOp, go_sem, b1, Act.eval]) rfl
    ·intro a w' hb hp
     have h38 : a.tmps[38]?.getD undef = .pointer (some ⟨w.heap.size, 1, none⟩) := slot_eq.symm.trans (hp ⟨0, .data⟩ (by simp) rfl _ rfl)
     have k1 : w'.cell? ⟨w.heap.size, 1, none⟩ = some (.string (ofL fr)) := (X1.out.below hb.ext).cell 1
     exact step_run (v := .string (ofL fr)) rfl (by simp [execOp, go_sem, Act.eval, h38, k1]) rfl
    ·intro a w' hb hp
     have h39 : a.tmps[39]?.getD undef = .string (ofL fr) := slot_eq.symm.trans (hp ⟨1, .data⟩ (by simp) rfl _ rfl)
     refine step_call (f := 61) (args := #[.string (ofL fr)]) rfl (by simp [go_sem, h39]) ?_
     refine (isWord_any fr _).mono ?_
     rintro e w5 ⟨rfl, rfl⟩
     exact ⟨_, rfl, Below.refl _ _, by rw [HC0.out]; rfl⟩
    ·intro a w' hb hp
     have h40 : a.tmps[40]?.getD undef = .bool true := slot_eq.symm.trans (hp ⟨2, .data⟩ (by simp) rfl _ rfl)
     exact step_run (v := .bool true) rfl (by simp [execOp, Act.eval, h40]) rfl
    ·intro a w' hb hp
     have b1 : a.tmps[1]?.getD undef = .pointer (some ⟨w.heap.size, 0, none⟩) := hb.at 1 (by kernel_rfl)
     have g41 : a.tmps[41]?.getD undef = .bool true := slot_eq.symm.trans (hp ⟨3, .guard⟩ (by simp) rfl _ rfl)
     exact step_run (v := .pointer (some ⟨w.heap.size, 5, none⟩)) (by simp [Region.wanted, yielded, bool_at g41]) (by simp [execOp, go_sem, b1, Act.eval]) rfl
    ·intro a w' hb hp
     have h42 : a.tmps[42]?.getD undef = .pointer (some ⟨w.heap.size, 5, none⟩) := slot_eq.symm.trans (hp ⟨4, .data⟩ (by simp) rfl _ rfl)
     have g41 : a.tmps[41]?.getD undef = .bool true := slot_eq.symm.trans (hp ⟨3, .guard⟩ (by simp) rfl _ rfl)
     have k5 : w'.cell? ⟨w.heap.size, 5, none⟩ = some (.int .i64 tk) := (X1.out.below hb.ext).cell 5
     exact step_run (v := .int .i64 tk) (by simp [Region.wanted, yielded, bool_at g41]) (by simp [execOp, go_sem, Act.eval, h42, k5]) rfl
    ·intro a w' hb hp
     have h43 : a.tmps[43]?.getD undef = .int .i64 tk := slot_eq.symm.trans (hp ⟨5, .data⟩ (by simp) rfl _ rfl)
     have g41 : a.tmps[41]?.getD undef = .bool true := slot_eq.symm.trans (hp ⟨3, .guard⟩ (by simp) rfl _ rfl)
     refine step_call (f := 87) (args := #[.int .i64 tk, .int .i64 0, .int .i64 1000]) (by simp [Region.wanted, yielded, bool_at g41]) (by simp [go_sem, h43]) ?_
     refine (isFrom_any _ _ _).mono ?_
     rintro e w5 ⟨rfl, rfl⟩
     exact ⟨_, rfl, Below.refl _ _, by rw [HC1.out]; rfl⟩
    ·intro a w' hb hp
     have h41 : a.tmps[41]?.getD undef = .bool true := slot_eq.symm.trans (hp ⟨3, .data⟩ (by simp) rfl _ rfl)
     have h44 : a.tmps[44]?.getD undef = .bool false := slot_eq.symm.trans (hp ⟨6, .data⟩ (by simp) rfl _ rfl)
     exact step_run (v := .bool false) rfl (by simp [execOp, go_sem, h41, h44, Act.eval]) rfl
    ·intro a w' hb hp
     have h45 : a.tmps[45]?.getD undef = .bool false := slot_eq.symm.trans (hp ⟨7, .data⟩ (by simp) rfl _ rfl)
     exact step_run (v := .bool false) rfl (by simp [execOp, Act.eval, h45]) rfl
    ·intro a w' hb hp
     have g46 : a.tmps[46]?.getD undef = .bool false := slot_eq.symm.trans (hp ⟨8, .guard⟩ (by simp) rfl _ rfl)
     exact step_off (by simp [Region.wanted, yielded, bool_at g46]) rfl
    ·intro a w' hb hp
     have g46 : a.tmps[46]?.getD undef = .bool false := slot_eq.symm.trans (hp ⟨8, .guard⟩ (by simp) rfl _ rfl)
     exact step_off (by simp [Region.wanted, yielded, bool_at g46]) rfl
    ·intro a w' hb hp
     have g46 : a.tmps[46]?.getD undef = .bool false := slot_eq.symm.trans (hp ⟨8, .guard⟩ (by simp) rfl _ rfl)
     exact step_off (by simp [Region.wanted, yielded, bool_at g46]) rfl
    ·intro a w' hb hp
     have g46 : a.tmps[46]?.getD undef = .bool false := slot_eq.symm.trans (hp ⟨8, .guard⟩ (by simp) rfl _ rfl)
     exact step_off (by simp [Region.wanted, yielded, bool_at g46]) rfl
    ·intro a w' hb hp
     have g46 : a.tmps[46]?.getD undef = .bool false := slot_eq.symm.trans (hp ⟨8, .guard⟩ (by simp) rfl _ rfl)
     exact step_off (by simp [Region.wanted, yielded, bool_at g46]) rfl
    ·intro a w' hb hp
     have g46 : a.tmps[46]?.getD undef = .bool false := slot_eq.symm.trans (hp ⟨8, .guard⟩ (by simp) rfl _ rfl)
     exact step_off (by simp [Region.wanted, yielded, bool_at g46]) rfl
    ·intro a w' hb hp
     have h46 : a.tmps[46]?.getD undef = .bool false := slot_eq.symm.trans (hp ⟨8, .data⟩ (by simp) rfl _ rfl)
     have h52 : a.tmps[52]?.getD undef = undef := slot_eq.symm.trans (hp ⟨14, .data⟩ (by simp) rfl _ rfl)
     exact step_run (v := .bool false) rfl (by simp [execOp, go_sem, h46, h52, Act.eval]) rfl
    ·intro a w' hb hp
     have h53 : a.tmps[53]?.getD undef = .bool false := slot_eq.symm.trans (hp ⟨15, .data⟩ (by simp) rfl _ rfl)
     exact step_run (v := .bool false) rfl (by simp [execOp, Act.eval, h53]) rfl
   ·intro vs w1 hb hv
    have h16 : vs 16 = .bool false := hv 16 (by decide)
    have B3 := Lib.hid (B1.out.trans (hb.mono B1.out.size))
    have Y1 := Lib.hid (X1.out.below hb)
    have Y2 := Lib.hid (X2.out.below hb)
    clear hb hv
    simp only [putAll, Act.put, List.setIfInBounds_toArray, List.set_cons_zero, List.set_cons_succ, Nat.zero_add, Nat.reduceAdd, h16]
    clear h16
    have p0 : w1.cell? ⟨w.heap.size, 0, none⟩ = some (.int .i64 2) := Y1.out.cell 0
    obtain ⟨p1, p2, p3, p4, p5, p6⟩ := Y1.out.c7
    have q0 := Y2.out.free 0
    have r0 : w1.cell? ⟨w.heap.size + 1, 0, none⟩ = some (.int .i64 0) := Y2.out.cell 0
    obtain ⟨r1, r2, r3, r4, r5, r6⟩ := Y2.out.c7
    go_wp2_with fail
    go_ret
    exact ⟨by rw [H.out]; rfl, B3.out.setCell (p := ⟨w.heap.size + 1, 0, none⟩) (show w.heap.size ≤ w.heap.size + 1 by omega) _⟩
  | true =>
   cases hc2 : frB (n : Int) (if 0 < tk then 2 else 1) 8 with
   | false =>
    have H := Lib.hid (show false = hdB 2 fr to nm al tk n by unfold hdB; simp [hc2])
    have HC0 := Lib.hid hc0
    clear hc0
    have HC1 := Lib.hid hc1
    clear hc1
    have HC2 := Lib.hid hc2
    clear hc2
    go_enter Tryz.func155, Tryz.ntmps155
    go_wp2_with fail
    rw [HW0.out]
    refine region_phi (n := 118) (fun i v w' => match i with
       | 0 => v = .pointer (some ⟨w.heap.size, 1, none⟩)
       | 1 => v = .string (ofL fr)
       | 2 => v = .bool true
       | 3 => v = .bool true
       | 4 => v = .pointer (some ⟨w.heap.size, 5, none⟩)
       | 5 => v = .int .i64 tk
       | 6 => v = .bool true
       | 7 => v = .bool true
       | 8 => v = .bool true
       | 9 => v = .pointer (some ⟨w.heap.size, 6, none⟩)
       | 10 => v = .slice A n c
       | 11 => v = .int .i64 (n : Int)
       | 12 => v = .agg #[.int .i64 2, .string (ofL fr), .slice At m1 ct, .string (ofL nm), .string (ofL al), .int .i64 tk, .slice A n c]
       | 13 => v = .int .i64 (if 0 < tk then 2 else 1)
       | 14 => v = .bool false
       | 15 => v = .bool false
       | 16 => v = .bool false
       | _ => True) (by kernel_rfl) (by kernel_rfl) rfl ?_ (allOps_spec ?_) ?_
    ·intro i v w w' h hb
     match i, h with
     | 0, h => exact h
     | 1, h => exact h
     | 2, h => exact h
     | 3, h => exact h
     | 4, h => exact h
     | 5, h => exact h
     | 6, h => exact h
     | 7, h => exact h
     | 8, h => exact h
     | 9, h => exact h
     | 10, h => exact h
     | 11, h => exact h
     | 12, h => exact h
     | 13, h => exact h
     | 14, h => exact h
     | 15, h => exact h
     | 16, h => exact h
     | _ + 17, _ => trivial
    ·refine ⟨?_, ?_, ?_, ?_, ?_, ?_, ?_, ?_, ?_, ?_, ?_, ?_, ?_, ?_, ?_, ?_, ?_, trivial⟩
     ·intro a w' hb hp
      have b1 : a.tmps[1]?.getD undef = .pointer (some ⟨w.heap.size, 0, none⟩) := hb.at 1 (by kernel_rfl)
      exact step_run (v := .pointer (some ⟨w.heap.size, 1, none⟩)) rfl (by simp [execOp, go_sem, b1, Act.eval]) rfl
     ·intro a w' hb hp
      have h38 : a.tmps[38]?.getD undef = .pointer (some ⟨w.heap.size, 1, none⟩) := slot_eq.symm.trans (hp ⟨0, .data⟩ (by simp) rfl _ rfl)
      have k1 : w'.cell? ⟨w.heap.size, 1, none⟩ = some (.string (ofL fr)) := (X1.out.below hb.ext).cell 1
      exact step_run (v := .string (ofL fr)) rfl (by simp [execOp, go_sem, Act.eval, h38, k1]) rfl
     ·intro a w' hb hp
      have h39 : a.tmps[39]?.getD undef = .string (ofL fr) := slot_eq.symm.trans (hp ⟨1, .data⟩ (by simp) rfl _ rfl)
      refine step_call (f := 61) (args := #[.string (ofL fr)]) rfl (by simp [go_sem, h39]) ?_
      refine (isWord_any fr _).mono ?_
      rintro e w5 ⟨rfl, rfl⟩
      exact ⟨_, rfl, Below.refl _ _, by rw [HC0.out]; rfl⟩
     ·intro a w' hb hp
      have h40 : a.tmps[40]?.getD undef = .bool true := slot_eq.symm.trans (hp ⟨2, .data⟩ (by simp) rfl _ rfl)
      exact step_run (v := .bool true) rfl (by simp [execOp, Act.eval, h40]) rfl
     ·intro a w' hb hp
      have b1 : a.tmps[1]?.getD undef = .pointer (some ⟨w.heap.size, 0, none⟩) := hb.at 1 (by kernel_rfl)
      have g41 : a.tmps[41]?.getD undef = .bool true := slot_eq.symm.trans (hp ⟨3, .guard⟩ (by simp) rfl _ rfl)
      exact step_run (v := .pointer (some ⟨w.heap.size, 5, none⟩)) (by simp [Region.wanted, yielded, bool_at g41]) (by simp [execOp, go_sem, b1, Act.eval]) rfl
     ·intro a w' hb hp
      have h42 : a.tmps[42]?.getD undef = .pointer (some ⟨w.heap.size, 5, none⟩) := slot_eq.symm.trans (hp ⟨4, .data⟩ (by simp) rfl _ rfl)
      have g41 : a.tmps[41]?.getD undef = .bool true := slot_eq.symm.trans (hp ⟨3, .guard⟩ (by simp) rfl _ rfl)
      have k5 : w'.cell? ⟨w.heap.size, 5, none⟩ = some (.int .i64 tk) := (X1.out.below hb.ext).cell 5
      exact step_run (v := .int .i64 tk) (by simp [Region.wanted, yielded, bool_at g41]) (by simp [execOp, go_sem, Act.eval, h42, k5]) rfl
     ·intro a w' hb hp
      have h43 : a.tmps[43]?.getD undef = .int .i64 tk := slot_eq.symm.trans (hp ⟨5, .data⟩ (by simp) rfl _ rfl)
      have g41 : a.tmps[41]?.getD undef = .bool true := slot_eq.symm.trans (hp ⟨3, .guard⟩ (by simp) rfl _ rfl)
      refine step_call (f := 87) (args := #[.int .i64 tk, .int .i64 0, .int .i64 1000]) (by simp [Region.wanted, yielded, bool_at g41]) (by simp [go_sem, h43]) ?_
      refine (isFrom_any _ _ _).mono ?_
      rintro e w5 ⟨rfl, rfl⟩
      exact ⟨_, rfl, Below.refl _ _, by rw [HC1.out]; rfl⟩
     ·intro a w' hb hp
      have h41 : a.tmps[41]?.getD undef = .bool true := slot_eq.symm.trans (hp ⟨3, .data⟩ (by simp) rfl _ rfl)
      have h44 : a.tmps[44]?.getD undef = .bool true := slot_eq.symm.trans (hp ⟨6, .data⟩ (by simp) rfl _ rfl)
      exact step_run (v := .bool true) rfl (by simp [execOp, go_sem, h41, h44, Act.eval]) rfl
     ·intro a w' hb hp
      have h45 : a.tmps[45]?.getD undef = .bool true := slot_eq.symm.trans (hp ⟨7, .data⟩ (by simp) rfl _ rfl)
      exact step_run (v := .bool true) rfl (by simp [execOp, Act.eval, h45]) rfl
     ·intro a w' hb hp
      have b1 : a.tmps[1]?.getD undef = .pointer (some ⟨w.heap.size, 0, none⟩) := hb.at 1 (by kernel_rfl)
      have g46 : a.tmps[46]?.getD undef = .bool true := slot_eq.symm.trans (hp ⟨8, .guard⟩ (by simp) rfl _ rfl)
      exact step_run (v := .pointer (some ⟨w.heap.size, 6, none⟩)) (by simp [Region.wanted, yielded, bool_at g46]) (by simp [execOp, go_sem, b1, Act.eval]) rfl
     ·intro a w' hb hp
      have h47 : a.tmps[47]?.getD undef = .pointer (some ⟨w.heap.size, 6, none⟩) := slot_eq.symm.trans (hp ⟨9, .data⟩ (by simp) rfl _ rfl)
      have g46 : a.tmps[46]?.getD undef = .bool true := slot_eq.symm.trans (hp ⟨8, .guard⟩ (by simp) rfl _ rfl)
      have k6 : w'.cell? ⟨w.heap.size, 6, none⟩ = some (.slice A n c) := (X1.out.below hb.ext).cell 6
      exact step_run (v := .slice A n c) (by simp [Region.wanted, yielded, bool_at g46]) (by simp [execOp, go_sem, Act.eval, h47, k6]) rfl
     ·intro a w' hb hp
      have h48 : a.tmps[48]?.getD undef = .slice A n c := slot_eq.symm.trans (hp ⟨10, .data⟩ (by simp) rfl _ rfl)
      have g46 : a.tmps[46]?.getD undef = .bool true := slot_eq.symm.trans (hp ⟨8, .guard⟩ (by simp) rfl _ rfl)
      exact step_run (v := .int .i64 (n : Int)) (by simp [Region.wanted, yielded, bool_at g46]) (by simp [go_sem, h48]) rfl
     ·intro a w' hb hp
      have b1 : a.tmps[1]?.getD undef = .pointer (some ⟨w.heap.size, 0, none⟩) := hb.at 1 (by kernel_rfl)
      have g46 : a.tmps[46]?.getD undef = .bool true := slot_eq.symm.trans (hp ⟨8, .guard⟩ (by simp) rfl _ rfl)
      have k0 : w'.cell? ⟨w.heap.size, 0, none⟩ = some (.int .i64 2) := (X1.out.below hb.ext).cell 0
      have k1 : w'.cell? ⟨w.heap.size, 1, none⟩ = some (.string (ofL fr)) := (X1.out.below hb.ext).cell 1
      have k2 : w'.cell? ⟨w.heap.size, 2, none⟩ = some (.slice At m1 ct) := (X1.out.below hb.ext).cell 2
      have k3 : w'.cell? ⟨w.heap.size, 3, none⟩ = some (.string (ofL nm)) := (X1.out.below hb.ext).cell 3
      have k4 : w'.cell? ⟨w.heap.size, 4, none⟩ = some (.string (ofL al)) := (X1.out.below hb.ext).cell 4
      have k5 : w'.cell? ⟨w.heap.size, 5, none⟩ = some (.int .i64 tk) := (X1.out.below hb.ext).cell 5
      have k6 : w'.cell? ⟨w.heap.size, 6, none⟩ = some (.slice A n c) := (X1.out.below hb.ext).cell 6
      exact step_run (v := .agg #[.int .i64 2, .string (ofL fr), .slice At m1 ct, .string (ofL nm), .string (ofL al), .int .i64 tk, .slice A n c]) (by simp [Region.wanted, yielded, bool_at g46]) (by simp [execOp, go_sem, Act.eval, b1, k0, k1, k2, k3, k4, k5, k6]) rfl
     ·intro a w' hb hp
      have h50 : a.tmps[50]?.getD undef = .agg #[.int .i64 2, .string (ofL fr), .slice At m1 ct, .string (ofL nm), .string (ofL al), .int .i64 tk, .slice A n c] := slot_eq.symm.trans (hp ⟨12, .data⟩ (by simp) rfl _ rfl)
      have g46 : a.tmps[46]?.getD undef = .bool true := slot_eq.symm.trans (hp ⟨8, .guard⟩ (by simp) rfl _ rfl)
      refine step_call (f := 205) (args := #[.agg #[.int .i64 2, .string (ofL fr), .slice At m1 ct, .string (ofL nm), .string (ofL al), .int .i64 tk, .slice A n c]]) (by simp [Region.wanted, yielded, bool_at g46]) (by simp [go_sem, h50]) ?_
      refine (leastBlocks_any 2 tk fr nm al _ _).mono ?_
      rintro e w5 ⟨rfl, hb5⟩
      exact ⟨_, rfl, hb5, rfl⟩
     ·intro a w' hb hp
      have h49 : a.tmps[49]?.getD undef = .int .i64 (n : Int) := slot_eq.symm.trans (hp ⟨11, .data⟩ (by simp) rfl _ rfl)
      have h51 : a.tmps[51]?.getD undef = .int .i64 (if 0 < tk then 2 else 1) := slot_eq.symm.trans (hp ⟨13, .data⟩ (by simp) rfl _ rfl)
      have g46 : a.tmps[46]?.getD undef = .bool true := slot_eq.symm.trans (hp ⟨8, .guard⟩ (by simp) rfl _ rfl)
      refine step_call (f := 87) (args := #[.int .i64 (n : Int), .int .i64 (if 0 < tk then 2 else 1), .int .i64 8]) (by simp [Region.wanted, yielded, bool_at g46]) (by simp [go_sem, h49, h51]) ?_
      refine (isFrom_any _ _ _).mono ?_
      rintro e w5 ⟨rfl, rfl⟩
      exact ⟨_, rfl, Below.refl _ _, by rw [HC2.out]; rfl⟩
     ·intro a w' hb hp
      have h46 : a.tmps[46]?.getD undef = .bool true := slot_eq.symm.trans (hp ⟨8, .data⟩ (by simp) rfl _ rfl)
      have h52 : a.tmps[52]?.getD undef = .bool false := slot_eq.symm.trans (hp ⟨14, .data⟩ (by simp) rfl _ rfl)
      exact step_run (v := .bool false) rfl (by simp [execOp, go_sem, h46, h52, Act.eval]) rfl
     ·intro a w' hb hp
      have h53 : a.tmps[53]?.getD undef = .bool false := slot_eq.symm.trans (hp ⟨15, .data⟩ (by simp) rfl _ rfl)
      exact step_run (v := .bool false) rfl (by simp [execOp, Act.eval, h53]) rfl
    ·intro vs w1 hb hv
     have h16 : vs 16 = .bool false := hv 16 (by decide)
     have B3 := Lib.hid (B1.out.trans (hb.mono B1.out.size))
     have Y1 := Lib.hid (X1.out.below hb)
     have Y2 := Lib.hid (X2.out.below hb)
     clear hb hv
     simp only [putAll, Act.put, List.setIfInBounds_toArray, List.set_cons_zero, List.set_cons_succ, Nat.zero_add, Nat.reduceAdd, h16]
     clear h16
     have p0 : w1.cell? ⟨w.heap.size, 0, none⟩ = some (.int .i64 2) := Y1.out.cell 0
     obtain ⟨p1, p2, p3, p4, p5, p6⟩ := Y1.out.c7
     have q0 := Y2.out.free 0
     have r0 : w1.cell? ⟨w.heap.size + 1, 0, none⟩ = some (.int .i64 0) := Y2.out.cell 0
     obtain ⟨r1, r2, r3, r4, r5, r6⟩ := Y2.out.c7
     go_wp2_with fail
     go_ret
     exact ⟨by rw [H.out]; rfl, B3.out.setCell (p := ⟨w.heap.size + 1, 0, none⟩) (show w.heap.size ≤ w.heap.size + 1 by omega) _⟩
   | true =>
    have H := Lib.hid (show shB 2 fr to nm al tk n 2 fr [] [] [] tk n = hdB 2 fr to nm al tk n by unfold shB hdB; simp [hc0, hc1, hc2])
    have HC0 := Lib.hid hc0
    clear hc0
    have HC1 := Lib.hid hc1
    clear hc1
    have HC2 := Lib.hid hc2
    clear hc2
    go_enter Tryz.func155, Tryz.ntmps155
    go_wp2_with fail
    rw [HW0.out]
    refine region_phi (n := 118) (fun i v w' => match i with
       | 0 => v = .pointer (some ⟨w.heap.size, 1, none⟩)
       | 1 => v = .string (ofL fr)
       | 2 => v = .bool true
       | 3 => v = .bool true
       | 4 => v = .pointer (some ⟨w.heap.size, 5, none⟩)
       | 5 => v = .int .i64 tk
       | 6 => v = .bool true
       | 7 => v = .bool true
       | 8 => v = .bool true
       | 9 => v = .pointer (some ⟨w.heap.size, 6, none⟩)
       | 10 => v = .slice A n c
       | 11 => v = .int .i64 (n : Int)
       | 12 => v = .agg #[.int .i64 2, .string (ofL fr), .slice At m1 ct, .string (ofL nm), .string (ofL al), .int .i64 tk, .slice A n c]
       | 13 => v = .int .i64 (if 0 < tk then 2 else 1)
       | 14 => v = .bool true
       | 15 => v = .bool true
       | 16 => v = .bool true
       | _ => True) (by kernel_rfl) (by kernel_rfl) rfl ?_ (allOps_spec ?_) ?_
    ·intro i v w w' h hb
     match i, h with
     | 0, h => exact h
     | 1, h => exact h
     | 2, h => exact h
     | 3, h => exact h
     | 4, h => exact h
     | 5, h => exact h
     | 6, h => exact h
     | 7, h => exact h
     | 8, h => exact h
     | 9, h => exact h
     | 10, h => exact h
     | 11, h => exact h
     | 12, h => exact h
     | 13, h => exact h
     | 14, h => exact h
     | 15, h => exact h
     | 16, h => exact h
     | _ + 17, _ => trivial
    ·refine ⟨?_, ?_, ?_, ?_, ?_, ?_, ?_, ?_, ?_, ?_, ?_, ?_, ?_, ?_, ?_, ?_, ?_, trivial⟩
     ·intro a w' hb hp
      have b1 : a.tmps[1]?.getD undef = .pointer (some ⟨w.heap.size, 0, none⟩) := hb.at 1 (by kernel_rfl)
      exact step_run (v := .pointer (some ⟨w.heap.size, 1, none⟩)) rfl (by simp [execOp, go_sem, b1, Act.eval]) rfl
     ·intro a w' hb hp
      have h38 : a.tmps[38]?.getD undef = .pointer (some ⟨w.heap.size, 1, none⟩) := slot_eq.symm.trans (hp ⟨0, .data⟩ (by simp) rfl _ rfl)
      have k1 : w'.cell? ⟨w.heap.size, 1, none⟩ = some (.string (ofL fr)) := (X1.out.below hb.ext).cell 1
      exact step_run (v := .string (ofL fr)) rfl (by simp [execOp, go_sem, Act.eval, h38, k1]) rfl
     ·intro a w' hb hp
      have h39 : a.tmps[39]?.getD undef = .string (ofL fr) := slot_eq.symm.trans (hp ⟨1, .data⟩ (by simp) rfl _ rfl)
      refine step_call (f := 61) (args := #[.string (ofL fr)]) rfl (by simp [go_sem, h39]) ?_
      refine (isWord_any fr _).mono ?_
      rintro e w5 ⟨rfl, rfl⟩
      exact ⟨_, rfl, Below.refl _ _, by rw [HC0.out]; rfl⟩
     ·intro a w' hb hp
      have h40 : a.tmps[40]?.getD undef = .bool true := slot_eq.symm.trans (hp ⟨2, .data⟩ (by simp) rfl _ rfl)
      exact step_run (v := .bool true) rfl (by simp [execOp, Act.eval, h40]) rfl
     ·intro a w' hb hp
      have b1 : a.tmps[1]?.getD undef = .pointer (some ⟨w.heap.size, 0, none⟩) := hb.at 1 (by kernel_rfl)
      have g41 : a.tmps[41]?.getD undef = .bool true := slot_eq.symm.trans (hp ⟨3, .guard⟩ (by simp) rfl _ rfl)
      exact step_run (v := .pointer (some ⟨w.heap.size, 5, none⟩)) (by simp [Region.wanted, yielded, bool_at g41]) (by simp [execOp, go_sem, b1, Act.eval]) rfl
     ·intro a w' hb hp
      have h42 : a.tmps[42]?.getD undef = .pointer (some ⟨w.heap.size, 5, none⟩) := slot_eq.symm.trans (hp ⟨4, .data⟩ (by simp) rfl _ rfl)
      have g41 : a.tmps[41]?.getD undef = .bool true := slot_eq.symm.trans (hp ⟨3, .guard⟩ (by simp) rfl _ rfl)
      have k5 : w'.cell? ⟨w.heap.size, 5, none⟩ = some (.int .i64 tk) := (X1.out.below hb.ext).cell 5
      exact step_run (v := .int .i64 tk) (by simp [Region.wanted, yielded, bool_at g41]) (by simp [execOp, go_sem, Act.eval, h42, k5]) rfl
     ·intro a w' hb hp
      have h43 : a.tmps[43]?.getD undef = .int .i64 tk := slot_eq.symm.trans (hp ⟨5, .data⟩ (by simp) rfl _ rfl)
      have g41 : a.tmps[41]?.getD undef = .bool true := slot_eq.symm.trans (hp ⟨3, .guard⟩ (by simp) rfl _ rfl)
      refine step_call (f := 87) (args := #[.int .i64 tk, .int .i64 0, .int .i64 1000]) (by simp [Region.wanted, yielded, bool_at g41]) (by simp [go_sem, h43]) ?_
      refine (isFrom_any _ _ _).mono ?_
      rintro e w5 ⟨rfl, rfl⟩
      exact ⟨_, rfl, Below.refl _ _, by rw [HC1.out]; rfl⟩
     ·intro a w' hb hp
      have h41 : a.tmps[41]?.getD undef = .bool true := slot_eq.symm.trans (hp ⟨3, .data⟩ (by simp) rfl _ rfl)
      have h44 : a.tmps[44]?.getD undef = .bool true := slot_eq.symm.trans (hp ⟨6, .data⟩ (by simp) rfl _ rfl)
      exact step_run (v := .bool true) rfl (by simp [execOp, go_sem, h41, h44, Act.eval]) rfl
     ·intro a w' hb hp
      have h45 : a.tmps[45]?.getD undef = .bool true := slot_eq.symm.trans (hp ⟨7, .data⟩ (by simp) rfl _ rfl)
      exact step_run (v := .bool true) rfl (by simp [execOp, Act.eval, h45]) rfl
     ·intro a w' hb hp
      have b1 : a.tmps[1]?.getD undef = .pointer (some ⟨w.heap.size, 0, none⟩) := hb.at 1 (by kernel_rfl)
      have g46 : a.tmps[46]?.getD undef = .bool true := slot_eq.symm.trans (hp ⟨8, .guard⟩ (by simp) rfl _ rfl)
      exact step_run (v := .pointer (some ⟨w.heap.size, 6, none⟩)) (by simp [Region.wanted, yielded, bool_at g46]) (by simp [execOp, go_sem, b1, Act.eval]) rfl
     ·intro a w' hb hp
      have h47 : a.tmps[47]?.getD undef = .pointer (some ⟨w.heap.size, 6, none⟩) := slot_eq.symm.trans (hp ⟨9, .data⟩ (by simp) rfl _ rfl)
      have g46 : a.tmps[46]?.getD undef = .bool true := slot_eq.symm.trans (hp ⟨8, .guard⟩ (by simp) rfl _ rfl)
      have k6 : w'.cell? ⟨w.heap.size, 6, none⟩ = some (.slice A n c) := (X1.out.below hb.ext).cell 6
      exact step_run (v := .slice A n c) (by simp [Region.wanted, yielded, bool_at g46]) (by simp [execOp, go_sem, Act.eval, h47, k6]) rfl
     ·intro a w' hb hp
      have h48 : a.tmps[48]?.getD undef = .slice A n c := slot_eq.symm.trans (hp ⟨10, .data⟩ (by simp) rfl _ rfl)
      have g46 : a.tmps[46]?.getD undef = .bool true := slot_eq.symm.trans (hp ⟨8, .guard⟩ (by simp) rfl _ rfl)
      exact step_run (v := .int .i64 (n : Int)) (by simp [Region.wanted, yielded, bool_at g46]) (by simp [go_sem, h48]) rfl
     ·intro a w' hb hp
      have b1 : a.tmps[1]?.getD undef = .pointer (some ⟨w.heap.size, 0, none⟩) := hb.at 1 (by kernel_rfl)
      have g46 : a.tmps[46]?.getD undef = .bool true := slot_eq.symm.trans (hp ⟨8, .guard⟩ (by simp) rfl _ rfl)
      have k0 : w'.cell? ⟨w.heap.size, 0, none⟩ = some (.int .i64 2) := (X1.out.below hb.ext).cell 0
      have k1 : w'.cell? ⟨w.heap.size, 1, none⟩ = some (.string (ofL fr)) := (X1.out.below hb.ext).cell 1
      have k2 : w'.cell? ⟨w.heap.size, 2, none⟩ = some (.slice At m1 ct) := (X1.out.below hb.ext).cell 2
      have k3 : w'.cell? ⟨w.heap.size, 3, none⟩ = some (.string (ofL nm)) := (X1.out.below hb.ext).cell 3
      have k4 : w'.cell? ⟨w.heap.size, 4, none⟩ = some (.string (ofL al)) := (X1.out.below hb.ext).cell 4
      have k5 : w'.cell? ⟨w.heap.size, 5, none⟩ = some (.int .i64 tk) := (X1.out.below hb.ext).cell 5
      have k6 : w'.cell? ⟨w.heap.size, 6, none⟩ = some (.slice A n c) := (X1.out.below hb.ext).cell 6
      exact step_run (v := .agg #[.int .i64 2, .string (ofL fr), .slice At m1 ct, .string (ofL nm), .string (ofL al), .int .i64 tk, .slice A n c]) (by simp [Region.wanted, yielded, bool_at g46]) (by simp [execOp, go_sem, Act.eval, b1, k0, k1, k2, k3, k4, k5, k6]) rfl
     ·intro a w' hb hp
      have h50 : a.tmps[50]?.getD undef = .agg #[.int .i64 2, .string (ofL fr), .slice At m1 ct, .string (ofL nm), .string (ofL al), .int .i64 tk, .slice A n c] := slot_eq.symm.trans (hp ⟨12, .data⟩ (by simp) rfl _ rfl)
      have g46 : a.tmps[46]?.getD undef = .bool true := slot_eq.symm.trans (hp ⟨8, .guard⟩ (by simp) rfl _ rfl)
      refine step_call (f := 205) (args := #[.agg #[.int .i64 2, .string (ofL fr), .slice At m1 ct, .string (ofL nm), .string (ofL al), .int .i64 tk, .slice A n c]]) (by simp [Region.wanted, yielded, bool_at g46]) (by simp [go_sem, h50]) ?_
      refine (leastBlocks_any 2 tk fr nm al _ _).mono ?_
      rintro e w5 ⟨rfl, hb5⟩
      exact ⟨_, rfl, hb5, rfl⟩
     ·intro a w' hb hp
      have h49 : a.tmps[49]?.getD undef = .int .i64 (n : Int) := slot_eq.symm.trans (hp ⟨11, .data⟩ (by simp) rfl _ rfl)
      have h51 : a.tmps[51]?.getD undef = .int .i64 (if 0 < tk then 2 else 1) := slot_eq.symm.trans (hp ⟨13, .data⟩ (by simp) rfl _ rfl)
      have g46 : a.tmps[46]?.getD undef = .bool true := slot_eq.symm.trans (hp ⟨8, .guard⟩ (by simp) rfl _ rfl)
      refine step_call (f := 87) (args := #[.int .i64 (n : Int), .int .i64 (if 0 < tk then 2 else 1), .int .i64 8]) (by simp [Region.wanted, yielded, bool_at g46]) (by simp [go_sem, h49, h51]) ?_
      refine (isFrom_any _ _ _).mono ?_
      rintro e w5 ⟨rfl, rfl⟩
      exact ⟨_, rfl, Below.refl _ _, by rw [HC2.out]; rfl⟩
     ·intro a w' hb hp
      have h46 : a.tmps[46]?.getD undef = .bool true := slot_eq.symm.trans (hp ⟨8, .data⟩ (by simp) rfl _ rfl)
      have h52 : a.tmps[52]?.getD undef = .bool true := slot_eq.symm.trans (hp ⟨14, .data⟩ (by simp) rfl _ rfl)
      exact step_run (v := .bool true) rfl (by simp [execOp, go_sem, h46, h52, Act.eval]) rfl
     ·intro a w' hb hp
      have h53 : a.tmps[53]?.getD undef = .bool true := slot_eq.symm.trans (hp ⟨15, .data⟩ (by simp) rfl _ rfl)
      exact step_run (v := .bool true) rfl (by simp [execOp, Act.eval, h53]) rfl
    ·intro vs w1 hb hv
     have h16 : vs 16 = .bool true := hv 16 (by decide)
     have B3 := Lib.hid (B1.out.trans (hb.mono B1.out.size))
     have Y1 := Lib.hid (X1.out.below hb)
     have Y2 := Lib.hid (X2.out.below hb)
     clear hb hv
     simp only [putAll, Act.put, List.setIfInBounds_toArray, List.set_cons_zero, List.set_cons_succ, Nat.zero_add, Nat.reduceAdd, h16]
     clear h16
     have p0 : w1.cell? ⟨w.heap.size, 0, none⟩ = some (.int .i64 2) := Y1.out.cell 0
     obtain ⟨p1, p2, p3, p4, p5, p6⟩ := Y1.out.c7
     have q0 := Y2.out.free 0
     have r0 : w1.cell? ⟨w.heap.size + 1, 0, none⟩ = some (.int .i64 0) := Y2.out.cell 0
     obtain ⟨r1, r2, r3, r4, r5, r6⟩ := Y2.out.c7
     have Z1 := Y1.out.other (c := w.heap.size + 1) (i := 0) (u := .int .i64 2) (show w.heap.size ≠ w.heap.size + 1 by omega)
     have Z2 : Bx (w1.setCell ⟨w.heap.size + 1, 0, none⟩ (.int .i64 2)) (w.heap.size + 1) 70 #[.int .i64 2, .string (ofL fr), .slice none 0 0, .string ⟨#[]⟩, .string ⟨#[]⟩, .int .i64 tk, .slice A n c] := Y2.out.set 0 (.int .i64 2)
     have M9 := Lib.hid (show Lies (w1.setCell ⟨w.heap.size + 1, 0, none⟩ (.int .i64 2)) (fun k => S k ∧ k < w.heap.size) (.slice At m1 ct) (dL to) from (MM.out.belowT B3.out).set (by intro hS; omega))
     have B9 := Lib.hid (B3.out.setCell (p := ⟨w.heap.size + 1, 0, none⟩) (show w.heap.size ≤ w.heap.size + 1 by omega) (.int .i64 2))
     obtain ⟨W9, hW9⟩ : ∃ W, w1.setCell ⟨w.heap.size + 1, 0, none⟩ (.int .i64 2) = W := ⟨_, rfl⟩
     rw [hW9] at Z1 Z2 M9 B9
     have HW9 := Lib.hid hW9
     clear hW9
     have z0 : W9.cell? ⟨w.heap.size, 0, none⟩ = some (.int .i64 2) := Z1.cell 0
     obtain ⟨z1, z2, z3, z4, z5, z6⟩ := Z1.c7
     have y0 : W9.cell? ⟨w.heap.size + 1, 0, none⟩ = some (.int .i64 2) := Z2.cell 0
     obtain ⟨y1, y2, y3, y4, y5, y6⟩ := Z2.c7
     clear Z1 Z2
     go_wp2_with fail
     rw [HW9.out]
     refine (sameHead_any 2 tk 2 tk fr nm al fr [] [] to [] _ _ A A n c n c M9.out (Lies.nil 1 : Lies W9 S (.slice none 0 0) (.s 1 [])) (by intro h; rw [h]; exact Nat.zero_le _)).mono ?_
     rintro e w8 ⟨rfl, hb8⟩; rw [H.out]
     have B8 := Lib.hid (B9.out.trans (hb8.mono B9.out.size))
     clear hb8
     go_wp2_with fail
     go_ret
     exact ⟨rfl, B8.out⟩
set_option maxHeartbeats 8000000 in
theorem vItem0_any (k : Int) (hk : k ≠ 1 ∧ k ≠ 2 ∧ k ≠ 3 ∧ k ≠ 4 ∧ k ≠ 5 ∧ k ≠ 6) (tk : Int) (fr nm al : Bs) (to : List Bs) (v1 : Value) (A : Option Addr) (n c : Nat) (L1 : Lies w S v1 (dL to)) :
  Calls Tryz.prog 155 #[.agg #[.int .i64 k, .string (ofL fr), v1, .string (ofL nm), .string (ofL al), .int .i64 tk, .slice A n c]] w (Tells w (.bool (hdB k fr to nm al tk n))) := by
 obtain ⟨At, m1, ct, rfl, -⟩ := L1.slc
 obtain ⟨h1, h2, h3, h4, h5, h6⟩ := hk
 have H := Lib.hid (show false = hdB k fr to nm al tk n by unfold hdB; rw [if_neg h1, if_neg h2, if_neg h3, if_neg h4, if_neg h5, if_neg h6])
 have e1 : (k == 1) = false := by rw [beq_eq_false_iff_ne]; exact h1
 have e2 : (k == 2) = false := by rw [beq_eq_false_iff_ne]; exact h2
 have e3 : (k == 3) = false := by rw [beq_eq_false_iff_ne]; exact h3
 have e4 : (k == 4) = false := by rw [beq_eq_false_iff_ne]; exact h4
 have e5 : (k == 5) = false := by rw [beq_eq_false_iff_ne]; exact h5
 have e6 : (k == 6) = false := by rw [beq_eq_false_iff_ne]; exact h6
 clear h1 h2 h3 h4 h5 h6 L1
 go_enter Tryz.func155, Tryz.ntmps155
 go_wp2_with fail
 go_ret
 exact ⟨by rw [H.out]; rfl, ((Below.refl _ w).alloc (Nat.le_refl _) _).alloc (by simp) _⟩
theorem validItem_any (k tk : Int) (fr nm al : Bs) (to : List Bs) (v1 : Value) (A : Option Addr) (n c : Nat) (L1 : Lies w S v1 (dL to)) :
  Calls Tryz.prog 155 #[.agg #[.int .i64 k, .string (ofL fr), v1, .string (ofL nm), .string (ofL al), .int .i64 tk, .slice A n c]] w (Tells w (.bool (hdB k fr to nm al tk n))) := by
 by_cases h1 : k = 1
 ·subst h1; exact vItem1_any tk fr nm al to v1 A n c L1
 by_cases h2 : k = 2
 ·subst h2; exact vItem2_any tk fr nm al to v1 A n c L1
 by_cases h3 : k = 3
 ·subst h3; exact vItem3_any tk fr nm al to v1 A n c L1
 by_cases h4 : k = 4
 ·subst h4; exact vItem4_any tk fr nm al to v1 A n c L1
 by_cases h5 : k = 5
 ·subst h5; exact vItem5_any tk fr nm al to v1 A n c L1
 by_cases h6 : k = 6
 ·subst h6; exact vItem6_any tk fr nm al to v1 A n c L1
 exact vItem0_any k ⟨h1, h2, h3, h4, h5, h6⟩ tk fr nm al to v1 A n c L1
end
end Go.Proofs.YtekpefcggikcbaaGreatDoor
