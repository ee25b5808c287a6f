/- Layer 10: the contract of validItem (heads of one kind each). -/
import Derived.Test.YtekpefcggikcbaaGreatDoorMPtBk
import Derived.Test.YtekpefcggikcbaaGreatDoorMSvT
import Derived.Test.YtekpefcggikcbaaGreatDoorMSynB
namespace Go.Proofs.YtekpefcggikcbaaGreatDoor
open Go.RowKit

theorem Bx.c7 {w : World} {b T : Nat} {a0 a1 a2 a3 a4 a5 a6 : Value} (h : Bx w b T #[a0, a1, a2, a3, a4, a5, a6]) :
  w.cell? ⟨b, 1, none⟩ = some a1 ∧ w.cell? ⟨b, 2, none⟩ = some a2 ∧ w.cell? ⟨b, 3, none⟩ = some a3 ∧ w.cell? ⟨b, 4, none⟩ = some a4 ∧ w.cell? ⟨b, 5, none⟩ = some a5 ∧ w.cell? ⟨b, 6, none⟩ = some a6 :=
 ⟨h.cell 1, h.cell 2, h.cell 3, h.cell 4, h.cell 5, h.cell 6⟩
def hdB (k : Int) (fr : Bs) (to : List Bs) (nm al : Bs) (tk : Int) (n : Nat) : Bool :=
 if k = 1 then wdB fr && (alB wdB 1 5 to && (paB nm && (decide (al = []) && (decide (tk = 0) && decide (n = 0)))))
 else if k = 2 then wdB fr && (frB tk 0 1000 && (frB (n : Int) (if 0 < tk then 2 else 1) 8 && (decide (to = []) && (decide (nm = []) && decide (al = [])))))
 else if k = 3 then paB nm && (decide (n = 1) && (decide (fr = []) && (decide (to = []) && (decide (al = []) && decide (tk = 0)))))
 else if k = 4 then paB nm && (decide (fr = []) && (decide (to = []) && (decide (al = []) && (decide (tk = 0) && decide (n = 0)))))
 else if k = 5 then frB (n : Int) 2 8 && (decide (fr = []) && (decide (to = []) && (decide (nm = []) && (decide (al = []) && decide (tk = 0)))))
 else if k = 6 then wdB nm && (alB wdB 1 6 to && (wdB al && (decide (fr = []) && (decide (tk = 0) && decide (n = 0)))))
 else false
theorem ent_isWord : ∀ args w, (callFunc 61 args).run Tryz.prog w = .ok (.enter 61 args) w := enters_of Tryz.func61 (by kernel_rfl) rfl
theorem isWord_q : IsQ 61 wdB (fun _ x v => v = vS x) := ⟨ent_isWord, fun w x v hv => by rw [hv]; exact (isWord_any x w).mono fun _ _ h => ⟨h.1, by rw [h.2]; exact Below.refl _ _⟩⟩
theorem al_iff0 {α : Type} {q : α → Bool} {lo hi : Int} {l : List α} (h : alB q lo hi l = true) : lo ≤ l.length ∧ (l.length : Int) ≤ hi := by
 unfold alB at h
 rw [Bool.and_eq_true] at h
 exact fr_iff h.1
section
variable {w w' : World} {S T : Nat → Prop}
set_option maxHeartbeats 8000000 in
theorem vItem1_any (tk : Int) (fr nm al : Bs) (to : List Bs) (v1 : Value) (A : Option Addr) (n c : Nat) (L1 : Lies w S v1 (dL to)) :
  Calls Tryz.prog 155 #[.agg #[.int .i64 1, .string (ofL fr), v1, .string (ofL nm), .string (ofL al), .int .i64 tk, .slice A n c]] w (Tells w (.bool (hdB 1 fr to nm al tk n))) := by
 obtain ⟨At, m1, ct, rfl, -⟩ := L1.slc
 obtain ⟨W0, hW0⟩ : ∃ W, (w.alloc (.cells #[.int .i64 1, .string (ofL fr), .slice At m1 ct, .string (ofL nm), .string (ofL al), .int .i64 tk, .slice A n c] 70)).alloc (.cells #[.int .i64 0, .string (ofL fr), .slice At m1 ct, .string (ofL nm), .string ⟨#[]⟩, .int .i64 0, .slice none 0 0] 70) = W := ⟨_, rfl⟩
 have B1 := Lib.hid (show Below w.heap.size w W0 by rw [← hW0]; exact ((Below.refl _ w).alloc (Nat.le_refl _) _).alloc (by simp) _)
 have X1 := Lib.hid (show Bx W0 w.heap.size 70 #[.int .i64 1, .string (ofL fr), .slice At m1 ct, .string (ofL nm), .string (ofL al), .int .i64 tk, .slice A n c] by rw [← hW0]; exact (Bx.new w _ _).alloc _)
 have X2 := Lib.hid (show Bx W0 (w.heap.size + 1) 70 #[.int .i64 0, .string (ofL fr), .slice At m1 ct, .string (ofL nm), .string ⟨#[]⟩, .int .i64 0, .slice none 0 0] by rw [← hW0]; exact Bx.new2 (size_alloc _ _))
 have M1 := Lib.hid (L1.belowT B1.out)
 have MM := Lib.hid (show Lies w (fun k => S k ∧ k < w.heap.size) (.slice At m1 ct) (dL to) from L1.mono fun k hk hS => ⟨hS, hk⟩)
 clear L1
 have HW0 := Lib.hid hW0
 clear hW0
 cases hc0 : wdB fr with
 | false =>
  have H := Lib.hid (show false = hdB 1 fr to nm al tk n by unfold hdB; simp [hc0])
  have HC0 := Lib.hid hc0
  clear hc0
  have p0 : W0.cell? ⟨w.heap.size, 0, none⟩ = some (.int .i64 1) := X1.out.cell 0
  obtain ⟨p1, p2, p3, p4, p5, p6⟩ := X1.out.c7
  have q0 := X2.out.free 0
  have r0 : W0.cell? ⟨w.heap.size + 1, 0, none⟩ = some (.int .i64 0) := X2.out.cell 0
  obtain ⟨r1, r2, r3, r4, r5, r6⟩ := X2.out.c7
  go_enter Tryz.func155, Tryz.ntmps155
  go_wp2_with fail
  rw [HW0.out]
  refine (isWord_any _ _).mono ?_; rintro e w2 ⟨rfl, rfl⟩; rw [HC0.out]
  go_wp2_with fail
  go_ret
  exact ⟨by rw [H.out]; rfl, B1.out.setCell (p := ⟨w.heap.size + 1, 0, none⟩) (show w.heap.size ≤ w.heap.size + 1 by omega) _⟩
 | true =>
  cases hc1 : alB wdB 1 5 to with
  | false =>
   have H := Lib.hid (show false = hdB 1 fr to nm al tk n by unfold hdB; simp [hc1])
   have HC0 := Lib.hid hc0
   clear hc0
   have HC1 := Lib.hid hc1
   clear hc1
   have p0 : W0.cell? ⟨w.heap.size, 0, none⟩ = some (.int .i64 1) := X1.out.cell 0
   obtain ⟨p1, p2, p3, p4, p5, p6⟩ := X1.out.c7
   have q0 := X2.out.free 0
   have r0 : W0.cell? ⟨w.heap.size + 1, 0, none⟩ = some (.int .i64 0) := X2.out.cell 0
   obtain ⟨r1, r2, r3, r4, r5, r6⟩ := X2.out.c7
   go_enter Tryz.func155, Tryz.ntmps155
   go_wp2_with fail
   rw [HW0.out]
   refine (isWord_any _ _).mono ?_; rintro e w2 ⟨rfl, rfl⟩; rw [HC0.out]
   go_wp2_with fail
   refine (allS_any _ wdB isWord_q 1 5 to _ M1.out (by decide)).mono ?_; rintro e w11 ⟨rfl, hb11⟩; rw [HC1.out]
   have B11 := Lib.hid (B1.out.trans (hb11.mono B1.out.size))
   have X1_1 := Lib.hid (X1.out.below hb11)
   have X2_1 := Lib.hid (X2.out.below hb11)
   have M1_1 := Lib.hid (M1.out.belowT hb11)
   have p0 : w11.cell? ⟨w.heap.size, 0, none⟩ = some (.int .i64 1) := X1_1.out.cell 0
   obtain ⟨p1, p2, p3, p4, p5, p6⟩ := X1_1.out.c7
   have q0 := X2_1.out.free 0
   have r0 : w11.cell? ⟨w.heap.size + 1, 0, none⟩ = some (.int .i64 0) := X2_1.out.cell 0
   obtain ⟨r1, r2, r3, r4, r5, r6⟩ := X2_1.out.c7
   clear hb11
   go_wp2_with fail
   go_ret
   exact ⟨by rw [H.out]; rfl, B11.out.setCell (p := ⟨w.heap.size + 1, 0, none⟩) (show w.heap.size ≤ w.heap.size + 1 by omega) _⟩
  | true =>
   cases hc2 : paB nm with
   | false =>
    have H := Lib.hid (show false = hdB 1 fr to nm al tk n by unfold hdB; simp [hc2])
    have HC0 := Lib.hid hc0
    clear hc0
    have HC1 := Lib.hid hc1
    clear hc1
    have HC2 := Lib.hid hc2
    clear hc2
    have p0 : W0.cell? ⟨w.heap.size, 0, none⟩ = some (.int .i64 1) := X1.out.cell 0
    obtain ⟨p1, p2, p3, p4, p5, p6⟩ := X1.out.c7
    have q0 := X2.out.free 0
    have r0 : W0.cell? ⟨w.heap.size + 1, 0, none⟩ = some (.int .i64 0) := X2.out.cell 0
    obtain ⟨r1, r2, r3, r4, r5, r6⟩ := X2.out.c7
    go_enter Tryz.func155, Tryz.ntmps155
    go_wp2_with fail
    rw [HW0.out]
    refine (isWord_any _ _).mono ?_; rintro e w2 ⟨rfl, rfl⟩; rw [HC0.out]
    go_wp2_with fail
    refine (allS_any _ wdB isWord_q 1 5 to _ M1.out (by decide)).mono ?_; rintro e w11 ⟨rfl, hb11⟩; rw [HC1.out]
    have B11 := Lib.hid (B1.out.trans (hb11.mono B1.out.size))
    have X1_1 := Lib.hid (X1.out.below hb11)
    have X2_1 := Lib.hid (X2.out.below hb11)
    have M1_1 := Lib.hid (M1.out.belowT hb11)
    have p0 : w11.cell? ⟨w.heap.size, 0, none⟩ = some (.int .i64 1) := X1_1.out.cell 0
    obtain ⟨p1, p2, p3, p4, p5, p6⟩ := X1_1.out.c7
    have q0 := X2_1.out.free 0
    have r0 : w11.cell? ⟨w.heap.size + 1, 0, none⟩ = some (.int .i64 0) := X2_1.out.cell 0
    obtain ⟨r1, r2, r3, r4, r5, r6⟩ := X2_1.out.c7
    clear hb11
    go_wp2_with fail
    refine (isPath_any _ _).mono ?_; rintro e w12 ⟨rfl, hb12⟩; rw [HC2.out]
    have B12 := Lib.hid (B11.out.trans (hb12.mono B11.out.size))
    have X1_2 := Lib.hid (X1_1.out.below hb12)
    have X2_2 := Lib.hid (X2_1.out.below hb12)
    have M1_2 := Lib.hid (M1_1.out.belowT hb12)
    have p0 : w12.cell? ⟨w.heap.size, 0, none⟩ = some (.int .i64 1) := X1_2.out.cell 0
    obtain ⟨p1, p2, p3, p4, p5, p6⟩ := X1_2.out.c7
    have q0 := X2_2.out.free 0
    have r0 : w12.cell? ⟨w.heap.size + 1, 0, none⟩ = some (.int .i64 0) := X2_2.out.cell 0
    obtain ⟨r1, r2, r3, r4, r5, r6⟩ := X2_2.out.c7
    clear hb12
    go_wp2_with fail
    go_ret
    exact ⟨by rw [H.out]; rfl, B12.out.setCell (p := ⟨w.heap.size + 1, 0, none⟩) (show w.heap.size ≤ w.heap.size + 1 by omega) _⟩
   | true =>
    have H := Lib.hid (show shB 1 fr to nm al tk n 1 fr to nm [] 0 0 = hdB 1 fr to nm al tk n by unfold shB hdB; simp [hc0, hc1, hc2])
    have HC0 := Lib.hid hc0
    clear hc0
    have HC1 := Lib.hid hc1
    clear hc1
    have HC2 := Lib.hid hc2
    clear hc2
    have p0 : W0.cell? ⟨w.heap.size, 0, none⟩ = some (.int .i64 1) := X1.out.cell 0
    obtain ⟨p1, p2, p3, p4, p5, p6⟩ := X1.out.c7
    have q0 := X2.out.free 0
    have r0 : W0.cell? ⟨w.heap.size + 1, 0, none⟩ = some (.int .i64 0) := X2.out.cell 0
    obtain ⟨r1, r2, r3, r4, r5, r6⟩ := X2.out.c7
    go_enter Tryz.func155, Tryz.ntmps155
    go_wp2_with fail
    rw [HW0.out]
    refine (isWord_any _ _).mono ?_; rintro e w2 ⟨rfl, rfl⟩; rw [HC0.out]
    go_wp2_with fail
    refine (allS_any _ wdB isWord_q 1 5 to _ M1.out (by decide)).mono ?_; rintro e w11 ⟨rfl, hb11⟩; rw [HC1.out]
    have B11 := Lib.hid (B1.out.trans (hb11.mono B1.out.size))
    have X1_1 := Lib.hid (X1.out.below hb11)
    have X2_1 := Lib.hid (X2.out.below hb11)
    have M1_1 := Lib.hid (M1.out.belowT hb11)
    have p0 : w11.cell? ⟨w.heap.size, 0, none⟩ = some (.int .i64 1) := X1_1.out.cell 0
    obtain ⟨p1, p2, p3, p4, p5, p6⟩ := X1_1.out.c7
    have q0 := X2_1.out.free 0
    have r0 : w11.cell? ⟨w.heap.size + 1, 0, none⟩ = some (.int .i64 0) := X2_1.out.cell 0
    obtain ⟨r1, r2, r3, r4, r5, r6⟩ := X2_1.out.c7
    clear hb11
    go_wp2_with fail
    refine (isPath_any _ _).mono ?_; rintro e w12 ⟨rfl, hb12⟩; rw [HC2.out]
    have B12 := Lib.hid (B11.out.trans (hb12.mono B11.out.size))
    have X1_2 := Lib.hid (X1_1.out.below hb12)
    have X2_2 := Lib.hid (X2_1.out.below hb12)
    have M1_2 := Lib.hid (M1_1.out.belowT hb12)
    have p0 : w12.cell? ⟨w.heap.size, 0, none⟩ = some (.int .i64 1) := X1_2.out.cell 0
    obtain ⟨p1, p2, p3, p4, p5, p6⟩ := X1_2.out.c7
    have q0 := X2_2.out.free 0
    have r0 : w12.cell? ⟨w.heap.size + 1, 0, none⟩ = some (.int .i64 0) := X2_2.out.cell 0
    obtain ⟨r1, r2, r3, r4, r5, r6⟩ := X2_2.out.c7
    clear hb12
    have Z1 := X1_2.out.other (c := w.heap.size + 1) (i := 0) (u := .int .i64 1) (show w.heap.size ≠ w.heap.size + 1 by omega)
    have Z2 : Bx (w12.setCell ⟨w.heap.size + 1, 0, none⟩ (.int .i64 1)) (w.heap.size + 1) 70 #[.int .i64 1, .string (ofL fr), .slice At m1 ct, .string (ofL nm), .string ⟨#[]⟩, .int .i64 0, .slice none 0 0] := X2_2.out.set 0 (.int .i64 1)
    have M9 := Lib.hid (show Lies (w12.setCell ⟨w.heap.size + 1, 0, none⟩ (.int .i64 1)) (fun k => S k ∧ k < w.heap.size) (.slice At m1 ct) (dL to) from (MM.out.belowT B12.out).set (by intro hS; omega))
    have B9 := Lib.hid (B12.out.setCell (p := ⟨w.heap.size + 1, 0, none⟩) (show w.heap.size ≤ w.heap.size + 1 by omega) (.int .i64 1))
    obtain ⟨W9, hW9⟩ : ∃ W, w12.setCell ⟨w.heap.size + 1, 0, none⟩ (.int .i64 1) = W := ⟨_, rfl⟩
    rw [hW9] at Z1 Z2 M9 B9
    have HW9 := Lib.hid hW9
    clear hW9
    have z0 : W9.cell? ⟨w.heap.size, 0, none⟩ = some (.int .i64 1) := Z1.cell 0
    obtain ⟨z1, z2, z3, z4, z5, z6⟩ := Z1.c7
    have y0 : W9.cell? ⟨w.heap.size + 1, 0, none⟩ = some (.int .i64 1) := Z2.cell 0
    obtain ⟨y1, y2, y3, y4, y5, y6⟩ := Z2.c7
    clear Z1 Z2
    go_wp2_with fail
    rw [HW9.out]
    refine (sameHead_any 1 tk 1 0 fr nm al fr nm [] to to _ _ A none n c 0 0 M9.out M9.out (by have := (al_iff0 HC1.out).2; omega)).mono ?_
    rintro e w8 ⟨rfl, hb8⟩; rw [H.out]
    have B8 := Lib.hid (B9.out.trans (hb8.mono B9.out.size))
    clear hb8
    go_wp2_with fail
    go_ret
    exact ⟨rfl, B8.out⟩
set_option maxHeartbeats 8000000 in
theorem vItem4_any (tk : Int) (fr nm al : Bs) (to : List Bs) (v1 : Value) (A : Option Addr) (n c : Nat) (L1 : Lies w S v1 (dL to)) :
  Calls Tryz.prog 155 #[.agg #[.int .i64 4, .string (ofL fr), v1, .string (ofL nm), .string (ofL al), .int .i64 tk, .slice A n c]] w (Tells w (.bool (hdB 4 fr to nm al tk n))) := by
 obtain ⟨At, m1, ct, rfl, -⟩ := L1.slc
 obtain ⟨W0, hW0⟩ : ∃ W, (w.alloc (.cells #[.int .i64 4, .string (ofL fr), .slice At m1 ct, .string (ofL nm), .string (ofL al), .int .i64 tk, .slice A n c] 70)).alloc (.cells #[.int .i64 0, .string ⟨#[]⟩, .slice none 0 0, .string (ofL nm), .string ⟨#[]⟩, .int .i64 0, .slice none 0 0] 70) = W := ⟨_, rfl⟩
 have B1 := Lib.hid (show Below w.heap.size w W0 by rw [← hW0]; exact ((Below.refl _ w).alloc (Nat.le_refl _) _).alloc (by simp) _)
 have X1 := Lib.hid (show Bx W0 w.heap.size 70 #[.int .i64 4, .string (ofL fr), .slice At m1 ct, .string (ofL nm), .string (ofL al), .int .i64 tk, .slice A n c] by rw [← hW0]; exact (Bx.new w _ _).alloc _)
 have X2 := Lib.hid (show Bx W0 (w.heap.size + 1) 70 #[.int .i64 0, .string ⟨#[]⟩, .slice none 0 0, .string (ofL nm), .string ⟨#[]⟩, .int .i64 0, .slice none 0 0] by rw [← hW0]; exact Bx.new2 (size_alloc _ _))
 have M1 := Lib.hid (L1.belowT B1.out)
 have MM := Lib.hid (show Lies w (fun k => S k ∧ k < w.heap.size) (.slice At m1 ct) (dL to) from L1.mono fun k hk hS => ⟨hS, hk⟩)
 clear L1
 have HW0 := Lib.hid hW0
 clear hW0
 cases hc0 : paB nm with
 | false =>
  have H := Lib.hid (show false = hdB 4 fr to nm al tk n by unfold hdB; simp [hc0])
  have HC0 := Lib.hid hc0
  clear hc0
  have p0 : W0.cell? ⟨w.heap.size, 0, none⟩ = some (.int .i64 4) := X1.out.cell 0
  obtain ⟨p1, p2, p3, p4, p5, p6⟩ := X1.out.c7
  have q0 := X2.out.free 0
  have r0 : W0.cell? ⟨w.heap.size + 1, 0, none⟩ = some (.int .i64 0) := X2.out.cell 0
  obtain ⟨r1, r2, r3, r4, r5, r6⟩ := X2.out.c7
  go_enter Tryz.func155, Tryz.ntmps155
  go_wp2_with fail
  rw [HW0.out]
  refine (isPath_any _ _).mono ?_; rintro e w11 ⟨rfl, hb11⟩; rw [HC0.out]
  have B11 := Lib.hid (B1.out.trans (hb11.mono B1.out.size))
  have X1_1 := Lib.hid (X1.out.below hb11)
  have X2_1 := Lib.hid (X2.out.below hb11)
  have M1_1 := Lib.hid (M1.out.belowT hb11)
  have p0 : w11.cell? ⟨w.heap.size, 0, none⟩ = some (.int .i64 4) := X1_1.out.cell 0
  obtain ⟨p1, p2, p3, p4, p5, p6⟩ := X1_1.out.c7
  have q0 := X2_1.out.free 0
  have r0 : w11.cell? ⟨w.heap.size + 1, 0, none⟩ = some (.int .i64 0) := X2_1.out.cell 0
  obtain ⟨r1, r2, r3, r4, r5, r6⟩ := X2_1.out.c7
  clear hb11
  go_wp2_with fail
  go_ret
  exact ⟨by rw [H.out]; rfl, B11.out.setCell (p := ⟨w.heap.size + 1, 0, none⟩) (show w.heap.size ≤ w.heap.size + 1 by omega) _⟩
 | true =>
  have H := Lib.hid (show shB 4 fr to nm al tk n 4 [] [] nm [] 0 0 = hdB 4 fr to nm al tk n by unfold shB hdB; simp [hc0])
  have HC0 := Lib.hid hc0
  clear hc0
  have p0 : W0.cell? ⟨w.heap.size, 0, none⟩ = some (.int .i64 4) := X1.out.cell 0
  obtain ⟨p1, p2, p3, p4, p5, p6⟩ := X1.out.c7
  have q0 := X2.out.free 0
  have r0 : W0.cell? ⟨w.heap.size + 1, 0, none⟩ = some (.int .i64 0) := X2.out.cell 0
  obtain ⟨r1, r2, r3, r4, r5, r6⟩ := X2.out.c7
  go_enter Tryz.func155, Tryz.ntmps155
  go_wp2_with fail
  rw [HW0.out]
  refine (isPath_any _ _).mono ?_; rintro e w11 ⟨rfl, hb11⟩; rw [HC0.out]
  have B11 := Lib.hid (B1.out.trans (hb11.mono B1.out.size))
  have X1_1 := Lib.hid (X1.out.below hb11)
  have X2_1 := Lib.hid (X2.out.below hb11)
  have M1_1 := Lib.hid (M1.out.belowT hb11)
  have p0 : w11.cell? ⟨w.heap.size, 0, none⟩ = some (.int .i64 4) := X1_1.out.cell 0
  obtain ⟨p1, p2, p3, p4, p5, p6⟩ := X1_1.out.c7
  have q0 := X2_1.out.free 0
  have r0 : w11.cell? ⟨w.heap.size + 1, 0, none⟩ = some (.int .i64 0) := X2_1.out.cell 0
  obtain ⟨r1, r2, r3, r4, r5, r6⟩ := X2_1.out.c7
  clear hb11
  have Z1 := X1_1.out.other (c := w.heap.size + 1) (i := 0) (u := .int .i64 4) (show w.heap.size ≠ w.heap.size + 1 by omega)
  have Z2 : Bx (w11.setCell ⟨w.heap.size + 1, 0, none⟩ (.int .i64 4)) (w.heap.size + 1) 70 #[.int .i64 4, .string ⟨#[]⟩, .slice none 0 0, .string (ofL nm), .string ⟨#[]⟩, .int .i64 0, .slice none 0 0] := X2_1.out.set 0 (.int .i64 4)
  have M9 := Lib.hid (show Lies (w11.setCell ⟨w.heap.size + 1, 0, none⟩ (.int .i64 4)) (fun k => S k ∧ k < w.heap.size) (.slice At m1 ct) (dL to) from (MM.out.belowT B11.out).set (by intro hS; omega))
  have B9 := Lib.hid (B11.out.setCell (p := ⟨w.heap.size + 1, 0, none⟩) (show w.heap.size ≤ w.heap.size + 1 by omega) (.int .i64 4))
  obtain ⟨W9, hW9⟩ : ∃ W, w11.setCell ⟨w.heap.size + 1, 0, none⟩ (.int .i64 4) = W := ⟨_, rfl⟩
  rw [hW9] at Z1 Z2 M9 B9
  have HW9 := Lib.hid hW9
  clear hW9
  have z0 : W9.cell? ⟨w.heap.size, 0, none⟩ = some (.int .i64 4) := Z1.cell 0
  obtain ⟨z1, z2, z3, z4, z5, z6⟩ := Z1.c7
  have y0 : W9.cell? ⟨w.heap.size + 1, 0, none⟩ = some (.int .i64 4) := Z2.cell 0
  obtain ⟨y1, y2, y3, y4, y5, y6⟩ := Z2.c7
  clear Z1 Z2
  go_wp2_with fail
  rw [HW9.out]
  refine (sameHead_any 4 tk 4 0 fr nm al [] nm [] to [] _ _ A none n c 0 0 M9.out (Lies.nil 1 : Lies W9 S (.slice none 0 0) (.s 1 [])) (by intro h; rw [h]; exact Nat.zero_le _)).mono ?_
  rintro e w8 ⟨rfl, hb8⟩; rw [H.out]
  have B8 := Lib.hid (B9.out.trans (hb8.mono B9.out.size))
  clear hb8
  go_wp2_with fail
  go_ret
  exact ⟨rfl, B8.out⟩
set_option maxHeartbeats 8000000 in
theorem vItem5_any (tk : Int) (fr nm al : Bs) (to : List Bs) (v1 : Value) (A : Option Addr) (n c : Nat) (L1 : Lies w S v1 (dL to)) :
  Calls Tryz.prog 155 #[.agg #[.int .i64 5, .string (ofL fr), v1, .string (ofL nm), .string (ofL al), .int .i64 tk, .slice A n c]] w (Tells w (.bool (hdB 5 fr to nm al tk n))) := by
 obtain ⟨At, m1, ct, rfl, -⟩ := L1.slc
 obtain ⟨W0, hW0⟩ : ∃ W, (w.alloc (.cells #[.int .i64 5, .string (ofL fr), .slice At m1 ct, .string (ofL nm), .string (ofL al), .int .i64 tk, .slice A n c] 70)).alloc (.cells #[.int .i64 0, .string ⟨#[]⟩, .slice none 0 0, .string ⟨#[]⟩, .string ⟨#[]⟩, .int .i64 0, .slice A n c] 70) = W := ⟨_, rfl⟩
 have B1 := Lib.hid (show Below w.heap.size w W0 by rw [← hW0]; exact ((Below.refl _ w).alloc (Nat.le_refl _) _).alloc (by simp) _)
 have X1 := Lib.hid (show Bx W0 w.heap.size 70 #[.int .i64 5, .string (ofL fr), .slice At m1 ct, .string (ofL nm), .string (ofL al), .int .i64 tk, .slice A n c] by rw [← hW0]; exact (Bx.new w _ _).alloc _)
 have X2 := Lib.hid (show Bx W0 (w.heap.size + 1) 70 #[.int .i64 0, .string ⟨#[]⟩, .slice none 0 0, .string ⟨#[]⟩, .string ⟨#[]⟩, .int .i64 0, .slice A n c] by rw [← hW0]; exact Bx.new2 (size_alloc _ _))
 have M1 := Lib.hid (L1.belowT B1.out)
 have MM := Lib.hid (show Lies w (fun k => S k ∧ k < w.heap.size) (.slice At m1 ct) (dL to) from L1.mono fun k hk hS => ⟨hS, hk⟩)
 clear L1
 have HW0 := Lib.hid hW0
 clear hW0
 cases hc0 : frB (n : Int) 2 8 with
 | false =>
  have H := Lib.hid (show false = hdB 5 fr to nm al tk n by unfold hdB; simp [hc0])
  have HC0 := Lib.hid hc0
  clear hc0
  have p0 : W0.cell? ⟨w.heap.size, 0, none⟩ = some (.int .i64 5) := X1.out.cell 0
  obtain ⟨p1, p2, p3, p4, p5, p6⟩ := X1.out.c7
  have q0 := X2.out.free 0
  have r0 : W0.cell? ⟨w.heap.size + 1, 0, none⟩ = some (.int .i64 0) := X2.out.cell 0
  obtain ⟨r1, r2, r3, r4, r5, r6⟩ := X2.out.c7
  go_enter Tryz.func155, Tryz.ntmps155
  go_wp2_with fail
  rw [HW0.out]
  refine (isFrom_any _ _ _).mono ?_; rintro e w2 ⟨rfl, rfl⟩; rw [HC0.out]
  go_wp2_with fail
  go_ret
  exact ⟨by rw [H.out]; rfl, B1.out.setCell (p := ⟨w.heap.size + 1, 0, none⟩) (show w.heap.size ≤ w.heap.size + 1 by omega) _⟩
 | true =>
  have H := Lib.hid (show shB 5 fr to nm al tk n 5 [] [] [] [] 0 n = hdB 5 fr to nm al tk n by unfold shB hdB; simp [hc0])
  have HC0 := Lib.hid hc0
  clear hc0
  have p0 : W0.cell? ⟨w.heap.size, 0, none⟩ = some (.int .i64 5) := X1.out.cell 0
  obtain ⟨p1, p2, p3, p4, p5, p6⟩ := X1.out.c7
  have q0 := X2.out.free 0
  have r0 : W0.cell? ⟨w.heap.size + 1, 0, none⟩ = some (.int .i64 0) := X2.out.cell 0
  obtain ⟨r1, r2, r3, r4, r5, r6⟩ := X2.out.c7
  go_enter Tryz.func155, Tryz.ntmps155
  go_wp2_with fail
  rw [HW0.out]
  refine (isFrom_any _ _ _).mono ?_; rintro e w2 ⟨rfl, rfl⟩; rw [HC0.out]
  have Z1 := X1.out.other (c := w.heap.size + 1) (i := 0) (u := .int .i64 5) (show w.heap.size ≠ w.heap.size + 1 by omega)
  have Z2 : Bx (W0.setCell ⟨w.heap.size + 1, 0, none⟩ (.int .i64 5)) (w.heap.size + 1) 70 #[.int .i64 5, .string ⟨#[]⟩, .slice none 0 0, .string ⟨#[]⟩, .string ⟨#[]⟩, .int .i64 0, .slice A n c] := X2.out.set 0 (.int .i64 5)
  have M9 := Lib.hid (show Lies (W0.setCell ⟨w.heap.size + 1, 0, none⟩ (.int .i64 5)) (fun k => S k ∧ k < w.heap.size) (.slice At m1 ct) (dL to) from (MM.out.belowT B1.out).set (by intro hS; omega))
  have B9 := Lib.hid (B1.out.setCell (p := ⟨w.heap.size + 1, 0, none⟩) (show w.heap.size ≤ w.heap.size + 1 by omega) (.int .i64 5))
  obtain ⟨W9, hW9⟩ : ∃ W, W0.setCell ⟨w.heap.size + 1, 0, none⟩ (.int .i64 5) = W := ⟨_, rfl⟩
  rw [hW9] at Z1 Z2 M9 B9
  have HW9 := Lib.hid hW9
  clear hW9
  have z0 : W9.cell? ⟨w.heap.size, 0, none⟩ = some (.int .i64 5) := Z1.cell 0
  obtain ⟨z1, z2, z3, z4, z5, z6⟩ := Z1.c7
  have y0 : W9.cell? ⟨w.heap.size + 1, 0, none⟩ = some (.int .i64 5) := Z2.cell 0
  obtain ⟨y1, y2, y3, y4, y5, y6⟩ := Z2.c7
  clear Z1 Z2
  go_wp2_with fail
  rw [HW9.out]
  refine (sameHead_any 5 tk 5 0 fr nm al [] [] [] to [] _ _ A A n c n c M9.out (Lies.nil 1 : Lies W9 S (.slice none 0 0) (.s 1 [])) (by intro h; rw [h]; exact Nat.zero_le _)).mono ?_
  rintro e w8 ⟨rfl, hb8⟩; rw [H.out]
  have B8 := Lib.hid (B9.out.trans (hb8.mono B9.out.size))
  clear hb8
  go_wp2_with fail
  go_ret
  exact ⟨rfl, B8.out⟩
set_option maxHeartbeats 8000000 in
theorem vItem6_any (tk : Int) (fr nm al : Bs) (to : List Bs) (v1 : Value) (A : Option Addr) (n c : Nat) (L1 : Lies w S v1 (dL to)) :
  Calls Tryz.prog 155 #[.agg #[.int .i64 6, .string (ofL fr), v1, .string (ofL nm), .string (ofL al), .int .i64 tk, .slice A n c]] w (Tells w (.bool (hdB 6 fr to nm al tk n))) := by
 obtain ⟨At, m1, ct, rfl, -⟩ := L1.slc
 obtain ⟨W0, hW0⟩ : ∃ W, (w.alloc (.cells #[.int .i64 6, .string (ofL fr), .slice At m1 ct, .string (ofL nm), .string (ofL al), .int .i64 tk, .slice A n c] 70)).alloc (.cells #[.int .i64 0, .string ⟨#[]⟩, .slice At m1 ct, .string (ofL nm), .string (ofL al), .int .i64 0, .slice none 0 0] 70) = W := ⟨_, rfl⟩
 have B1 := Lib.hid (show Below w.heap.size w W0 by rw [← hW0]; exact ((Below.refl _ w).alloc (Nat.le_refl _) _).alloc (by simp) _)
 have X1 := Lib.hid (show Bx W0 w.heap.size 70 #[.int .i64 6, .string (ofL fr), .slice At m1 ct, .string (ofL nm), .string (ofL al), .int .i64 tk, .slice A n c] by rw [← hW0]; exact (Bx.new w _ _).alloc _)
 have X2 := Lib.hid (show Bx W0 (w.heap.size + 1) 70 #[.int .i64 0, .string ⟨#[]⟩, .slice At m1 ct, .string (ofL nm), .string (ofL al), .int .i64 0, .slice none 0 0] by rw [← hW0]; exact Bx.new2 (size_alloc _ _))
 have M1 := Lib.hid (L1.belowT B1.out)
 have MM := Lib.hid (show Lies w (fun k => S k ∧ k < w.heap.size) (.slice At m1 ct) (dL to) from L1.mono fun k hk hS => ⟨hS, hk⟩)
 clear L1
 have HW0 := Lib.hid hW0
 clear hW0
 cases hc0 : wdB nm with
 | false =>
  have H := Lib.hid (show false = hdB 6 fr to nm al tk n by unfold hdB; simp [hc0])
  have HC0 := Lib.hid hc0
  clear hc0
  have p0 : W0.cell? ⟨w.heap.size, 0, none⟩ = some (.int .i64 6) := X1.out.cell 0
  obtain ⟨p1, p2, p3, p4, p5, p6⟩ := X1.out.c7
  have q0 := X2.out.free 0
  have r0 : W0.cell? ⟨w.heap.size + 1, 0, none⟩ = some (.int .i64 0) := X2.out.cell 0
  obtain ⟨r1, r2, r3, r4, r5, r6⟩ := X2.out.c7
  go_enter Tryz.func155, Tryz.ntmps155
  go_wp2_with fail
  rw [HW0.out]
  refine (isWord_any _ _).mono ?_; rintro e w2 ⟨rfl, rfl⟩; rw [HC0.out]
  go_wp2_with fail
  go_ret
  exact ⟨by rw [H.out]; rfl, B1.out.setCell (p := ⟨w.heap.size + 1, 0, none⟩) (show w.heap.size ≤ w.heap.size + 1 by omega) _⟩
 | true =>
  cases hc1 : alB wdB 1 6 to with
  | false =>
   have H := Lib.hid (show false = hdB 6 fr to nm al tk n by unfold hdB; simp [hc1])
   have HC0 := Lib.hid hc0
   clear hc0
   have HC1 := Lib.hid hc1
   clear hc1
   have p0 : W0.cell? ⟨w.heap.size, 0, none⟩ = some (.int .i64 6) := X1.out.cell 0
   obtain ⟨p1, p2, p3, p4, p5, p6⟩ := X1.out.c7
   have q0 := X2.out.free 0
   have r0 : W0.cell? ⟨w.heap.size + 1, 0, none⟩ = some (.int .i64 0) := X2.out.cell 0
   obtain ⟨r1, r2, r3, r4, r5, r6⟩ := X2.out.c7
   go_enter Tryz.func155, Tryz.ntmps155
   go_wp2_with fail
   rw [HW0.out]
   refine (isWord_any _ _).mono ?_; rintro e w2 ⟨rfl, rfl⟩; rw [HC0.out]
   go_wp2_with fail
   refine (allS_any _ wdB isWord_q 1 6 to _ M1.out (by decide)).mono ?_; rintro e w11 ⟨rfl, hb11⟩; rw [HC1.out]
   have B11 := Lib.hid (B1.out.trans (hb11.mono B1.out.size))
   have X1_1 := Lib.hid (X1.out.below hb11)
   have X2_1 := Lib.hid (X2.out.below hb11)
   have M1_1 := Lib.hid (M1.out.belowT hb11)
   have p0 : w11.cell? ⟨w.heap.size, 0, none⟩ = some (.int .i64 6) := X1_1.out.cell 0
   obtain ⟨p1, p2, p3, p4, p5, p6⟩ := X1_1.out.c7
   have q0 := X2_1.out.free 0
   have r0 : w11.cell? ⟨w.heap.size + 1, 0, none⟩ = some (.int .i64 0) := X2_1.out.cell 0
   obtain ⟨r1, r2, r3, r4, r5, r6⟩ := X2_1.out.c7
   clear hb11
   go_wp2_with fail
   go_ret
   exact ⟨by rw [H.out]; rfl, B11.out.setCell (p := ⟨w.heap.size + 1, 0, none⟩) (show w.heap.size ≤ w.heap.size + 1 by omega) _⟩
  | true =>
   cases hc2 : wdB al with
   | false =>
    have H := Lib.hid (show false = hdB 6 fr to nm al tk n by unfold hdB; simp [hc2])
    have HC0 := Lib.hid hc0
    clear hc0
    have HC1 := Lib.hid hc1
    clear hc1
    have HC2 := Lib.hid hc2
    clear hc2
    have p0 : W0.cell? ⟨w.heap.size, 0, none⟩ = some (.int .i64 6) := X1.out.cell 0
    obtain ⟨p1, p2, p3, p4, p5, p6⟩ := X1.out.c7
    have q0 := X2.out.free 0
    have r0 : W0.cell? ⟨w.heap.size + 1, 0, none⟩ = some (.int .i64 0) := X2.out.cell 0
    obtain ⟨r1, r2, r3, r4, r5, r6⟩ := X2.out.c7
    go_enter Tryz.func155, Tryz.ntmps155
    go_wp2_with fail
    rw [HW0.out]
    refine (isWord_any _ _).mono ?_; rintro e w2 ⟨rfl, rfl⟩; rw [HC0.out]
    go_wp2_with fail
    refine (allS_any _ wdB isWord_q 1 6 to _ M1.out (by decide)).mono ?_; rintro e w11 ⟨rfl, hb11⟩; rw [HC1.out]
    have B11 := Lib.hid (B1.out.trans (hb11.mono B1.out.size))
    have X1_1 := Lib.hid (X1.out.below hb11)
    have X2_1 := Lib.hid (X2.out.below hb11)
    have M1_1 := Lib.hid (M1.out.belowT hb11)
    have p0 : w11.cell? ⟨w.heap.size, 0, none⟩ = some (.int .i64 6) := X1_1.out.cell 0
    obtain ⟨p1, p2, p3, p4, p5, p6⟩ := X1_1.out.c7
    have q0 := X2_1.out.free 0
    have r0 : w11.cell? ⟨w.heap.size + 1, 0, none⟩ = some (.int .i64 0) := X2_1.out.cell 0
    obtain ⟨r1, r2, r3, r4, r5, r6⟩ := X2_1.out.c7
    clear hb11
    go_wp2_with fail
    refine (isWord_any _ _).mono ?_; rintro e w2 ⟨rfl, rfl⟩; rw [HC2.out]
    go_wp2_with fail
    go_ret
    exact ⟨by rw [H.out]; rfl, B11.out.setCell (p := ⟨w.heap.size + 1, 0, none⟩) (show w.heap.size ≤ w.heap.size + 1 by omega) _⟩
   | true =>
    have H := Lib.hid (show shB 6 fr to nm al tk n 6 [] to nm al 0 0 = hdB 6 fr to nm al tk n by unfold shB hdB; simp [hc0, hc1, hc2])
    have HC0 := Lib.hid hc0
    clear hc0
    have HC1 := Lib.hid hc1
    clear hc1
    have HC2 := Lib.hid hc2
    clear hc2
    have p0 : W0.cell? ⟨w.heap.size, 0, none⟩ = some (.int .i64 6) := X1.out.cell 0
    obtain ⟨p1, p2, p3, p4, p5, p6⟩ := X1.out.c7
    have q0 := X2.out.free 0
    have r0 : W0.cell? ⟨w.heap.size + 1, 0, none⟩ = some (.int .i64 0) := X2.out.cell 0
    obtain ⟨r1, r2, r3, r4, r5, r6⟩ := X2.out.c7
    go_enter Tryz.func155, Tryz.ntmps155
    go_wp2_with fail
    rw [HW0.out]
    refine (isWord_any _ _).mono ?_; rintro e w2 ⟨rfl, rfl⟩; rw [HC0.out]
    go_wp2_with fail
    refine (allS_any _ wdB isWord_q 1 6 to _ M1.out (by decide)).mono ?_; rintro e w11 ⟨rfl, hb11⟩; rw [HC1.out]
    have B11 := Lib.hid (B1.out.trans (hb11.mono B1.out.size))
    have X1_1 := Lib.hid (X1.out.below hb11)
    have X2_1 := Lib.hid (X2.out.below hb11)
    have M1_1 := Lib.hid (M1.out.belowT hb11)
    have p0 : w11.cell? ⟨w.heap.size, 0, none⟩ = some (.int .i64 6) := X1_1.out.cell 0
    obtain ⟨p1, p2, p3, p4, p5, p6⟩ := X1_1.out.c7
    have q0 := X2_1.out.free 0
    have r0 : w11.cell? ⟨w.heap.size + 1, 0, none⟩ = some (.int .i64 0) := X2_1.out.cell 0
    obtain ⟨r1, r2, r3, r4, r5, r6⟩ := X2_1.out.c7
    clear hb11
    go_wp2_with fail
    refine (isWord_any _ _).mono ?_; rintro e w2 ⟨rfl, rfl⟩; rw [HC2.out]
    have Z1 := X1_1.out.other (c := w.heap.size + 1) (i := 0) (u := .int .i64 6) (show w.heap.size ≠ w.heap.size + 1 by omega)
    have Z2 : Bx (w11.setCell ⟨w.heap.size + 1, 0, none⟩ (.int .i64 6)) (w.heap.size + 1) 70 #[.int .i64 6, .string ⟨#[]⟩, .slice At m1 ct, .string (ofL nm), .string (ofL al), .int .i64 0, .slice none 0 0] := X2_1.out.set 0 (.int .i64 6)
    have M9 := Lib.hid (show Lies (w11.setCell ⟨w.heap.size + 1, 0, none⟩ (.int .i64 6)) (fun k => S k ∧ k < w.heap.size) (.slice At m1 ct) (dL to) from (MM.out.belowT B11.out).set (by intro hS; omega))
    have B9 := Lib.hid (B11.out.setCell (p := ⟨w.heap.size + 1, 0, none⟩) (show w.heap.size ≤ w.heap.size + 1 by omega) (.int .i64 6))
    obtain ⟨W9, hW9⟩ : ∃ W, w11.setCell ⟨w.heap.size + 1, 0, none⟩ (.int .i64 6) = W := ⟨_, rfl⟩
    rw [hW9] at Z1 Z2 M9 B9
    have HW9 := Lib.hid hW9
    clear hW9
    have z0 : W9.cell? ⟨w.heap.size, 0, none⟩ = some (.int .i64 6) := Z1.cell 0
    obtain ⟨z1, z2, z3, z4, z5, z6⟩ := Z1.c7
    have y0 : W9.cell? ⟨w.heap.size + 1, 0, none⟩ = some (.int .i64 6) := Z2.cell 0
    obtain ⟨y1, y2, y3, y4, y5, y6⟩ := Z2.c7
    clear Z1 Z2
    go_wp2_with fail
    rw [HW9.out]
    refine (sameHead_any 6 tk 6 0 fr nm al [] nm al to to _ _ A none n c 0 0 M9.out M9.out (by have := (al_iff0 HC1.out).2; omega)).mono ?_
    rintro e w8 ⟨rfl, hb8⟩; rw [H.out]
    have B8 := Lib.hid (B9.out.trans (hb8.mono B9.out.size))
    clear hb8
    go_wp2_with fail
    go_ret
    exact ⟨rfl, B8.out⟩
set_option maxHeartbeats 8000000 in
theorem vItem3_any (tk : Int) (fr nm al : Bs) (to : List Bs) (v1 : Value) (A : Option Addr) (n c : Nat) (L1 : Lies w S v1 (dL to)) :
  Calls Tryz.prog 155 #[.agg #[.int .i64 3, .string (ofL fr), v1, .string (ofL nm), .string (ofL al), .int .i64 tk, .slice A n c]] w (Tells w (.bool (hdB 3 fr to nm al tk n))) := by
 obtain ⟨At, m1, ct, rfl, -⟩ := L1.slc
 obtain ⟨W0, hW0⟩ : ∃ W, (w.alloc (.cells #[.int .i64 3, .string (ofL fr), .slice At m1 ct, .string (ofL nm), .string (ofL al), .int .i64 tk, .slice A n c] 70)).alloc (.cells #[.int .i64 0, .string ⟨#[]⟩, .slice none 0 0, .string (ofL nm), .string ⟨#[]⟩, .int .i64 0, .slice A n c] 70) = W := ⟨_, rfl⟩
 have B1 := Lib.hid (show Below w.heap.size w W0 by rw [← hW0]; exact ((Below.refl _ w).alloc (Nat.le_refl _) _).alloc (by simp) _)
 have X1 := Lib.hid (show Bx W0 w.heap.size 70 #[.int .i64 3, .string (ofL fr), .slice At m1 ct, .string (ofL nm), .string (ofL al), .int .i64 tk, .slice A n c] by rw [← hW0]; exact (Bx.new w _ _).alloc _)
 have X2 := Lib.hid (show Bx W0 (w.heap.size + 1) 70 #[.int .i64 0, .string ⟨#[]⟩, .slice none 0 0, .string (ofL nm), .string ⟨#[]⟩, .int .i64 0, .slice A n c] by rw [← hW0]; exact Bx.new2 (size_alloc _ _))
 have M1 := Lib.hid (L1.belowT B1.out)
 have MM := Lib.hid (show Lies w (fun k => S k ∧ k < w.heap.size) (.slice At m1 ct) (dL to) from L1.mono fun k hk hS => ⟨hS, hk⟩)
 clear L1
 have HW0 := Lib.hid hW0
 clear hW0
 cases hc0 : paB nm with
 | false =>
  have H := Lib.hid (show false = hdB 3 fr to nm al tk n by unfold hdB; simp [hc0])
  have HC0 := Lib.hid hc0
  clear hc0
  have p0 : W0.cell? ⟨w.heap.size, 0, none⟩ = some (.int .i64 3) := X1.out.cell 0
  obtain ⟨p1, p2, p3, p4, p5, p6⟩ := X1.out.c7
  have q0 := X2.out.free 0
  have r0 : W0.cell? ⟨w.heap.size + 1, 0, none⟩ = some (.int .i64 0) := X2.out.cell 0
  obtain ⟨r1, r2, r3, r4, r5, r6⟩ := X2.out.c7
  go_enter Tryz.func155, Tryz.ntmps155
  go_wp2_with fail
  rw [HW0.out]
  refine (isPath_any _ _).mono ?_; rintro e w11 ⟨rfl, hb11⟩; rw [HC0.out]
  have B11 := Lib.hid (B1.out.trans (hb11.mono B1.out.size))
  have X1_1 := Lib.hid (X1.out.below hb11)
  have X2_1 := Lib.hid (X2.out.below hb11)
  have M1_1 := Lib.hid (M1.out.belowT hb11)
  have p0 : w11.cell? ⟨w.heap.size, 0, none⟩ = some (.int .i64 3) := X1_1.out.cell 0
  obtain ⟨p1, p2, p3, p4, p5, p6⟩ := X1_1.out.c7
  have q0 := X2_1.out.free 0
  have r0 : w11.cell? ⟨w.heap.size + 1, 0, none⟩ = some (.int .i64 0) := X2_1.out.cell 0
  obtain ⟨r1, r2, r3, r4, r5, r6⟩ := X2_1.out.c7
  clear hb11
  go_wp2_with fail
  go_ret
  exact ⟨by rw [H.out]; rfl, B11.out.setCell (p := ⟨w.heap.size + 1, 0, none⟩) (show w.heap.size ≤ w.heap.size + 1 by omega) _⟩
 | true =>
  cases hc1 : decide (n = 1) with
  | false =>
   have H := Lib.hid (show false = hdB 3 fr to nm al tk n by unfold hdB; simp [hc1])
   have HC0 := Lib.hid hc0
   clear hc0
   have hbn : ((n : Int) == 1) = false := (by have := of_decide_eq_false hc1; rw [beq_eq_false_iff_ne]; omega)
   clear hc1
   have p0 : W0.cell? ⟨w.heap.size, 0, none⟩ = some (.int .i64 3) := X1.out.cell 0
   obtain ⟨p1, p2, p3, p4, p5, p6⟩ := X1.out.c7
   have q0 := X2.out.free 0
   have r0 : W0.cell? ⟨w.heap.size + 1, 0, none⟩ = some (.int .i64 0) := X2.out.cell 0
   obtain ⟨r1, r2, r3, r4, r5, r6⟩ := X2.out.c7
   go_enter Tryz.func155, Tryz.ntmps155
   go_wp2_with fail
   rw [HW0.out]
   refine (isPath_any _ _).mono ?_; rintro e w11 ⟨rfl, hb11⟩; rw [HC0.out]
   have B11 := Lib.hid (B1.out.trans (hb11.mono B1.out.size))
   have X1_1 := Lib.hid (X1.out.below hb11)
   have X2_1 := Lib.hid (X2.out.below hb11)
   have M1_1 := Lib.hid (M1.out.belowT hb11)
   have p0 : w11.cell? ⟨w.heap.size, 0, none⟩ = some (.int .i64 3) := X1_1.out.cell 0
   obtain ⟨p1, p2, p3, p4, p5, p6⟩ := X1_1.out.c7
   have q0 := X2_1.out.free 0
   have r0 : w11.cell? ⟨w.heap.size + 1, 0, none⟩ = some (.int .i64 0) := X2_1.out.cell 0
   obtain ⟨r1, r2, r3, r4, r5, r6⟩ := X2_1.out.c7
   clear hb11
   go_wp2_with fail
   go_ret
   exact ⟨by rw [H.out]; rfl, B11.out.setCell (p := ⟨w.heap.size + 1, 0, none⟩) (show w.heap.size ≤ w.heap.size + 1 by omega) _⟩
  | true =>
   have H := Lib.hid (show shB 3 fr to nm al tk n 3 [] [] nm [] 0 n = hdB 3 fr to nm al tk n by unfold shB hdB; simp [hc0, hc1])
   have HC0 := Lib.hid hc0
   clear hc0
   have hbn : ((n : Int) == 1) = true := (by have := of_decide_eq_true hc1; rw [beq_iff_eq]; omega)
   clear hc1
   have p0 : W0.cell? ⟨w.heap.size, 0, none⟩ = some (.int .i64 3) := X1.out.cell 0
   obtain ⟨p1, p2, p3, p4, p5, p6⟩ := X1.out.c7
   have q0 := X2.out.free 0
   have r0 : W0.cell? ⟨w.heap.size + 1, 0, none⟩ = some (.int .i64 0) := X2.out.cell 0
   obtain ⟨r1, r2, r3, r4, r5, r6⟩ := X2.out.c7
   go_enter Tryz.func155, Tryz.ntmps155
   go_wp2_with fail
   rw [HW0.out]
   refine (isPath_any _ _).mono ?_; rintro e w11 ⟨rfl, hb11⟩; rw [HC0.out]
   have B11 := Lib.hid (B1.out.trans (hb11.mono B1.out.size))
   have X1_1 := Lib.hid (X1.out.below hb11)
   have X2_1 := Lib.hid (X2.out.below hb11)
   have M1_1 := Lib.hid (M1.out.belowT hb11)
   have p0 : w11.cell? ⟨w.heap.size, 0, none⟩ = some (.int .i64 3) := X1_1.out.cell 0
   obtain ⟨p1, p2, p3, p4, p5, p6⟩ := X1_1.out.c7
   have q0 := X2_1.out.free 0
   have r0 : w11.cell? ⟨w.heap.size + 1, 0, none⟩ = some (.int .i64 0) := X2_1.out.cell 0
   obtain ⟨r1, r2, r3, r4, r5, r6⟩ := X2_1.out.c7
   clear hb11
   have Z1 := X1_1.out.other (c := w.heap.size + 1) (i := 0) (u := .int .i64 3) (show w.heap.size ≠ w.heap.size + 1 by omega)
   have Z2 : Bx (w11.setCell ⟨w.heap.size + 1, 0, none⟩ (.int .i64 3)) (w.heap.size + 1) 70 #[.int .i64 3, .string ⟨#[]⟩, .slice none 0 0, .string (ofL nm), .string ⟨#[]⟩, .int .i64 0, .slice A n c] := X2_1.out.set 0 (.int .i64 3)
   have M9 := Lib.hid (show Lies (w11.setCell ⟨w.heap.size + 1, 0, none⟩ (.int .i64 3)) (fun k => S k ∧ k < w.heap.size) (.slice At m1 ct) (dL to) from (MM.out.belowT B11.out).set (by intro hS; omega))
   have B9 := Lib.hid (B11.out.setCell (p := ⟨w.heap.size + 1, 0, none⟩) (show w.heap.size ≤ w.heap.size + 1 by omega) (.int .i64 3))
   obtain ⟨W9, hW9⟩ : ∃ W, w11.setCell ⟨w.heap.size + 1, 0, none⟩ (.int .i64 3) = W := ⟨_, rfl⟩
   rw [hW9] at Z1 Z2 M9 B9
   have HW9 := Lib.hid hW9
   clear hW9
   have z0 : W9.cell? ⟨w.heap.size, 0, none⟩ = some (.int .i64 3) := Z1.cell 0
   obtain ⟨z1, z2, z3, z4, z5, z6⟩ := Z1.c7
   have y0 : W9.cell? ⟨w.heap.size + 1, 0, none⟩ = some (.int .i64 3) := Z2.cell 0
   obtain ⟨y1, y2, y3, y4, y5, y6⟩ := Z2.c7
   clear Z1 Z2
   go_wp2_with fail
   rw [HW9.out]
   refine (sameHead_any 3 tk 3 0 fr nm al [] nm [] to [] _ _ A A n c n c M9.out (Lies.nil 1 : Lies W9 S (.slice none 0 0) (.s 1 [])) (by intro h; rw [h]; exact Nat.zero_le _)).mono ?_
   rintro e w8 ⟨rfl, hb8⟩; rw [H.out]
   have B8 := Lib.hid (B9.out.trans (hb8.mono B9.out.size))
   clear hb8
   go_wp2_with fail
   go_ret
   exact ⟨rfl, B8.out⟩
end
end Go.Proofs.YtekpefcggikcbaaGreatDoor
