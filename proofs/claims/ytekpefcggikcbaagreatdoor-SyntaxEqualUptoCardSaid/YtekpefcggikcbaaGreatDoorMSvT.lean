/- Layer 10: what Valid asks: the contracts of validTerm, isOp, validAtom and validMessage. -/
import Derived.Test.YtekpefcggikcbaaGreatDoorMSvD
import Derived.Test.YtekpefcggikcbaaGreatDoorSvJ
import Derived.Test.YtekpefcggikcbaaGreatDoorMSynQ
namespace Go.Proofs.YtekpefcggikcbaaGreatDoor
/- Layer 10: what Valid asks: the contracts of validTerm, isOp, validAtom and validMessage. -/
open Go.RowKit

def vtB (t : Tm) : Bool :=
 if t.k = 1 then decide (t.m = []) && (decide (t.f = []) && cnB t.n)
 else if t.k = 2 ∨ t.k = 3 then (decide (t.m = []) || paB t.m) && (wdB t.f && cnB t.n) else false
def vaB (a : Am) : Bool := vtB a.l && (opB a.op && vtB a.r)
def vmB (m : Ms) : Bool := paB m.nm && (alB vfB 0 4 m.fs && alB vaB 0 6 m.wh)
section
variable {w w' : World} {S : Nat → Prop}
set_option maxHeartbeats 4000000 in
theorem validTerm_any (t : Tm) : Calls Tryz.prog 203 #[vT t] w (Tells w (.bool (vtB t))) := by
 obtain ⟨k, m, f, n⟩ := t
 obtain ⟨W0, hW0⟩ : ∃ W0, w.alloc (.cells #[.int .i64 k, .string (ofL m), .string (ofL f), .int .i64 n] 98) = W0 := ⟨_, rfl⟩
 have B1 := Lib.hid (show Below w.heap.size w W0 by rw [← hW0]; exact (Below.refl _ w).alloc (Nat.le_refl _) _)
 have X0 := Lib.hid (show W0.heap[w.heap.size]? = some (.cells #[.int .i64 k, .string (ofL m), .string (ofL f), .int .i64 n] 98 (0, 0)) by rw [← hW0]; exact heap_alloc_new w _)
 have k0 : W0.cell? ⟨w.heap.size, 0, none⟩ = some (.int .i64 k) := cell_of_row W0 _ 0 _ _ _ X0.out
 have k1 : W0.cell? ⟨w.heap.size, 1, none⟩ = some (.string (ofL m)) := cell_of_row W0 _ 1 _ _ _ X0.out
 have k2 : W0.cell? ⟨w.heap.size, 2, none⟩ = some (.string (ofL f)) := cell_of_row W0 _ 2 _ _ _ X0.out
 have k3 : W0.cell? ⟨w.heap.size, 3, none⟩ = some (.int .i64 n) := cell_of_row W0 _ 3 _ _ _ X0.out
 have hm : (ofL m).toList = m := ofL_toList m
 have hf : (ofL f).toList = f := ofL_toList f
 unfold vT
 by_cases h1 : k = 1
 ·have e1 : (k == 1) = true := by simpa using h1
  by_cases hme : m = []
  ·have e2 : m.isEmpty = true := by simp [hme]
   by_cases hfe : f = []
   ·have e3 : f.isEmpty = true := by simp [hfe]
    have H := Lib.hid (show cnB n = vtB ⟨k, m, f, n⟩ by unfold vtB; rw [if_pos h1]; simp [hme, hfe])
    clear h1 hme hfe
    go_enter Tryz.func203, Tryz.ntmps203
    go_wp2_with fail
    refine (isConst_any _).mono ?_; rintro e w2 ⟨rfl, rfl⟩; rw [H.out]
    go_wp2_with fail
    go_ret
    exact ⟨rfl, B1.out⟩
   ·have e3 : f.isEmpty = false := by simp [hfe]
    have H := Lib.hid (show false = vtB ⟨k, m, f, n⟩ by unfold vtB; rw [if_pos h1]; simp [hfe])
    clear h1 hme hfe
    go_enter Tryz.func203, Tryz.ntmps203
    go_wp2_with fail
    go_ret
    exact ⟨by rw [H.out]; rfl, B1.out⟩
  ·have e2 : m.isEmpty = false := by simp [hme]
   have H := Lib.hid (show false = vtB ⟨k, m, f, n⟩ by unfold vtB; rw [if_pos h1]; simp [hme])
   clear h1 hme
   go_enter Tryz.func203, Tryz.ntmps203
   go_wp2_with fail
   go_ret
   exact ⟨by rw [H.out]; rfl, B1.out⟩
 ·have e1 : (k == 1) = false := by simpa using h1
  have hG : ∀ (hk : k = 2 ∨ k = 3), vtB ⟨k, m, f, n⟩ = ((decide (m = []) || paB m) && (wdB f && cnB n)) := fun hk => by unfold vtB; rw [if_neg h1, if_pos hk]
  by_cases h23 : k = 2 ∨ k = 3
  ·have hG := hG h23
   by_cases h2 : k = 2
   ·have e4 : (k == 2) = true := by simpa using h2
    clear h2
    by_cases hme : m = []
    ·have e2 : m.isEmpty = true := by simp [hme]
     cases hb : wdB f with
     | false =>
      have H := Lib.hid (show false = vtB ⟨k, m, f, n⟩ by rw [hG, hb]; simp)
      have HW := Lib.hid hb
      clear hb hG h1 h23 hme
      go_enter Tryz.func203, Tryz.ntmps203
      go_wp2_with fail
      refine (isWord_any _ _).mono ?_; rintro e w2 ⟨rfl, rfl⟩; rw [HW.out]
      go_wp2_with fail
      go_ret
      exact ⟨by rw [H.out]; rfl, B1.out⟩
     | true =>
      have H := Lib.hid (show cnB n = vtB ⟨k, m, f, n⟩ by rw [hG, hb]; simp [hme])
      have HW := Lib.hid hb
      clear hb hG h1 h23 hme
      go_enter Tryz.func203, Tryz.ntmps203
      go_wp2_with fail
      refine (isWord_any _ _).mono ?_; rintro e w2 ⟨rfl, rfl⟩; rw [HW.out]
      go_wp2_with fail
      refine (isConst_any _).mono ?_; rintro e w2 ⟨rfl, rfl⟩; rw [H.out]
      go_wp2_with fail
      go_ret
      exact ⟨rfl, B1.out⟩
    ·have e2 : m.isEmpty = false := by simp [hme]
     cases hp : paB m with
     | false =>
      have H := Lib.hid (show false = vtB ⟨k, m, f, n⟩ by rw [hG, hp]; simp [hme])
      have HP := Lib.hid hp
      clear hp hG h1 h23 hme
      go_enter Tryz.func203, Tryz.ntmps203
      go_wp2_with fail
      refine (isPath_any _ _).mono ?_; rintro e w3 ⟨rfl, hb3⟩; rw [HP.out]
      have B3 := Lib.hid (B1.out.trans (hb3.mono B1.out.size))
      clear hb3
      go_wp2_with fail
      go_ret
      exact ⟨by rw [H.out]; rfl, B3.out⟩
     | true =>
      have q2 : ∀ W : World, Below W0.heap.size W0 W → W.cell? ⟨w.heap.size, 2, none⟩ = some (.string (ofL f)) := fun W hW => by rw [hW.cell (p := ⟨w.heap.size, 2, none⟩) (World.block_lt_of_cell? _ _ k2)]; exact k2
      have q3 : ∀ W : World, Below W0.heap.size W0 W → W.cell? ⟨w.heap.size, 3, none⟩ = some (.int .i64 n) := fun W hW => by rw [hW.cell (p := ⟨w.heap.size, 3, none⟩) (World.block_lt_of_cell? _ _ k3)]; exact k3
      cases hb : wdB f with
      | false =>
       have H := Lib.hid (show false = vtB ⟨k, m, f, n⟩ by rw [hG, hb]; simp)
       have HW := Lib.hid hb
       have HP := Lib.hid hp
       clear hb hp hG h1 h23 hme
       go_enter Tryz.func203, Tryz.ntmps203
       go_wp2_with fail
       refine (isPath_any _ _).mono ?_; rintro e w3 ⟨rfl, hb3⟩; rw [HP.out]
       have B3 := Lib.hid (B1.out.trans (hb3.mono B1.out.size))
       have r2 := q2 w3 hb3
       have r3 := q3 w3 hb3
       clear hb3 q2 q3
       go_wp2_with fail
       refine (isWord_any _ _).mono ?_; rintro e w2 ⟨rfl, rfl⟩; rw [HW.out]
       go_wp2_with fail
       go_ret
       exact ⟨by rw [H.out]; rfl, B3.out⟩
      | true =>
       have H := Lib.hid (show cnB n = vtB ⟨k, m, f, n⟩ by rw [hG, hb, hp]; simp)
       have HW := Lib.hid hb
       have HP := Lib.hid hp
       clear hb hp hG h1 h23 hme
       go_enter Tryz.func203, Tryz.ntmps203
       go_wp2_with fail
       refine (isPath_any _ _).mono ?_; rintro e w3 ⟨rfl, hb3⟩; rw [HP.out]
       have B3 := Lib.hid (B1.out.trans (hb3.mono B1.out.size))
       have r2 := q2 w3 hb3
       have r3 := q3 w3 hb3
       clear hb3 q2 q3
       go_wp2_with fail
       refine (isWord_any _ _).mono ?_; rintro e w2 ⟨rfl, rfl⟩; rw [HW.out]
       go_wp2_with fail
       refine (isConst_any _).mono ?_; rintro e w2 ⟨rfl, rfl⟩; rw [H.out]
       go_wp2_with fail
       go_ret
       exact ⟨rfl, B3.out⟩
   ·have e4 : (k == 2) = false := by simpa using h2
    have e5 : (k == 3) = true := by have : k = 3 := (by omega); simpa using this
    clear h2
    by_cases hme : m = []
    ·have e2 : m.isEmpty = true := by simp [hme]
     cases hb : wdB f with
     | false =>
      have H := Lib.hid (show false = vtB ⟨k, m, f, n⟩ by rw [hG, hb]; simp)
      have HW := Lib.hid hb
      clear hb hG h1 h23 hme
      go_enter Tryz.func203, Tryz.ntmps203
      go_wp2_with fail
      refine (isWord_any _ _).mono ?_; rintro e w2 ⟨rfl, rfl⟩; rw [HW.out]
      go_wp2_with fail
      go_ret
      exact ⟨by rw [H.out]; rfl, B1.out⟩
     | true =>
      have H := Lib.hid (show cnB n = vtB ⟨k, m, f, n⟩ by rw [hG, hb]; simp [hme])
      have HW := Lib.hid hb
      clear hb hG h1 h23 hme
      go_enter Tryz.func203, Tryz.ntmps203
      go_wp2_with fail
      refine (isWord_any _ _).mono ?_; rintro e w2 ⟨rfl, rfl⟩; rw [HW.out]
      go_wp2_with fail
      refine (isConst_any _).mono ?_; rintro e w2 ⟨rfl, rfl⟩; rw [H.out]
      go_wp2_with fail
      go_ret
      exact ⟨rfl, B1.out⟩
    ·have e2 : m.isEmpty = false := by simp [hme]
     cases hp : paB m with
     | false =>
      have H := Lib.hid (show false = vtB ⟨k, m, f, n⟩ by rw [hG, hp]; simp [hme])
      have HP := Lib.hid hp
      clear hp hG h1 h23 hme
      go_enter Tryz.func203, Tryz.ntmps203
      go_wp2_with fail
      refine (isPath_any _ _).mono ?_; rintro e w3 ⟨rfl, hb3⟩; rw [HP.out]
      have B3 := Lib.hid (B1.out.trans (hb3.mono B1.out.size))
      clear hb3
      go_wp2_with fail
      go_ret
      exact ⟨by rw [H.out]; rfl, B3.out⟩
     | true =>
      have q2 : ∀ W : World, Below W0.heap.size W0 W → W.cell? ⟨w.heap.size, 2, none⟩ = some (.string (ofL f)) := fun W hW => by rw [hW.cell (p := ⟨w.heap.size, 2, none⟩) (World.block_lt_of_cell? _ _ k2)]; exact k2
      have q3 : ∀ W : World, Below W0.heap.size W0 W → W.cell? ⟨w.heap.size, 3, none⟩ = some (.int .i64 n) := fun W hW => by rw [hW.cell (p := ⟨w.heap.size, 3, none⟩) (World.block_lt_of_cell? _ _ k3)]; exact k3
      cases hb : wdB f with
      | false =>
       have H := Lib.hid (show false = vtB ⟨k, m, f, n⟩ by rw [hG, hb]; simp)
       have HW := Lib.hid hb
       have HP := Lib.hid hp
       clear hb hp hG h1 h23 hme
       go_enter Tryz.func203, Tryz.ntmps203
       go_wp2_with fail
       refine (isPath_any _ _).mono ?_; rintro e w3 ⟨rfl, hb3⟩; rw [HP.out]
       have B3 := Lib.hid (B1.out.trans (hb3.mono B1.out.size))
       have r2 := q2 w3 hb3
       have r3 := q3 w3 hb3
       clear hb3 q2 q3
       go_wp2_with fail
       refine (isWord_any _ _).mono ?_; rintro e w2 ⟨rfl, rfl⟩; rw [HW.out]
       go_wp2_with fail
       go_ret
       exact ⟨by rw [H.out]; rfl, B3.out⟩
      | true =>
       have H := Lib.hid (show cnB n = vtB ⟨k, m, f, n⟩ by rw [hG, hb, hp]; simp)
       have HW := Lib.hid hb
       have HP := Lib.hid hp
       clear hb hp hG h1 h23 hme
       go_enter Tryz.func203, Tryz.ntmps203
       go_wp2_with fail
       refine (isPath_any _ _).mono ?_; rintro e w3 ⟨rfl, hb3⟩; rw [HP.out]
       have B3 := Lib.hid (B1.out.trans (hb3.mono B1.out.size))
       have r2 := q2 w3 hb3
       have r3 := q3 w3 hb3
       clear hb3 q2 q3
       go_wp2_with fail
       refine (isWord_any _ _).mono ?_; rintro e w2 ⟨rfl, rfl⟩; rw [HW.out]
       go_wp2_with fail
       refine (isConst_any _).mono ?_; rintro e w2 ⟨rfl, rfl⟩; rw [H.out]
       go_wp2_with fail
       go_ret
       exact ⟨rfl, B3.out⟩
  ·have e4 : (k == 2) = false := by rw [beq_eq_false_iff_ne]; omega
   have e5 : (k == 3) = false := by rw [beq_eq_false_iff_ne]; omega
   have H := Lib.hid (show false = vtB ⟨k, m, f, n⟩ by unfold vtB; rw [if_neg h1, if_neg h23])
   clear h1 h23 hG
   go_enter Tryz.func203, Tryz.ntmps203
   go_wp2_with fail
   go_ret
   exact ⟨by rw [H.out]; rfl, B1.out⟩
end
/- Layer 10: what Valid asks: the contracts of validAtom and validMessage. -/
open Go.RowKit

section
variable {w w' : World} {S : Nat → Prop}
set_option maxHeartbeats 4000000 in
theorem validAtom_any (a : Am) : Calls Tryz.prog 154 #[vA a] w (Tells w (.bool (vaB a))) := by
 obtain ⟨⟨a1, a2, a3, a4⟩, op, ⟨b1, b2, b3, b4⟩⟩ := a
 obtain ⟨W0, hW0⟩ : ∃ W, w.alloc (.cells #[.int .i64 a1, .string (ofL a2), .string (ofL a3), .int .i64 a4, .string (ofL op), .int .i64 b1, .string (ofL b2), .string (ofL b3), .int .i64 b4] 100) = W := ⟨_, rfl⟩
 have B1 := Lib.hid (show Below w.heap.size w W0 by rw [← hW0]; exact (Below.refl _ w).alloc (Nat.le_refl _) _)
 have X0 := Lib.hid (show W0.heap[w.heap.size]? = some (.cells #[.int .i64 a1, .string (ofL a2), .string (ofL a3), .int .i64 a4, .string (ofL op), .int .i64 b1, .string (ofL b2), .string (ofL b3), .int .i64 b4] 100 (0, 0)) by rw [← hW0]; exact heap_alloc_new w _)
 have QX := Lib.hid (show ∀ W : World, Below W0.heap.size W0 W → W.heap[w.heap.size]? = some (.cells #[.int .i64 a1, .string (ofL a2), .string (ofL a3), .int .i64 a4, .string (ofL op), .int .i64 b1, .string (ofL b2), .string (ofL b3), .int .i64 b4] 100 (0, 0)) from fun W hW => (hW.block _ (World.block_lt_of_cell? _ _ (cell_of_row W0 _ 0 _ _ _ X0.out))).trans X0.out)
 have k0 : W0.cell? ⟨w.heap.size, 0, none⟩ = some (.int .i64 a1) := cell_of_row W0 _ 0 _ _ _ X0.out
 have k1 : W0.cell? ⟨w.heap.size, 1, none⟩ = some (.string (ofL a2)) := cell_of_row W0 _ 1 _ _ _ X0.out
 have k2 : W0.cell? ⟨w.heap.size, 2, none⟩ = some (.string (ofL a3)) := cell_of_row W0 _ 2 _ _ _ X0.out
 have k3 : W0.cell? ⟨w.heap.size, 3, none⟩ = some (.int .i64 a4) := cell_of_row W0 _ 3 _ _ _ X0.out
 have k4 : W0.cell? ⟨w.heap.size, 4, none⟩ = some (.string (ofL op)) := cell_of_row W0 _ 4 _ _ _ X0.out
 have k5 : W0.cell? ⟨w.heap.size, 5, none⟩ = some (.int .i64 b1) := cell_of_row W0 _ 5 _ _ _ X0.out
 have k6 : W0.cell? ⟨w.heap.size, 6, none⟩ = some (.string (ofL b2)) := cell_of_row W0 _ 6 _ _ _ X0.out
 have k7 : W0.cell? ⟨w.heap.size, 7, none⟩ = some (.string (ofL b3)) := cell_of_row W0 _ 7 _ _ _ X0.out
 have k8 : W0.cell? ⟨w.heap.size, 8, none⟩ = some (.int .i64 b4) := cell_of_row W0 _ 8 _ _ _ X0.out
 have HA := Lib.hid (validTerm_any (w := W0) ⟨a1, a2, a3, a4⟩)
 unfold vT at HA
 unfold vA
 cases hl : vtB ⟨a1, a2, a3, a4⟩ with
 | false =>
  have H := Lib.hid (show false = vaB ⟨⟨a1, a2, a3, a4⟩, op, ⟨b1, b2, b3, b4⟩⟩ by unfold vaB; simp [hl])
  have HLL := Lib.hid hl
  clear hl
  go_enter Tryz.func154, Tryz.ntmps154
  go_wp2_with fail
  refine HA.out.mono ?_; rintro e w3 ⟨rfl, hb3⟩; rw [HLL.out]
  have B3 := Lib.hid (B1.out.trans (hb3.mono B1.out.size))
  clear hb3
  go_wp2_with fail
  go_ret
  exact ⟨by rw [H.out]; rfl, B3.out⟩
 | true =>
  cases ho : opB op with
  | false =>
   have H := Lib.hid (show false = vaB ⟨⟨a1, a2, a3, a4⟩, op, ⟨b1, b2, b3, b4⟩⟩ by unfold vaB; simp [ho])
   have HLL := Lib.hid hl
   have HO := Lib.hid ho
   clear hl ho
   go_enter Tryz.func154, Tryz.ntmps154
   go_wp2_with fail
   refine HA.out.mono ?_; rintro e w3 ⟨rfl, hb3⟩; rw [HLL.out]
   have B3 := Lib.hid (B1.out.trans (hb3.mono B1.out.size))
   have Ym := QX.out _ hb3
   have m4 : (w3).cell? ⟨w.heap.size, 4, none⟩ = some (.string (ofL op)) := cell_of_row _ _ 4 _ _ _ Ym
   clear Ym
   clear hb3
   go_wp2_with fail
   refine (isOp_any _ _).mono ?_; rintro e w4 ⟨rfl, rfl⟩; rw [HO.out]
   go_wp2_with fail
   go_ret
   exact ⟨by rw [H.out]; rfl, B3.out⟩
  | true =>
   have H := Lib.hid (show vtB ⟨b1, b2, b3, b4⟩ = vaB ⟨⟨a1, a2, a3, a4⟩, op, ⟨b1, b2, b3, b4⟩⟩ by unfold vaB; simp [hl, ho])
   have HLL := Lib.hid hl
   have HO := Lib.hid ho
   clear hl ho
   go_enter Tryz.func154, Tryz.ntmps154
   go_wp2_with fail
   refine HA.out.mono ?_; rintro e w3 ⟨rfl, hb3⟩; rw [HLL.out]
   have B3 := Lib.hid (B1.out.trans (hb3.mono B1.out.size))
   have Ym := QX.out _ hb3
   have m4 : (w3).cell? ⟨w.heap.size, 4, none⟩ = some (.string (ofL op)) := cell_of_row _ _ 4 _ _ _ Ym
   have m5 : (w3).cell? ⟨w.heap.size, 5, none⟩ = some (.int .i64 b1) := cell_of_row _ _ 5 _ _ _ Ym
   have m6 : (w3).cell? ⟨w.heap.size, 6, none⟩ = some (.string (ofL b2)) := cell_of_row _ _ 6 _ _ _ Ym
   have m7 : (w3).cell? ⟨w.heap.size, 7, none⟩ = some (.string (ofL b3)) := cell_of_row _ _ 7 _ _ _ Ym
   have m8 : (w3).cell? ⟨w.heap.size, 8, none⟩ = some (.int .i64 b4) := cell_of_row _ _ 8 _ _ _ Ym
   clear Ym
   clear hb3
   have HR := Lib.hid (validTerm_any (w := w3) ⟨b1, b2, b3, b4⟩)
   unfold vT at HR
   go_wp2_with fail
   refine (isOp_any _ _).mono ?_; rintro e w4 ⟨rfl, rfl⟩; rw [HO.out]
   go_wp2_with fail
   refine HR.out.mono ?_; rintro e w5 ⟨rfl, hb5⟩; rw [H.out]
   have B5 := Lib.hid (B3.out.trans (hb5.mono B3.out.size))
   clear hb5
   go_wp2_with fail
   go_ret
   exact ⟨rfl, B5.out⟩
theorem ent_validField : ∀ args w, (callFunc 152 args).run Tryz.prog w = .ok (.enter 152 args) w := enters_of Tryz.func152 (by kernel_rfl) rfl
theorem ent_validAtom : ∀ args w, (callFunc 154 args).run Tryz.prog w = .ok (.enter 154 args) w := enters_of Tryz.func154 (by kernel_rfl) rfl
set_option maxHeartbeats 4000000 in
theorem validMessage_any (m : Ms) (v : Value) (hR : RMs S w m v) : Calls Tryz.prog 90 #[v] w (Tells w (.bool (vmB m))) := by
 obtain ⟨v1, v2, rfl, L1, L2⟩ := hR
 obtain ⟨A1, n1, c1, rfl, -⟩ := L1.slc
 obtain ⟨A2, n2, c2, rfl, -⟩ := L2.slc
 obtain ⟨nm, fs, wh⟩ := m
 obtain ⟨W0, hW0⟩ : ∃ W, w.alloc (.cells #[.string (ofL nm), .slice A1 n1 c1, .slice A2 n2 c2] 74) = W := ⟨_, rfl⟩
 have B1 := Lib.hid (show Below w.heap.size w W0 by rw [← hW0]; exact (Below.refl _ w).alloc (Nat.le_refl _) _)
 have X0 := Lib.hid (show W0.heap[w.heap.size]? = some (.cells #[.string (ofL nm), .slice A1 n1 c1, .slice A2 n2 c2] 74 (0, 0)) by rw [← hW0]; exact heap_alloc_new w _)
 have QX := Lib.hid (show ∀ W : World, Below W0.heap.size W0 W → W.heap[w.heap.size]? = some (.cells #[.string (ofL nm), .slice A1 n1 c1, .slice A2 n2 c2] 74 (0, 0)) from fun W hW => (hW.block _ (World.block_lt_of_cell? _ _ (cell_of_row W0 _ 0 _ _ _ X0.out))).trans X0.out)
 have k0 : W0.cell? ⟨w.heap.size, 0, none⟩ = some (.string (ofL nm)) := cell_of_row W0 _ 0 _ _ _ X0.out
 have k1 : W0.cell? ⟨w.heap.size, 1, none⟩ = some (.slice A1 n1 c1) := cell_of_row W0 _ 1 _ _ _ X0.out
 have k2 : W0.cell? ⟨w.heap.size, 2, none⟩ = some (.slice A2 n2 c2) := cell_of_row W0 _ 2 _ _ _ X0.out
 have M1 := Lib.hid (show Lies W0 S (.slice A1 n1 c1) (.s 4 (fs.flatMap dF)) from L1.belowT B1.out)
 have M2 := Lib.hid (show Lies W0 S (.slice A2 n2 c2) (.s 9 (wh.flatMap dA)) from L2.belowT B1.out)
 clear L1 L2
 cases hl : paB nm with
 | false =>
  have H := Lib.hid (show false = vmB ⟨nm, fs, wh⟩ by unfold vmB; simp [hl])
  have HLL := Lib.hid hl
  clear hl
  go_enter Tryz.func90, Tryz.ntmps90
  go_wp2_with fail
  refine (isPath_any _ _).mono ?_; rintro e w3 ⟨rfl, hb3⟩; rw [HLL.out]
  have B3 := Lib.hid (B1.out.trans (hb3.mono B1.out.size))
  clear hb3
  go_wp2_with fail
  go_ret
  exact ⟨by rw [H.out]; rfl, B3.out⟩
 | true =>
  cases ho : alB vfB 0 4 fs with
  | false =>
   have H := Lib.hid (show false = vmB ⟨nm, fs, wh⟩ by unfold vmB; simp [ho])
   have HLL := Lib.hid hl
   have HO := Lib.hid ho
   clear hl ho
   go_enter Tryz.func90, Tryz.ntmps90
   go_wp2_with fail
   refine (isPath_any _ _).mono ?_; rintro e w3 ⟨rfl, hb3⟩; rw [HLL.out]
   have B3 := Lib.hid (B1.out.trans (hb3.mono B1.out.size))
   have Ym := QX.out _ hb3
   have m1 : (w3).cell? ⟨w.heap.size, 1, none⟩ = some (.slice A1 n1 c1) := cell_of_row _ _ 1 _ _ _ Ym
   clear Ym
   have N1 := Lib.hid (M1.out.belowT hb3)
   clear hb3
   go_wp2_with fail
   refine (allF_any _ vfB ⟨ent_validField, fun _ x _ hx => by rw [hx]; exact validField_any x⟩ 0 4 fs _ N1.out (by decide)).mono ?_; rintro e w4 ⟨rfl, hb4⟩; rw [HO.out]
   have B4 := Lib.hid (B3.out.trans (hb4.mono B3.out.size))
   clear hb4
   go_wp2_with fail
   go_ret
   exact ⟨by rw [H.out]; rfl, B4.out⟩
  | true =>
   have H := Lib.hid (show alB vaB 0 6 wh = vmB ⟨nm, fs, wh⟩ by unfold vmB; simp [hl, ho])
   have HLL := Lib.hid hl
   have HO := Lib.hid ho
   clear hl ho
   go_enter Tryz.func90, Tryz.ntmps90
   go_wp2_with fail
   refine (isPath_any _ _).mono ?_; rintro e w3 ⟨rfl, hb3⟩; rw [HLL.out]
   have B3 := Lib.hid (B1.out.trans (hb3.mono B1.out.size))
   have Ym := QX.out _ hb3
   have m1 : (w3).cell? ⟨w.heap.size, 1, none⟩ = some (.slice A1 n1 c1) := cell_of_row _ _ 1 _ _ _ Ym
   clear Ym
   have N1 := Lib.hid (M1.out.belowT hb3)
   go_wp2_with fail
   refine (allF_any _ vfB ⟨ent_validField, fun _ x _ hx => by rw [hx]; exact validField_any x⟩ 0 4 fs _ N1.out (by decide)).mono ?_; rintro e w4 ⟨rfl, hb4⟩; rw [HO.out]
   have B4 := Lib.hid (B3.out.trans (hb4.mono B3.out.size))
   have Yp := QX.out _ (hb3.trans (hb4.mono hb3.size))
   have p2 : (w4).cell? ⟨w.heap.size, 2, none⟩ = some (.slice A2 n2 c2) := cell_of_row _ _ 2 _ _ _ Yp
   clear Yp
   have N2 := Lib.hid (M2.out.belowT (hb3.trans (hb4.mono hb3.size)))
   clear hb3 hb4
   go_wp2_with fail
   refine (allA_any _ vaB ⟨ent_validAtom, fun _ x _ hx => by rw [hx]; exact validAtom_any x⟩ 0 6 wh _ N2.out (by decide)).mono ?_; rintro e w5 ⟨rfl, hb5⟩; rw [H.out]
   have B5 := Lib.hid (B4.out.trans (hb5.mono B4.out.size))
   clear hb5
   go_wp2_with fail
   go_ret
   exact ⟨rfl, B5.out⟩
end
end Go.Proofs.YtekpefcggikcbaaGreatDoor
