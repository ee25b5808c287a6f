/- Layer 10: the contract of IsPath. -/
import Derived.Test.YtekpefcggikcbaaGreatDoorSvI
import Derived.Test.YtekpefcggikcbaaGreatDoorMSynL
namespace Go.Proofs.YtekpefcggikcbaaGreatDoor
open Go.RowKit Go.Shelf
attribute [local go_sem] Oper.semAt_some

set_option maxRecDepth 100000 in
set_option maxHeartbeats 2000000 in
theorem isPath_in (x : Bs) (w : World) :
  CallsIn .wide 9 Tryz.prog 25 #[.string (ofL x)] w fun e w' => e = .returned (.bool (paB x)) ∧ Below w.heap.size w w' := by
 have hz : (ofL x).size = x.length := ofL_size x
 by_cases h50 : x.length ≤ 50
 ·have hc : ¬ ((50 : Int) < (x.length : Int)) := by omega
  have HB := Lib.hid (show paB x = (splB x).all wdB by unfold paB; simp [h50])
  have HL := Lib.hid h50
  clear h50
  refine callsIn_of_wp_marks Tryz.func25 rfl trivial ?_ rfl
  simp only [Tryz.ntmps25, List.size_toArray, List.length_cons, List.length_nil, Nat.reduceAdd, Nat.reduceSub, Array.replicate_succ, Array.replicate_zero, List.push_toArray, List.append_toArray, List.nil_append, List.cons_append]
  gi_wp2
  refine ⟨trivial, (split_make _ (by decide) x _).mono ?_⟩
  rintro e w' ⟨rfl, rfl⟩
  gi_wp2
  obtain ⟨W0, hW0⟩ : ∃ W0, (((w.alloc (.cells #[.bool false] 4)).alloc (.cells #[.string (ofL x)] 9)).alloc (.cells #[.string ⟨#[46]⟩] 9)).alloc (.cells #[.int .i64 0] 3) = W0 := ⟨_, rfl⟩
  have bR : Boxed W0 w.heap.size 4 (.bool false) := by
   rw [← hW0]; exact (((Boxed.new w 4 (.bool false)).alloc _).alloc _).alloc _
  have bS : Boxed W0 (w.heap.size + 1) 9 (.string (ofL x)) := by
   have := Boxed.new (w.alloc (.cells #[.bool false] 4)) 9 (.string (ofL x))
   rw [World.size_alloc] at this
   rw [← hW0]; exact (this.alloc _).alloc _
  have bP : Boxed W0 (w.heap.size + 1 + 1) 9 (.string ⟨#[46]⟩) := by
   have := Boxed.new ((w.alloc (.cells #[.bool false] 4)).alloc (.cells #[.string (ofL x)] 9)) 9 (.string ⟨#[46]⟩)
   rw [World.size_alloc, World.size_alloc] at this
   rw [← hW0]; exact this.alloc _
  have bK : Boxed W0 (w.heap.size + 1 + 2) 3 (.int .i64 0) := by
   have := Boxed.new (((w.alloc (.cells #[.bool false] 4)).alloc (.cells #[.string (ofL x)] 9)).alloc (.cells #[.string ⟨#[46]⟩] 9)) 3 (.int .i64 0)
   rw [World.size_alloc, World.size_alloc, World.size_alloc] at this
   rw [← hW0]; exact this
  have hB0 : Below w.heap.size w W0 := by
   rw [← hW0]; exact ((((Below.refl _ w).alloc (Nat.le_refl _) _).alloc (by simp) _).alloc (by simp; omega) _).alloc (by simp; omega) _
  have hs0 : W0.heap.size = w.heap.size + 4 := by rw [← hW0]; simp
  try rw [hW0]
  refine wp_rangeAll (n := 9) (q := wdB) rfl (by decide) (gf := 169) (lb := #[.pointer (some ⟨w.heap.size + 1 + 1, 0, none⟩), .pointer (some ⟨w.heap.size + 1, 0, none⟩), .pointer (some ⟨w.heap.size + 1 + 2, 0, none⟩)]) rfl trivial (enters_of Tryz.func169 (by kernel_rfl) rfl)
   (enc := fun x : Bs => Value.string (ofL x)) rfl (splB x) (w.heap.size + 1) w.heap.size (.cells #[.bool false] 4 (0, 0)) (by omega) (by omega) (by omega)
   (split1_in 8 (by decide) _ _ _ x (by have := HL.out; omega) W0 bP bS bK (by omega) (by omega))
   (fun y : Bs => { tmps := #[.string (ofL x), undef, .pointer (some ⟨w.heap.size, 0, none⟩), .string (ofL y), .string (ofL x), .int .i64 (x.length : Int), .bool false, .string (ofL x), .func (.func 169) #[] #[.pointer (some ⟨w.heap.size + 1 + 1, 0, none⟩), .pointer (some ⟨w.heap.size + 1, 0, none⟩), .pointer (some ⟨w.heap.size + 1 + 2, 0, none⟩)], .string (ofL y), undef, undef, undef], defers := [] }) ?assign ?body ?done ?stop
  case assign =>
   intro l y W K hK
   gi_wp2
   exact hK
  case body =>
   intro l y A hA hsz
   have bA := box_same bR hA
   have cA := bA.cell
   have fA := bA.frozen
   cases hq : wdB y with
   | true =>
    have HQ := Lib.hid hq
    clear hq
    gi_wp2
    refine ⟨trivial, (callsIn_wide.2 (isWord_any y _)).mono ?_⟩
    rintro e w1 ⟨rfl, rfl⟩
    rw [HQ.out]
    gi_wp2
    exact .inl ⟨rfl, HQ.out, Below.refl _ _⟩
   | false =>
    have HQ := Lib.hid hq
    clear hq
    gi_wp2
    refine ⟨trivial, (callsIn_wide.2 (isWord_any y _)).mono ?_⟩
    rintro e w1 ⟨rfl, rfl⟩
    rw [HQ.out]
    gi_wp2
    exact .inr ⟨rfl, HQ.out, (Only.refl _ _).set 0 _, bA.set _⟩
  case done =>
   intro D B hD hall hO hK
   have bB := box_same bR (hO.block _ (by omega) (by omega))
   have cB := bB.cell
   have fB := bB.frozen
   gi_wp2
   have hK' := (KeepsOthers.setCell B ⟨w.heap.size, 0, none⟩ (.bool true)).same D _ hK rfl
   have b2 := bB.set (.bool true)
   refine ⟨by simp, .inl ⟨_, _, rfl, run_takeDeferred hK', ?_⟩⟩
   have c0 := cell_kept b2.cell (grownBy_putObj' _ D (.deferred none)) (fun r e => by cases e; exact ⟨_, hK', rfl⟩)
   refine ⟨.bool true, ?_, by rw [HB.out, hall], ?_⟩
   ·simp [results, Tryz.f25, go_sem, c0]
   ·exact hB0.trans (((hO.toBelow (by omega) (by omega)).trans (((Only.refl w.heap.size B).set 0 (.bool true)).toBelow (Nat.le_refl _) (Nat.le_trans (by omega) hO.size))).trans (belowK_b (w := w) (Nat.le_refl _) _ D _ _ (by omega) hK' rfl rfl))
  case stop =>
   intro D B hD hall hO hr hK
   have bB : Boxed B w.heap.size 4 (.bool false) := hr
   have cB := bB.cell
   gi_wp2
   refine ⟨by simp, .inl ⟨_, _, rfl, run_takeDeferred hK, ?_⟩⟩
   have c0 := cell_kept cB (grownBy_putObj' _ D (.deferred none)) (fun r e => by cases e; exact ⟨_, hK, rfl⟩)
   refine ⟨.bool false, ?_, by rw [HB.out, hall], ?_⟩
   ·simp [results, Tryz.f25, go_sem, c0]
   ·exact hB0.trans ((hO.toBelow (by omega) (by omega) (by omega)).trans (belowK_b (w := w) (Nat.le_refl _) _ D _ _ (by omega) hK rfl rfl))
 ·have hc : (50 : Int) < (x.length : Int) := by omega
  have HB := Lib.hid (show paB x = false by unfold paB; simp [h50])
  clear h50
  refine callsIn_of_wp_marks Tryz.func25 rfl trivial ?_ rfl
  simp only [Tryz.ntmps25, List.size_toArray, List.length_cons, List.length_nil, Nat.reduceAdd, Nat.reduceSub, Array.replicate_succ, Array.replicate_zero, List.push_toArray, List.append_toArray, List.nil_append, List.cons_append]
  gi_wp2
  refine ⟨.bool false, ?_, by rw [HB.out], ?_⟩
  ·simp [results, Tryz.f25, go_sem]
  ·exact (Below.refl _ w).alloc (Nat.le_refl _) _
theorem isPath_any (x : Bs) (w : World) : Calls Tryz.prog 25 #[.string (ofL x)] w (Tells w (.bool (paB x))) :=
 (callsIn_wide (n := 9)).1 (isPath_in x w)
end Go.Proofs.YtekpefcggikcbaaGreatDoor
