/- nfa's compare: the world behind it, as an equation (tools/gen_cg.py). -/
import Derived.Test.YtockgbilbnheaaaDoorNfaComp
import Derived.Test.YtockgbilbnheaaaDoorRegInv
import Derived.Sort.Grow
namespace Go.Proofs.YtockgbilbnheaaaDoor
open Go.RowKit

/-- Behind some operations: the values, and one block of the call's own. -/
def CmI (W : World) (val : Nat → Value) (k : Nat) (o : Obj) (L : Nat → Bool) (vs : Nat → Value) (w : World) : Prop := (∀ i, L i = true → vs i = val i) ∧ w = if L k = true then W.drew.alloc o else W.drew
theorem nopeC {b : Bool} {p : Prop} (hb : b = false) (h : b = true) : p := by rw [hb] at h; cases h
theorem grow_three (w : World) (a b o : Obj) : ((w.alloc a).alloc b).drew.alloc o = Go.Sort.grow (w.drewN 1) #[a, b, o] := by
 unfold World.alloc World.drew Go.Sort.grow World.drewN
 simp only [World.mk.injEq, and_true]
 apply Array.toList_inj.1
 simp
section
variable {W w : World} {val : Nat → Value} {k : Nat} {o : Obj} {L : Nat → Bool} {vs : Nat → Value}
theorem CmI.start : CmI W val k o (fun _ => false) vs W.drew := ⟨fun _ h => nopeC rfl h, (if_neg (by simp)).symm⟩
theorem CmI.below (h : CmI W val k o L vs w) : Below W.heap.size W w := by
 rw [h.2]
 split
 ·exact (Below.refl _ W).drew.alloc (Nat.le_refl _) o
 ·exact (Below.refl _ W).drew
theorem CmI.vals (h : CmI W val k o L vs w) (i : Nat) : ∀ j, (updB L i) j = true → (updV vs i (val i)) j = val j := by
 intro j hl
 by_cases e : j = i
 ·subst e; rw [updV_self]
 ·rw [updV_ne _ _ e]; rw [updB_ne _ e] at hl; exact h.1 j hl
theorem CmI.step (h : CmI W val k o L vs w) (i : Nat) (hi : k ≠ i) : CmI W val k o (updB L i) (updV vs i (val i)) w := by
 refine ⟨h.vals i, ?_⟩
 rw [updB_ne L hi]; exact h.2
theorem CmI.size (h : CmI W val k o L vs w) (hk : L k = false) : w.heap.size = W.heap.size := by
 rw [h.2, hk]; rfl
theorem CmI.mk (h : CmI W val k o L vs w) (hk : L k = false) : CmI W val k o (updB L k) (updV vs k (val k)) (w.alloc o) := by
 refine ⟨h.vals k, ?_⟩
 rw [updB_self, if_pos rfl, h.2, hk]; rfl
end
set_option maxRecDepth 100000 in
theorem compare_grow (x y : Ac) (w : World) : Calls Tryd.prog 45 #[av x, av y] w fun e w' => e = .returned (.int .i64 (cmpA x y)) ∧ ∃ q os, w' = Go.Sort.grow (w.drewN q) os := by
 obtain ⟨s0, s1, s2⟩ := x
 obtain ⟨t0, t1, t2⟩ := y
 unfold av cmpA
 dsimp only
 obtain ⟨p, hp⟩ : ∃ p, p = cmpI s0 t0 := ⟨_, rfl⟩
 obtain ⟨q, hq⟩ : ∃ q, q = cmpI s1 t1 := ⟨_, rfl⟩
 obtain ⟨r, hr⟩ : ∃ r, r = cmpI s2 t2 := ⟨_, rfl⟩
 rw [← hp, ← hq, ← hr]
 obtain ⟨z, hz⟩ : ∃ z, z = orI [p, q, r] := ⟨_, rfl⟩
 rw [← hz]
 have hp0 := Lib.hid hp
 have hq0 := Lib.hid hq
 have hr0 := Lib.hid hr
 have hz0 := Lib.hid hz
 clear hp hq hr hz
 go_enter Tryd.func45, Tryd.ntmps45
 go_wp2_with fail
 obtain ⟨W, hW⟩ : ∃ W : World, W = (w.alloc (Obj.cells #[Value.int IntKind.i64 s0, Value.int IntKind.i64 s1, Value.int IntKind.i64 s2] 52)).alloc (Obj.cells #[Value.int IntKind.i64 t0, Value.int IntKind.i64 t1, Value.int IntKind.i64 t2] 52) := ⟨_, rfl⟩
 obtain ⟨x0, x1, x2, y0, y1, y2⟩ : W.cell? ⟨w.heap.size, 0, none⟩ = some (.int .i64 s0) ∧ W.cell? ⟨w.heap.size, 1, none⟩ = some (.int .i64 s1) ∧ W.cell? ⟨w.heap.size, 2, none⟩ = some (.int .i64 s2) ∧ W.cell? ⟨w.heap.size + 1, 0, none⟩ = some (.int .i64 t0) ∧ W.cell? ⟨w.heap.size + 1, 1, none⟩ = some (.int .i64 t1) ∧ W.cell? ⟨w.heap.size + 1, 2, none⟩ = some (.int .i64 t2) := by
  rw [hW]
  have e1 := heap_alloc_new (w.alloc (Obj.cells #[Value.int IntKind.i64 s0, Value.int IntKind.i64 s1, Value.int IntKind.i64 s2] 52)) (Obj.cells #[Value.int IntKind.i64 t0, Value.int IntKind.i64 t1, Value.int IntKind.i64 t2] 52)
  have e0 := heap_alloc_new w (Obj.cells #[Value.int IntKind.i64 s0, Value.int IntKind.i64 s1, Value.int IntKind.i64 s2] 52)
  refine ⟨?_, ?_, ?_, ?_, ?_, ?_⟩ <;> go_simp
 rw [← hW]
 have HW := Lib.hid hW
 clear hW
 generalize hb0 : w.heap.size = bx at *
 have Hb0 := Lib.hid hb0
 clear hb0
 refine region_inv (n := 22) (CmI W (fun zz => match zz with | 0 => .pointer (some ⟨bx, 0, none⟩) | 1 => .int .i64 s0 | 2 => .pointer (some ⟨bx + 1, 0, none⟩) | 3 => .int .i64 t0 | 4 => .int .i64 p | 5 => .pointer (some ⟨bx, 1, none⟩) | 6 => .int .i64 s1 | 7 => .pointer (some ⟨bx + 1, 1, none⟩) | 8 => .int .i64 t1 | 9 => .int .i64 q | 10 => .pointer (some ⟨bx, 2, none⟩) | 11 => .int .i64 s2 | 12 => .pointer (some ⟨bx + 1, 2, none⟩) | 13 => .int .i64 t2 | 14 => .int .i64 r | 15 => .slice (some ⟨W.heap.size, 0, none⟩) 3 3 | 16 => .int .i64 z | 17 => .int .i64 z | _ => undef) 15 (.cells #[.int .i64 p, .int .i64 q, .int .i64 r] 3)) (by kernel_rfl) (by kernel_rfl) rfl ?_ (allOps_spec ?_) ?_
 ·intro vs
  exact CmI.start
 ·refine ⟨?_, ?_, ?_, ?_, ?_, ?_, ?_, ?_, ?_, ?_, ?_, ?_, ?_, ?_, ?_, ?_, ?_, ?_, trivial⟩
  ·intro L vs ac w6 hB hL hd hI
   have b2 : ac.tmps[2]?.getD undef = .pointer (some ⟨bx, 0, none⟩) := hB.at 2 (by kernel_rfl)
   exact stepI_run (v := .pointer (some ⟨bx, 0, none⟩)) rfl (by simp [execOp, go_sem, Act.eval, b2]) (hI.step 0 (by decide))
  ·intro L vs ac w6 hB hL hd hI
   have b5 : ac.tmps[5]?.getD undef = .pointer (some ⟨bx, 0, none⟩) := (hB.val 0 (hd ⟨0, .data⟩ (by simp) rfl) 5 rfl).trans (hI.1 0 (hd ⟨0, .data⟩ (by simp) rfl))
   have kc : w6.cell? ⟨bx, 0, none⟩ = some (.int .i64 s0) := (hI.below.cell (World.block_lt_of_cell? _ _ x0)).trans x0
   exact stepI_run (v := .int .i64 s0) rfl (by simp [execOp, go_sem, Act.eval, b5, kc]) (hI.step 1 (by decide))
  ·intro L vs ac w6 hB hL hd hI
   have b3 : ac.tmps[3]?.getD undef = .pointer (some ⟨bx + 1, 0, none⟩) := hB.at 3 (by kernel_rfl)
   exact stepI_run (v := .pointer (some ⟨bx + 1, 0, none⟩)) rfl (by simp [execOp, go_sem, Act.eval, b3]) (hI.step 2 (by decide))
  ·intro L vs ac w6 hB hL hd hI
   have b7 : ac.tmps[7]?.getD undef = .pointer (some ⟨bx + 1, 0, none⟩) := (hB.val 2 (hd ⟨2, .data⟩ (by simp) rfl) 7 rfl).trans (hI.1 2 (hd ⟨2, .data⟩ (by simp) rfl))
   have kc : w6.cell? ⟨bx + 1, 0, none⟩ = some (.int .i64 t0) := (hI.below.cell (World.block_lt_of_cell? _ _ y0)).trans y0
   exact stepI_run (v := .int .i64 t0) rfl (by simp [execOp, go_sem, Act.eval, b7, kc]) (hI.step 3 (by decide))
  ·intro L vs ac w6 hB hL hd hI
   have b6 : ac.tmps[6]?.getD undef = .int .i64 s0 := (hB.val 1 (hd ⟨1, .data⟩ (by simp) rfl) 6 rfl).trans (hI.1 1 (hd ⟨1, .data⟩ (by simp) rfl))
   have b8 : ac.tmps[8]?.getD undef = .int .i64 t0 := (hB.val 3 (hd ⟨3, .data⟩ (by simp) rfl) 8 rfl).trans (hI.1 3 (hd ⟨3, .data⟩ (by simp) rfl))
   refine stepI_call (f := 61) (args := #[.int .i64 s0, .int .i64 t0]) rfl (by simp [go_sem, b6, b8]) ?_
   refine (cmp_any s0 t0 w6).mono ?_
   rintro e w9 ⟨rfl, rfl⟩
   rw [← hp0.out]
   exact ⟨_, rfl, hI.step 4 (by decide)⟩
  ·intro L vs ac w6 hB hL hd hI
   have b2 : ac.tmps[2]?.getD undef = .pointer (some ⟨bx, 0, none⟩) := hB.at 2 (by kernel_rfl)
   exact stepI_run (v := .pointer (some ⟨bx, 1, none⟩)) rfl (by simp [execOp, go_sem, Act.eval, b2]) (hI.step 5 (by decide))
  ·intro L vs ac w6 hB hL hd hI
   have b10 : ac.tmps[10]?.getD undef = .pointer (some ⟨bx, 1, none⟩) := (hB.val 5 (hd ⟨5, .data⟩ (by simp) rfl) 10 rfl).trans (hI.1 5 (hd ⟨5, .data⟩ (by simp) rfl))
   have kc : w6.cell? ⟨bx, 1, none⟩ = some (.int .i64 s1) := (hI.below.cell (World.block_lt_of_cell? _ _ x1)).trans x1
   exact stepI_run (v := .int .i64 s1) rfl (by simp [execOp, go_sem, Act.eval, b10, kc]) (hI.step 6 (by decide))
  ·intro L vs ac w6 hB hL hd hI
   have b3 : ac.tmps[3]?.getD undef = .pointer (some ⟨bx + 1, 0, none⟩) := hB.at 3 (by kernel_rfl)
   exact stepI_run (v := .pointer (some ⟨bx + 1, 1, none⟩)) rfl (by simp [execOp, go_sem, Act.eval, b3]) (hI.step 7 (by decide))
  ·intro L vs ac w6 hB hL hd hI
   have b12 : ac.tmps[12]?.getD undef = .pointer (some ⟨bx + 1, 1, none⟩) := (hB.val 7 (hd ⟨7, .data⟩ (by simp) rfl) 12 rfl).trans (hI.1 7 (hd ⟨7, .data⟩ (by simp) rfl))
   have kc : w6.cell? ⟨bx + 1, 1, none⟩ = some (.int .i64 t1) := (hI.below.cell (World.block_lt_of_cell? _ _ y1)).trans y1
   exact stepI_run (v := .int .i64 t1) rfl (by simp [execOp, go_sem, Act.eval, b12, kc]) (hI.step 8 (by decide))
  ·intro L vs ac w6 hB hL hd hI
   have b11 : ac.tmps[11]?.getD undef = .int .i64 s1 := (hB.val 6 (hd ⟨6, .data⟩ (by simp) rfl) 11 rfl).trans (hI.1 6 (hd ⟨6, .data⟩ (by simp) rfl))
   have b13 : ac.tmps[13]?.getD undef = .int .i64 t1 := (hB.val 8 (hd ⟨8, .data⟩ (by simp) rfl) 13 rfl).trans (hI.1 8 (hd ⟨8, .data⟩ (by simp) rfl))
   refine stepI_call (f := 61) (args := #[.int .i64 s1, .int .i64 t1]) rfl (by simp [go_sem, b11, b13]) ?_
   refine (cmp_any s1 t1 w6).mono ?_
   rintro e w9 ⟨rfl, rfl⟩
   rw [← hq0.out]
   exact ⟨_, rfl, hI.step 9 (by decide)⟩
  ·intro L vs ac w6 hB hL hd hI
   have b2 : ac.tmps[2]?.getD undef = .pointer (some ⟨bx, 0, none⟩) := hB.at 2 (by kernel_rfl)
   exact stepI_run (v := .pointer (some ⟨bx, 2, none⟩)) rfl (by simp [execOp, go_sem, Act.eval, b2]) (hI.step 10 (by decide))
  ·intro L vs ac w6 hB hL hd hI
   have b15 : ac.tmps[15]?.getD undef = .pointer (some ⟨bx, 2, none⟩) := (hB.val 10 (hd ⟨10, .data⟩ (by simp) rfl) 15 rfl).trans (hI.1 10 (hd ⟨10, .data⟩ (by simp) rfl))
   have kc : w6.cell? ⟨bx, 2, none⟩ = some (.int .i64 s2) := (hI.below.cell (World.block_lt_of_cell? _ _ x2)).trans x2
   exact stepI_run (v := .int .i64 s2) rfl (by simp [execOp, go_sem, Act.eval, b15, kc]) (hI.step 11 (by decide))
  ·intro L vs ac w6 hB hL hd hI
   have b3 : ac.tmps[3]?.getD undef = .pointer (some ⟨bx + 1, 0, none⟩) := hB.at 3 (by kernel_rfl)
   exact stepI_run (v := .pointer (some ⟨bx + 1, 2, none⟩)) rfl (by simp [execOp, go_sem, Act.eval, b3]) (hI.step 12 (by decide))
  ·intro L vs ac w6 hB hL hd hI
   have b17 : ac.tmps[17]?.getD undef = .pointer (some ⟨bx + 1, 2, none⟩) := (hB.val 12 (hd ⟨12, .data⟩ (by simp) rfl) 17 rfl).trans (hI.1 12 (hd ⟨12, .data⟩ (by simp) rfl))
   have kc : w6.cell? ⟨bx + 1, 2, none⟩ = some (.int .i64 t2) := (hI.below.cell (World.block_lt_of_cell? _ _ y2)).trans y2
   exact stepI_run (v := .int .i64 t2) rfl (by simp [execOp, go_sem, Act.eval, b17, kc]) (hI.step 13 (by decide))
  ·intro L vs ac w6 hB hL hd hI
   have b16 : ac.tmps[16]?.getD undef = .int .i64 s2 := (hB.val 11 (hd ⟨11, .data⟩ (by simp) rfl) 16 rfl).trans (hI.1 11 (hd ⟨11, .data⟩ (by simp) rfl))
   have b18 : ac.tmps[18]?.getD undef = .int .i64 t2 := (hB.val 13 (hd ⟨13, .data⟩ (by simp) rfl) 18 rfl).trans (hI.1 13 (hd ⟨13, .data⟩ (by simp) rfl))
   refine stepI_call (f := 61) (args := #[.int .i64 s2, .int .i64 t2]) rfl (by simp [go_sem, b16, b18]) ?_
   refine (cmp_any s2 t2 w6).mono ?_
   rintro e w9 ⟨rfl, rfl⟩
   rw [← hr0.out]
   exact ⟨_, rfl, hI.step 14 (by decide)⟩
  ·intro L vs ac w6 hB hL hd hI
   have b9 : ac.tmps[9]?.getD undef = .int .i64 p := (hB.val 4 (hd ⟨4, .data⟩ (by simp) rfl) 9 rfl).trans (hI.1 4 (hd ⟨4, .data⟩ (by simp) rfl))
   have b14 : ac.tmps[14]?.getD undef = .int .i64 q := (hB.val 9 (hd ⟨9, .data⟩ (by simp) rfl) 14 rfl).trans (hI.1 9 (hd ⟨9, .data⟩ (by simp) rfl))
   have b19 : ac.tmps[19]?.getD undef = .int .i64 r := (hB.val 14 (hd ⟨14, .data⟩ (by simp) rfl) 19 rfl).trans (hI.1 14 (hd ⟨14, .data⟩ (by simp) rfl))
   have hs := hI.size hL
   exact stepI_run (v := .slice (some ⟨W.heap.size, 0, none⟩) 3 3) (w' := w6.alloc (.cells #[.int .i64 p, .int .i64 q, .int .i64 r] 3)) rfl (by simp [execOp, go_sem, Act.eval, b9, b14, b19, hs]) (hI.mk hL)
  ·intro L vs ac w6 hB hL hd hI
   have b20 : ac.tmps[20]?.getD undef = .slice (some ⟨W.heap.size, 0, none⟩) 3 3 := (hB.val 15 (hd ⟨15, .data⟩ (by simp) rfl) 20 rfl).trans (hI.1 15 (hd ⟨15, .data⟩ (by simp) rfl))
   refine stepI_call (f := 60) (args := #[.slice (some ⟨W.heap.size, 0, none⟩) 3 3]) rfl (by simp [go_sem, b20]) ?_
   have h15 : L 15 = true := hd ⟨15, .data⟩ (by simp) rfl
   have hw6 := hI.2
   rw [h15, if_pos rfl] at hw6
   have hsl : Sl iv w6 (.slice (some ⟨W.heap.size, 0, none⟩) [p, q, r].length 3) [p, q, r] := by rw [hw6]; exact Sl.of_own (own_litS W.drew 3 #[.int .i64 p, .int .i64 q, .int .i64 r] 3 W.heap.size _ rfl rfl (by decide) rfl)
   refine (or_any _ [p, q, r] w6 hsl (by simp)).mono ?_
   rintro e w9 ⟨rfl, rfl⟩
   rw [← hz0.out]
   exact ⟨_, rfl, hI.step 16 (by decide)⟩
  ·intro L vs ac w6 hB hL hd hI
   have b21 : ac.tmps[21]?.getD undef = .int .i64 z := (hB.val 16 (hd ⟨16, .data⟩ (by simp) rfl) 21 rfl).trans (hI.1 16 (hd ⟨16, .data⟩ (by simp) rfl))
   exact stepI_run (v := .int .i64 z) rfl (by simp [execOp, go_sem, Act.eval, b21]) (hI.step 17 (by decide))
 ·intro L vs w7 hall hI
  have h15 : L 15 = true := hall 15 (by decide)
  have e17 : vs 17 = .int .i64 z := hI.1 17 (hall 17 (by decide))
  have hw7 := hI.2
  rw [h15, if_pos rfl] at hw7
  clear hI hall
  simp only [putAll, Act.put, List.setIfInBounds_toArray, List.set_cons_zero, List.set_cons_succ, Nat.zero_add, Nat.reduceAdd, e17]
  go_wp2_with fail
  go_ret
  exact ⟨rfl, 1, _, by rw [hw7, HW.out, grow_three]⟩
end Go.Proofs.YtockgbilbnheaaaDoor
