/- value.Compare (tools/gen_vm.py). -/
import Derived.Test.YtnainhpcmoekcaaGreatDoorVaP
import Derived.Test.YtnainhpcmoekcaaGreatDoorSl
namespace Go.Proofs.YtnainhpcmoekcaaGreatDoor
open Go.RowKit

/-- What cmp.Compare says of integers. -/
def cmpI (x y : Int) : Int := if x < y then -1 else if y < x then 1 else 0
theorem isnan_any (x : Int) (w : World) : Calls Tryz.prog 66 #[.int .i64 x] w fun e w' => e = .returned (.bool false) ∧ w = w' := by
 have d0 : decide (x = x) = true := decide_eq_true rfl
 go_enter Tryz.func66, Tryz.ntmps66
 go_wp2
 go_ret
 exact ⟨by simp, rfl⟩
theorem cmp_any (x y : Int) (w : World) : Calls Tryz.prog 48 #[.int .i64 x, .int .i64 y] w fun e w' => e = .returned (.int .i64 (cmpI x y)) ∧ w = w' := by
 obtain ⟨R, hR⟩ : ∃ R, R = cmpI x y := ⟨_, rfl⟩
 rw [← hR]
 by_cases h0 : x < y
 ·have e : R = -1 := by rw [hR, cmpI, if_pos h0]
  subst e
  clear hR
  go_enter Tryz.func48, Tryz.ntmps48
  go_wp2_with fail
  refine (isnan_any _ _).mono ?_
  rintro e w5 ⟨rfl, rfl⟩
  go_wp2_with fail
  refine (isnan_any _ _).mono ?_
  rintro e w5 ⟨rfl, rfl⟩
  go_wp2
  go_ret
  exact ⟨rfl, rfl⟩
 ·by_cases h1 : y < x
  ·have e : R = 1 := by rw [hR, cmpI, if_neg h0, if_pos h1]
   subst e
   clear hR
   go_enter Tryz.func48, Tryz.ntmps48
   go_wp2_with fail
   refine (isnan_any _ _).mono ?_
   rintro e w5 ⟨rfl, rfl⟩
   go_wp2_with fail
   refine (isnan_any _ _).mono ?_
   rintro e w5 ⟨rfl, rfl⟩
   go_wp2
   go_ret
   exact ⟨rfl, rfl⟩
  ·have e : R = 0 := by rw [hR, cmpI, if_neg h0, if_neg h1]
   subst e
   clear hR
   go_enter Tryz.func48, Tryz.ntmps48
   go_wp2_with fail
   refine (isnan_any _ _).mono ?_
   rintro e w5 ⟨rfl, rfl⟩
   go_wp2_with fail
   refine (isnan_any _ _).mono ?_
   rintro e w5 ⟨rfl, rfl⟩
   go_wp2
   go_ret
   exact ⟨rfl, rfl⟩

/-- The first that is not 0, or 0. -/
def orI : List Int → Int
 | [] => 0
 | x :: l => if x = 0 then orI l else x
theorem orI_drop {l : List Int} {k : Nat} (hk : k < l.length) : orI (l.drop k) = if l[k] = 0 then orI (l.drop (k + 1)) else l[k] := by
 rw [List.drop_eq_getElem_cons hk]; rfl
theorem or_any (v : Value) (l : List Int) (w : World) (h : Sl iv w v l) (hl : l.length ≤ 1000) :
  Calls Tryz.prog 47 #[v] w fun e w' => e = .returned (.int .i64 (orI l)) ∧ w = w' := by
 obtain ⟨A, c, rfl⟩ := h.shape
 obtain ⟨R, hR⟩ : ∃ R, R = orI l := ⟨_, rfl⟩
 rw [← hR]
 have H := Lib.hid h
 have HR := Lib.hid hR
 clear h hR
 go_enter Tryz.func47, Tryz.ntmps47
 go_wp2
 go_loop [8] (fun i => ∃ k : Nat, k ≤ l.length ∧ i = .int .i64 k ∧ R = orI (l.drop k)) (fun i => l.length - (intOf i).toNat)
 case atStart => exact ⟨0, Nat.zero_le _, rfl, by rw [HR.out]; rfl⟩
 case round =>
  obtain ⟨k, hk, rfl, hr⟩ := hrel
  by_cases hlt : k < l.length
  ·obtain ⟨ad, c', hs, hcap, hcell⟩ := sl_cell H.out k hlt
   simp only [Value.slice.injEq, true_and] at hs
   obtain ⟨rfl, rfl⟩ := hs
   rw [orI_drop hlt] at hr
   generalize l[k] = x at *
   unfold iv at hcell
   by_cases hx : x = 0
   ·rw [if_pos hx] at hr
    subst hx
    have Hr := Lib.hid hr
    clear hr
    go_wp2
    go_round
    case rel => exact ⟨k + 1, by omega, by go_num, Hr.out⟩
    case measure => simp [intOf]; omega
   ·rw [if_neg hx] at hr
    have Hr := Lib.hid hr
    clear hr
    go_wp2
    go_ret
    exact ⟨by rw [Hr.out]; first | done | rfl, rfl⟩
  ·have hr2 : R = 0 := by rw [hr, List.drop_of_length_le (by omega)]; rfl
   subst hr2
   clear hr
   go_wp2
   go_ret
   exact ⟨rfl, rfl⟩
/-- Behind some operations: the values, and one block of the call's own. -/
def CmI (W : World) (val : Nat → Value) (k : Nat) (o : Obj) (L : Nat → Bool) (vs : Nat → Value) (w : World) : Prop := (∀ i, L i = true → vs i = val i) ∧ w = if L k = true then W.drew.alloc o else W.drew
theorem nopeC {b : Bool} {p : Prop} (hb : b = false) (h : b = true) : p := by rw [hb] at h; cases h
section
variable {W w : World} {val : Nat → Value} {k : Nat} {o : Obj} {L : Nat → Bool} {vs : Nat → Value}
theorem CmI.start : CmI W val k o (fun _ => false) vs W.drew := ⟨fun _ h => nopeC rfl h, (if_neg (by simp)).symm⟩
theorem CmI.below (h : CmI W val k o L vs w) : Below W.heap.size W w := by
 rw [h.2]
 split
 ·exact (Below.refl _ W).drew.alloc (Nat.le_refl _) o
 ·exact (Below.refl _ W).drew
theorem CmI.vals (h : CmI W val k o L vs w) (i : Nat) : ∀ j, (updB L i) j = true → (updV vs i (val i)) j = val j := by
 intro j hl
 by_cases e : j = i
 ·subst e; rw [updV_self]
 ·rw [updV_ne _ _ e]; rw [updB_ne _ e] at hl; exact h.1 j hl
theorem CmI.step (h : CmI W val k o L vs w) (i : Nat) (hi : k ≠ i) : CmI W val k o (updB L i) (updV vs i (val i)) w := by
 refine ⟨h.vals i, ?_⟩
 rw [updB_ne L hi]; exact h.2
theorem CmI.size (h : CmI W val k o L vs w) (hk : L k = false) : w.heap.size = W.heap.size := by
 rw [h.2, hk]; rfl
theorem CmI.mk (h : CmI W val k o L vs w) (hk : L k = false) : CmI W val k o (updB L k) (updV vs k (val k)) (w.alloc o) := by
 refine ⟨h.vals k, ?_⟩
 rw [updB_self, if_pos rfl, h.2, hk]; rfl
end
theorem isnans_any (s : ByteArray) (w : World) : Calls Tryz.prog 67 #[.string s] w fun e w' => e = .returned (.bool false) ∧ w = w' := by
 go_enter Tryz.func67, Tryz.ntmps67
 go_wp2
 go_ret
 exact ⟨by simp, rfl⟩
set_option maxRecDepth 100000 in
set_option maxHeartbeats 1000000 in
theorem compare_gen (k0 n0 : Int) (s : Bs) (k1 n1 : Int) (t : Bs) (r3 : Int) (w : World) (hS : ∀ W, Calls Tryz.prog 49 #[.string (ofL s), .string (ofL t)] W fun e w' => e = .returned (.int .i64 r3) ∧ W = w') :
  Calls Tryz.prog 21 #[vl k0 n0 s, vl k1 n1 t] w (Tells w (.int .i64 (orI [cmpI k0 k1, cmpI n0 n1, cmpI (s.length : Int) (t.length : Int), r3]))) := by
 have HS3 := Lib.hid hS
 clear hS
 have HL0 := ofL_size s
 have HL1 := ofL_size t
 rw [← HL0, ← HL1]
 clear HL0 HL1
 unfold vl
 generalize ofL s = S at *
 generalize ofL t = U at *
 obtain ⟨p, hp⟩ : ∃ p, p = cmpI k0 k1 := ⟨_, rfl⟩
 obtain ⟨q, hq⟩ : ∃ q, q = cmpI n0 n1 := ⟨_, rfl⟩
 obtain ⟨r, hr⟩ : ∃ r, r = cmpI (S.size : Int) (U.size : Int) := ⟨_, rfl⟩
 rw [← hp, ← hq, ← hr]
 obtain ⟨z, hz⟩ : ∃ z, z = orI [p, q, r, r3] := ⟨_, rfl⟩
 rw [← hz]
 have hp0 := Lib.hid hp
 have hq0 := Lib.hid hq
 have hr0 := Lib.hid hr
 have hz0 := Lib.hid hz
 clear hp hq hr hz
 go_enter Tryz.func21, Tryz.ntmps21
 go_wp2_with fail
 have hbW := al2 w (.cells #[.int .i64 k0, .int .i64 n0, .string S] 25) (.cells #[.int .i64 k1, .int .i64 n1, .string U] 25)
 obtain ⟨W, hW⟩ : ∃ W : World, W = (w.alloc (Obj.cells #[Value.int IntKind.i64 k0, Value.int IntKind.i64 n0, Value.string S] 25)).alloc (Obj.cells #[Value.int IntKind.i64 k1, Value.int IntKind.i64 n1, Value.string U] 25) := ⟨_, rfl⟩
 obtain ⟨x0, x1, x2, y0, y1, y2⟩ : W.cell? ⟨w.heap.size, 0, none⟩ = some (.int .i64 k0) ∧ W.cell? ⟨w.heap.size, 1, none⟩ = some (.int .i64 n0) ∧ W.cell? ⟨w.heap.size, 2, none⟩ = some (.string S) ∧ W.cell? ⟨w.heap.size + 1, 0, none⟩ = some (.int .i64 k1) ∧ W.cell? ⟨w.heap.size + 1, 1, none⟩ = some (.int .i64 n1) ∧ W.cell? ⟨w.heap.size + 1, 2, none⟩ = some (.string U) := by
  rw [hW]
  have g0 := heap_alloc_2 w (.cells #[.int .i64 k0, .int .i64 n0, .string S] 25) (.cells #[.int .i64 k1, .int .i64 n1, .string U] 25)
  have g1 := heap_alloc_2' w (.cells #[.int .i64 k0, .int .i64 n0, .string S] 25) (.cells #[.int .i64 k1, .int .i64 n1, .string U] 25)
  exact ⟨cell_of_row _ _ 0 _ _ _ g0, cell_of_row _ _ 1 _ _ _ g0, cell_of_row _ _ 2 _ _ _ g0, cell_of_row _ _ 0 _ _ _ g1, cell_of_row _ _ 1 _ _ _ g1, cell_of_row _ _ 2 _ _ _ g1⟩
 rw [← hW] at hbW ⊢
 have HW := Lib.hid hW; have HBW := Lib.hid hbW
 clear hW hbW
 obtain ⟨bx, hbx⟩ : ∃ bx, bx = w.heap.size := ⟨_, rfl⟩
 rw [← hbx] at x0 x1 x2 y0 y1 y2 ⊢
 clear hbx
 refine region_inv (n := 29) (CmI W (fun zz => match zz with | 0 => .pointer (some ⟨bx, 0, none⟩) | 1 => .int .i64 k0 | 2 => .pointer (some ⟨bx + 1, 0, none⟩) | 3 => .int .i64 k1 | 4 => .int .i64 p | 5 => .pointer (some ⟨bx, 1, none⟩) | 6 => .int .i64 n0 | 7 => .pointer (some ⟨bx + 1, 1, none⟩) | 8 => .int .i64 n1 | 9 => .int .i64 q | 10 => .pointer (some ⟨bx, 2, none⟩) | 11 => .string S | 12 => .int .i64 (S.size : Int) | 13 => .pointer (some ⟨bx + 1, 2, none⟩) | 14 => .string U | 15 => .int .i64 (U.size : Int) | 16 => .int .i64 r | 17 => .pointer (some ⟨bx, 2, none⟩) | 18 => .string S | 19 => .pointer (some ⟨bx + 1, 2, none⟩) | 20 => .string U | 21 => .int .i64 r3 | 22 => .slice (some ⟨W.heap.size, 0, none⟩) 4 4 | 23 => .int .i64 z | 24 => .int .i64 z | _ => undef) 22 (.cells #[.int .i64 p, .int .i64 q, .int .i64 r, .int .i64 r3] 3)) (by kernel_rfl) (by kernel_rfl) rfl ?_ (allOps_spec ?_) ?_
 ·intro vs
  exact CmI.start
 ·refine ⟨?_, ?_, ?_, ?_, ?_, ?_, ?_, ?_, ?_, ?_, ?_, ?_, ?_, ?_, ?_, ?_, ?_, ?_, ?_, ?_, ?_, ?_, ?_, ?_, ?_, trivial⟩
  ·intro L vs ac w6 hB hL hd hI
   have b2 : ac.tmps[2]?.getD undef = .pointer (some ⟨bx, 0, none⟩) := hB.at 2 (by kernel_rfl)
   exact stepI_run (v := .pointer (some ⟨bx, 0, none⟩)) rfl (by simp [execOp, go_sem, Act.eval, b2]) (hI.step 0 (by decide))
  ·intro L vs ac w6 hB hL hd hI
   have b5 : ac.tmps[5]?.getD undef = .pointer (some ⟨bx, 0, none⟩) := (hB.val 0 (hd ⟨0, .data⟩ (by simp) rfl) 5 rfl).trans (hI.1 0 (hd ⟨0, .data⟩ (by simp) rfl))
   have kc : w6.cell? ⟨bx, 0, none⟩ = some (.int .i64 k0) := (hI.below.cell (World.block_lt_of_cell? _ _ x0)).trans x0
   exact stepI_run (v := .int .i64 k0) rfl (by simp [execOp, go_sem, Act.eval, b5, kc]) (hI.step 1 (by decide))
  ·intro L vs ac w6 hB hL hd hI
   have b3 : ac.tmps[3]?.getD undef = .pointer (some ⟨bx + 1, 0, none⟩) := hB.at 3 (by kernel_rfl)
   exact stepI_run (v := .pointer (some ⟨bx + 1, 0, none⟩)) rfl (by simp [execOp, go_sem, Act.eval, b3]) (hI.step 2 (by decide))
  ·intro L vs ac w6 hB hL hd hI
   have b7 : ac.tmps[7]?.getD undef = .pointer (some ⟨bx + 1, 0, none⟩) := (hB.val 2 (hd ⟨2, .data⟩ (by simp) rfl) 7 rfl).trans (hI.1 2 (hd ⟨2, .data⟩ (by simp) rfl))
   have kc : w6.cell? ⟨bx + 1, 0, none⟩ = some (.int .i64 k1) := (hI.below.cell (World.block_lt_of_cell? _ _ y0)).trans y0
   exact stepI_run (v := .int .i64 k1) rfl (by simp [execOp, go_sem, Act.eval, b7, kc]) (hI.step 3 (by decide))
  ·intro L vs ac w6 hB hL hd hI
   have b6 : ac.tmps[6]?.getD undef = .int .i64 k0 := (hB.val 1 (hd ⟨1, .data⟩ (by simp) rfl) 6 rfl).trans (hI.1 1 (hd ⟨1, .data⟩ (by simp) rfl))
   have b8 : ac.tmps[8]?.getD undef = .int .i64 k1 := (hB.val 3 (hd ⟨3, .data⟩ (by simp) rfl) 8 rfl).trans (hI.1 3 (hd ⟨3, .data⟩ (by simp) rfl))
   refine stepI_call (f := 48) (args := #[.int .i64 k0, .int .i64 k1]) rfl (by simp [go_sem, b6, b8]) ?_
   refine (cmp_any k0 k1 w6).mono ?_
   rintro e w9 ⟨rfl, rfl⟩
   rw [← hp0.out]
   exact ⟨_, rfl, hI.step 4 (by decide)⟩
  ·intro L vs ac w6 hB hL hd hI
   have b2 : ac.tmps[2]?.getD undef = .pointer (some ⟨bx, 0, none⟩) := hB.at 2 (by kernel_rfl)
   exact stepI_run (v := .pointer (some ⟨bx, 1, none⟩)) rfl (by simp [execOp, go_sem, Act.eval, b2]) (hI.step 5 (by decide))
  ·intro L vs ac w6 hB hL hd hI
   have b10 : ac.tmps[10]?.getD undef = .pointer (some ⟨bx, 1, none⟩) := (hB.val 5 (hd ⟨5, .data⟩ (by simp) rfl) 10 rfl).trans (hI.1 5 (hd ⟨5, .data⟩ (by simp) rfl))
   have kc : w6.cell? ⟨bx, 1, none⟩ = some (.int .i64 n0) := (hI.below.cell (World.block_lt_of_cell? _ _ x1)).trans x1
   exact stepI_run (v := .int .i64 n0) rfl (by simp [execOp, go_sem, Act.eval, b10, kc]) (hI.step 6 (by decide))
  ·intro L vs ac w6 hB hL hd hI
   have b3 : ac.tmps[3]?.getD undef = .pointer (some ⟨bx + 1, 0, none⟩) := hB.at 3 (by kernel_rfl)
   exact stepI_run (v := .pointer (some ⟨bx + 1, 1, none⟩)) rfl (by simp [execOp, go_sem, Act.eval, b3]) (hI.step 7 (by decide))
  ·intro L vs ac w6 hB hL hd hI
   have b12 : ac.tmps[12]?.getD undef = .pointer (some ⟨bx + 1, 1, none⟩) := (hB.val 7 (hd ⟨7, .data⟩ (by simp) rfl) 12 rfl).trans (hI.1 7 (hd ⟨7, .data⟩ (by simp) rfl))
   have kc : w6.cell? ⟨bx + 1, 1, none⟩ = some (.int .i64 n1) := (hI.below.cell (World.block_lt_of_cell? _ _ y1)).trans y1
   exact stepI_run (v := .int .i64 n1) rfl (by simp [execOp, go_sem, Act.eval, b12, kc]) (hI.step 8 (by decide))
  ·intro L vs ac w6 hB hL hd hI
   have b11 : ac.tmps[11]?.getD undef = .int .i64 n0 := (hB.val 6 (hd ⟨6, .data⟩ (by simp) rfl) 11 rfl).trans (hI.1 6 (hd ⟨6, .data⟩ (by simp) rfl))
   have b13 : ac.tmps[13]?.getD undef = .int .i64 n1 := (hB.val 8 (hd ⟨8, .data⟩ (by simp) rfl) 13 rfl).trans (hI.1 8 (hd ⟨8, .data⟩ (by simp) rfl))
   refine stepI_call (f := 48) (args := #[.int .i64 n0, .int .i64 n1]) rfl (by simp [go_sem, b11, b13]) ?_
   refine (cmp_any n0 n1 w6).mono ?_
   rintro e w9 ⟨rfl, rfl⟩
   rw [← hq0.out]
   exact ⟨_, rfl, hI.step 9 (by decide)⟩
  ·intro L vs ac w6 hB hL hd hI
   have b2 : ac.tmps[2]?.getD undef = .pointer (some ⟨bx, 0, none⟩) := hB.at 2 (by kernel_rfl)
   exact stepI_run (v := .pointer (some ⟨bx, 2, none⟩)) rfl (by simp [execOp, go_sem, Act.eval, b2]) (hI.step 10 (by decide))
  ·intro L vs ac w6 hB hL hd hI
   have b15 : ac.tmps[15]?.getD undef = .pointer (some ⟨bx, 2, none⟩) := (hB.val 10 (hd ⟨10, .data⟩ (by simp) rfl) 15 rfl).trans (hI.1 10 (hd ⟨10, .data⟩ (by simp) rfl))
   have kc : w6.cell? ⟨bx, 2, none⟩ = some (.string S) := (hI.below.cell (World.block_lt_of_cell? _ _ x2)).trans x2
   exact stepI_run (v := .string S) rfl (by simp [execOp, go_sem, Act.eval, b15, kc]) (hI.step 11 (by decide))
  ·intro L vs ac w6 hB hL hd hI
   have b16 : ac.tmps[16]?.getD undef = .string S := (hB.val 11 (hd ⟨11, .data⟩ (by simp) rfl) 16 rfl).trans (hI.1 11 (hd ⟨11, .data⟩ (by simp) rfl))
   exact stepI_run (v := .int .i64 (S.size : Int)) rfl (by simp [go_sem, Act.eval, b16]) (hI.step 12 (by decide))
  ·intro L vs ac w6 hB hL hd hI
   have b3 : ac.tmps[3]?.getD undef = .pointer (some ⟨bx + 1, 0, none⟩) := hB.at 3 (by kernel_rfl)
   exact stepI_run (v := .pointer (some ⟨bx + 1, 2, none⟩)) rfl (by simp [execOp, go_sem, Act.eval, b3]) (hI.step 13 (by decide))
  ·intro L vs ac w6 hB hL hd hI
   have b18 : ac.tmps[18]?.getD undef = .pointer (some ⟨bx + 1, 2, none⟩) := (hB.val 13 (hd ⟨13, .data⟩ (by simp) rfl) 18 rfl).trans (hI.1 13 (hd ⟨13, .data⟩ (by simp) rfl))
   have kc : w6.cell? ⟨bx + 1, 2, none⟩ = some (.string U) := (hI.below.cell (World.block_lt_of_cell? _ _ y2)).trans y2
   exact stepI_run (v := .string U) rfl (by simp [execOp, go_sem, Act.eval, b18, kc]) (hI.step 14 (by decide))
  ·intro L vs ac w6 hB hL hd hI
   have b19 : ac.tmps[19]?.getD undef = .string U := (hB.val 14 (hd ⟨14, .data⟩ (by simp) rfl) 19 rfl).trans (hI.1 14 (hd ⟨14, .data⟩ (by simp) rfl))
   exact stepI_run (v := .int .i64 (U.size : Int)) rfl (by simp [go_sem, Act.eval, b19]) (hI.step 15 (by decide))
  ·intro L vs ac w6 hB hL hd hI
   have b17 : ac.tmps[17]?.getD undef = .int .i64 (S.size : Int) := (hB.val 12 (hd ⟨12, .data⟩ (by simp) rfl) 17 rfl).trans (hI.1 12 (hd ⟨12, .data⟩ (by simp) rfl))
   have b20 : ac.tmps[20]?.getD undef = .int .i64 (U.size : Int) := (hB.val 15 (hd ⟨15, .data⟩ (by simp) rfl) 20 rfl).trans (hI.1 15 (hd ⟨15, .data⟩ (by simp) rfl))
   refine stepI_call (f := 48) (args := #[.int .i64 (S.size : Int), .int .i64 (U.size : Int)]) rfl (by simp [go_sem, b17, b20]) ?_
   refine (cmp_any (S.size : Int) (U.size : Int) w6).mono ?_
   rintro e w9 ⟨rfl, rfl⟩
   rw [← hr0.out]
   exact ⟨_, rfl, hI.step 16 (by decide)⟩
  ·intro L vs ac w6 hB hL hd hI
   have b2 : ac.tmps[2]?.getD undef = .pointer (some ⟨bx, 0, none⟩) := hB.at 2 (by kernel_rfl)
   exact stepI_run (v := .pointer (some ⟨bx, 2, none⟩)) rfl (by simp [execOp, go_sem, Act.eval, b2]) (hI.step 17 (by decide))
  ·intro L vs ac w6 hB hL hd hI
   have b22 : ac.tmps[22]?.getD undef = .pointer (some ⟨bx, 2, none⟩) := (hB.val 17 (hd ⟨17, .data⟩ (by simp) rfl) 22 rfl).trans (hI.1 17 (hd ⟨17, .data⟩ (by simp) rfl))
   have kc : w6.cell? ⟨bx, 2, none⟩ = some (.string S) := (hI.below.cell (World.block_lt_of_cell? _ _ x2)).trans x2
   exact stepI_run (v := .string S) rfl (by simp [execOp, go_sem, Act.eval, b22, kc]) (hI.step 18 (by decide))
  ·intro L vs ac w6 hB hL hd hI
   have b3 : ac.tmps[3]?.getD undef = .pointer (some ⟨bx + 1, 0, none⟩) := hB.at 3 (by kernel_rfl)
   exact stepI_run (v := .pointer (some ⟨bx + 1, 2, none⟩)) rfl (by simp [execOp, go_sem, Act.eval, b3]) (hI.step 19 (by decide))
  ·intro L vs ac w6 hB hL hd hI
   have b24 : ac.tmps[24]?.getD undef = .pointer (some ⟨bx + 1, 2, none⟩) := (hB.val 19 (hd ⟨19, .data⟩ (by simp) rfl) 24 rfl).trans (hI.1 19 (hd ⟨19, .data⟩ (by simp) rfl))
   have kc : w6.cell? ⟨bx + 1, 2, none⟩ = some (.string U) := (hI.below.cell (World.block_lt_of_cell? _ _ y2)).trans y2
   exact stepI_run (v := .string U) rfl (by simp [execOp, go_sem, Act.eval, b24, kc]) (hI.step 20 (by decide))
  ·intro L vs ac w6 hB hL hd hI
   have b23 : ac.tmps[23]?.getD undef = .string S := (hB.val 18 (hd ⟨18, .data⟩ (by simp) rfl) 23 rfl).trans (hI.1 18 (hd ⟨18, .data⟩ (by simp) rfl))
   have b25 : ac.tmps[25]?.getD undef = .string U := (hB.val 20 (hd ⟨20, .data⟩ (by simp) rfl) 25 rfl).trans (hI.1 20 (hd ⟨20, .data⟩ (by simp) rfl))
   refine stepI_call (f := 49) (args := #[.string S, .string U]) rfl (by simp [go_sem, b23, b25]) ?_
   refine (HS3.out w6).mono ?_
   rintro e w9 ⟨rfl, rfl⟩
   exact ⟨_, rfl, hI.step 21 (by decide)⟩
  ·intro L vs ac w6 hB hL hd hI
   have b9 : ac.tmps[9]?.getD undef = .int .i64 p := (hB.val 4 (hd ⟨4, .data⟩ (by simp) rfl) 9 rfl).trans (hI.1 4 (hd ⟨4, .data⟩ (by simp) rfl))
   have b14 : ac.tmps[14]?.getD undef = .int .i64 q := (hB.val 9 (hd ⟨9, .data⟩ (by simp) rfl) 14 rfl).trans (hI.1 9 (hd ⟨9, .data⟩ (by simp) rfl))
   have b21 : ac.tmps[21]?.getD undef = .int .i64 r := (hB.val 16 (hd ⟨16, .data⟩ (by simp) rfl) 21 rfl).trans (hI.1 16 (hd ⟨16, .data⟩ (by simp) rfl))
   have b26 : ac.tmps[26]?.getD undef = .int .i64 r3 := (hB.val 21 (hd ⟨21, .data⟩ (by simp) rfl) 26 rfl).trans (hI.1 21 (hd ⟨21, .data⟩ (by simp) rfl))
   have hs := hI.size hL
   exact stepI_run (v := .slice (some ⟨W.heap.size, 0, none⟩) 4 4) (w' := w6.alloc (.cells #[.int .i64 p, .int .i64 q, .int .i64 r, .int .i64 r3] 3)) rfl (by simp [execOp, go_sem, Act.eval, b9, b14, b21, b26, hs]) (hI.mk hL)
  ·intro L vs ac w6 hB hL hd hI
   have b27 : ac.tmps[27]?.getD undef = .slice (some ⟨W.heap.size, 0, none⟩) 4 4 := (hB.val 22 (hd ⟨22, .data⟩ (by simp) rfl) 27 rfl).trans (hI.1 22 (hd ⟨22, .data⟩ (by simp) rfl))
   refine stepI_call (f := 47) (args := #[.slice (some ⟨W.heap.size, 0, none⟩) 4 4]) rfl (by simp [go_sem, b27]) ?_
   have h15 : L 22 = true := hd ⟨22, .data⟩ (by simp) rfl
   have hw6 := hI.2
   rw [h15, if_pos rfl] at hw6
   have hsl : Sl iv w6 (.slice (some ⟨W.heap.size, 0, none⟩) [p, q, r, r3].length 4) [p, q, r, r3] := by rw [hw6]; exact Sl.of_own (own_litS W.drew 3 #[.int .i64 p, .int .i64 q, .int .i64 r, .int .i64 r3] 4 W.heap.size _ rfl rfl (by decide) rfl)
   refine (or_any _ [p, q, r, r3] w6 hsl (by simp)).mono ?_
   rintro e w9 ⟨rfl, rfl⟩
   rw [← hz0.out]
   exact ⟨_, rfl, hI.step 23 (by decide)⟩
  ·intro L vs ac w6 hB hL hd hI
   have b28 : ac.tmps[28]?.getD undef = .int .i64 z := (hB.val 23 (hd ⟨23, .data⟩ (by simp) rfl) 28 rfl).trans (hI.1 23 (hd ⟨23, .data⟩ (by simp) rfl))
   exact stepI_run (v := .int .i64 z) rfl (by simp [execOp, go_sem, Act.eval, b28]) (hI.step 24 (by decide))
 ·intro L vs w7 hall hI
  have e17 : vs 24 = .int .i64 z := hI.1 24 (hall 24 (by decide))
  have hbl := hI.below
  have HBL := Lib.hid (below_ext2 HBW.out hbl)
  clear hI hall hbl
  simp only [putAll, Act.put, List.setIfInBounds_toArray, List.set_cons_zero, List.set_cons_succ, Nat.zero_add, Nat.reduceAdd, e17]
  go_wp2_with fail
  go_ret
  exact ⟨rfl, HBL.out⟩
theorem bytesLess_same : ∀ l : List UInt8, Op.bytesLess l l = false
 | [] => rfl
 | c :: l => by simp [Op.bytesLess, bytesLess_same l]
theorem cmps_same (S : ByteArray) (w : World) : Calls Tryz.prog 49 #[.string S, .string S] w fun e w' => e = .returned (.int .i64 0) ∧ w = w' := by
 have hbl := bytesLess_same S.toList
 go_enter Tryz.func49, Tryz.ntmps49
 go_wp2_with fail
 refine (isnans_any _ _).mono ?_
 rintro e w5 ⟨rfl, rfl⟩
 go_wp2_with fail
 refine (isnans_any _ _).mono ?_
 rintro e w5 ⟨rfl, rfl⟩
 go_wp2
 go_ret
 exact ⟨rfl, rfl⟩
theorem compare_same (k n : Int) (s : Bs) (w : World) : Calls Tryz.prog 21 #[vl k n s, vl k n s] w (Tells w (.int .i64 0)) := by
 have h := compare_gen k n s k n s 0 w (fun W => cmps_same (ofL s) W)
 have c : ∀ x : Int, cmpI x x = 0 := fun x => by unfold cmpI; rw [if_neg (by omega), if_neg (by omega)]
 rw [c, c, c] at h
 exact h
end Go.Proofs.YtnainhpcmoekcaaGreatDoor
