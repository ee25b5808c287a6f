/- nfa's small functions: isState, isLetter, cmp.Compare of ints. -/
import Derived.Test.YtockgbilbnheaaaDoorBytes
import Derived.Test.YtockgbilbnheaaaDoorSl
import Derived.Test.YtockgbilbnheaaaDoorLaw
import Derived.Deep.QuietTactic
import Derived.BigQuiet
import Derived.Test.YtockgbilbnheaaaDoorRegion
namespace Go.Proofs.YtockgbilbnheaaaDoor
/- nfa's small functions: isState, isLetter, cmp.Compare of ints. -/
open Go.RowKit

theorem isletter_any (x : Int) (w : World) : Calls Tryd.prog 44 #[.int .i64 x] w fun e w' => e = .returned (.bool (decide (1 ≤ x ∧ x ≤ 10000))) ∧ w = w' := by
 by_cases h0 : 1 ≤ x
 ·have d0 : decide (1 ≤ x) = true := decide_eq_true h0
  have e : decide (1 ≤ x ∧ x ≤ 10000) = decide (x ≤ 10000) := by simp [h0]
  rw [e]
  clear e h0
  go_enter Tryd.func44, Tryd.ntmps44
  go_wp2
  go_ret
  exact ⟨rfl, rfl⟩
 ·have d0 : decide (1 ≤ x) = false := decide_eq_false h0
  have e : decide (1 ≤ x ∧ x ≤ 10000) = false := decide_eq_false fun h => h0 h.1
  rw [e]
  clear e h0
  go_enter Tryd.func44, Tryd.ntmps44
  go_wp2
  go_ret
  exact ⟨rfl, rfl⟩
/-- What cmp.Compare says of integers. -/
def cmpI (x y : Int) : Int := if x < y then -1 else if y < x then 1 else 0
theorem isnan_any (x : Int) (w : World) : Calls Tryd.prog 70 #[.int .i64 x] w fun e w' => e = .returned (.bool false) ∧ w = w' := by
 have d0 : decide (x = x) = true := decide_eq_true rfl
 go_enter Tryd.func70, Tryd.ntmps70
 go_wp2
 go_ret
 exact ⟨by simp, rfl⟩
theorem cmp_any (x y : Int) (w : World) : Calls Tryd.prog 61 #[.int .i64 x, .int .i64 y] w fun e w' => e = .returned (.int .i64 (cmpI x y)) ∧ w = w' := by
 obtain ⟨R, hR⟩ : ∃ R, R = cmpI x y := ⟨_, rfl⟩
 rw [← hR]
 by_cases h0 : x < y
 ·have e : R = -1 := by rw [hR, cmpI, if_pos h0]
  subst e
  clear hR
  go_enter Tryd.func61, Tryd.ntmps61
  go_wp2_with fail
  refine (isnan_any _ _).mono ?_
  rintro e w5 ⟨rfl, rfl⟩
  go_wp2_with fail
  refine (isnan_any _ _).mono ?_
  rintro e w5 ⟨rfl, rfl⟩
  go_wp2
  go_ret
  exact ⟨rfl, rfl⟩
 ·by_cases h1 : y < x
  ·have e : R = 1 := by rw [hR, cmpI, if_neg h0, if_pos h1]
   subst e
   clear hR
   go_enter Tryd.func61, Tryd.ntmps61
   go_wp2_with fail
   refine (isnan_any _ _).mono ?_
   rintro e w5 ⟨rfl, rfl⟩
   go_wp2_with fail
   refine (isnan_any _ _).mono ?_
   rintro e w5 ⟨rfl, rfl⟩
   go_wp2
   go_ret
   exact ⟨rfl, rfl⟩
  ·have e : R = 0 := by rw [hR, cmpI, if_neg h0, if_neg h1]
   subst e
   clear hR
   go_enter Tryd.func61, Tryd.ntmps61
   go_wp2_with fail
   refine (isnan_any _ _).mono ?_
   rintro e w5 ⟨rfl, rfl⟩
   go_wp2_with fail
   refine (isnan_any _ _).mono ?_
   rintro e w5 ⟨rfl, rfl⟩
   go_wp2
   go_ret
   exact ⟨rfl, rfl⟩
/- nfa's compare, of cmp.Or. -/
open Go.RowKit

/-- The first that is not 0, or 0. -/
def orI : List Int → Int
 | [] => 0
 | x :: l => if x = 0 then orI l else x
theorem orI_drop {l : List Int} {k : Nat} (hk : k < l.length) : orI (l.drop k) = if l[k] = 0 then orI (l.drop (k + 1)) else l[k] := by
 rw [List.drop_eq_getElem_cons hk]; rfl
theorem or_any (v : Value) (l : List Int) (w : World) (h : Sl iv w v l) (hl : l.length ≤ 1000) :
  Calls Tryd.prog 60 #[v] w fun e w' => e = .returned (.int .i64 (orI l)) ∧ w = w' := by
 obtain ⟨A, c, rfl⟩ := h.shape
 obtain ⟨R, hR⟩ : ∃ R, R = orI l := ⟨_, rfl⟩
 rw [← hR]
 have H := Lib.hid h
 have HR := Lib.hid hR
 clear h hR
 go_enter Tryd.func60, Tryd.ntmps60
 go_wp2
 go_loop [8] (fun i => ∃ k : Nat, k ≤ l.length ∧ i = .int .i64 k ∧ R = orI (l.drop k)) (fun i => l.length - (intOf i).toNat)
 case atStart => exact ⟨0, Nat.zero_le _, rfl, by rw [HR.out]; rfl⟩
 case round =>
  obtain ⟨k, hk, rfl, hr⟩ := hrel
  by_cases hlt : k < l.length
  ·obtain ⟨ad, c', hs, hcap, hcell⟩ := sl_cell H.out k hlt
   simp only [Value.slice.injEq, true_and] at hs
   obtain ⟨rfl, rfl⟩ := hs
   rw [orI_drop hlt] at hr
   generalize l[k] = x at *
   unfold iv at hcell
   by_cases hx : x = 0
   ·rw [if_pos hx] at hr
    subst hx
    have Hr := Lib.hid hr
    clear hr
    go_wp2
    go_round
    case rel => exact ⟨k + 1, by omega, by go_num, Hr.out⟩
    case measure => simp [intOf]; omega
   ·rw [if_neg hx] at hr
    have Hr := Lib.hid hr
    clear hr
    go_wp2
    go_ret
    exact ⟨by rw [Hr.out]; first | done | rfl, rfl⟩
  ·have hr2 : R = 0 := by rw [hr, List.drop_of_length_le (by omega)]; rfl
   subst hr2
   clear hr
   go_wp2
   go_ret
   exact ⟨rfl, rfl⟩
/- nfa's compare: by from, letter, to. -/
open Go.RowKit

/-- An arc: from, letter, to. -/
abbrev Ac := Int × Int × Int
def av (x : Ac) : Value := .agg #[.int .i64 x.1, .int .i64 x.2.1, .int .i64 x.2.2]
def cmpA (x y : Ac) : Int := orI [cmpI x.1 y.1, cmpI x.2.1 y.2.1, cmpI x.2.2 y.2.2]
/-- x comes before y. -/
def LtA (x y : Ac) : Prop := x.1 < y.1 ∨ x.1 = y.1 ∧ (x.2.1 < y.2.1 ∨ x.2.1 = y.2.1 ∧ x.2.2 < y.2.2)
theorem cmpI_zero {x y : Int} : cmpI x y = 0 ↔ x = y := by
 unfold cmpI
 repeat' split
 all_goals omega
theorem cmpI_neg {x y : Int} : cmpI x y < 0 ↔ x < y := by
 unfold cmpI
 repeat' split
 all_goals omega
theorem cmpA_neg {x y : Ac} : cmpA x y < 0 ↔ LtA x y := by
 unfold cmpA LtA orI orI orI orI cmpI
 repeat' split
 all_goals omega
theorem cmpA_zero {x y : Ac} : cmpA x y = 0 ↔ x = y := by
 obtain ⟨a, b, c⟩ := x
 obtain ⟨a', b', c'⟩ := y
 simp only [Prod.mk.injEq]
 unfold cmpA orI orI orI orI cmpI
 repeat' split
 all_goals (first | omega | (dsimp only at *; omega))
theorem step_runA {P : Program} {ops : Array Oper} {Q : Exit → Act → World → Prop} {Phi : Nat → Value → World → Prop} {i : Nat} {o : Oper} {a : Act} {w w' : World} {v : Value} (hw : Region.wanted o (yielded ops a.tmps) = true)
  (hr : (execOp a.eval o).run P w = .ok (.value v) w') (hb : Below w.heap.size w w') (h : Phi i v w') : StepOk P ops Q Phi i o a w :=
 step_on hw (by unfold Oper.wp; rw [hr]; exact ⟨v, rfl, hb, h⟩)
set_option maxRecDepth 100000 in
theorem compare_any (x y : Ac) (w : World) : Calls Tryd.prog 45 #[av x, av y] w fun e w' => e = .returned (.int .i64 (cmpA x y)) ∧ Below w.heap.size w w' := by
 obtain ⟨s0, s1, s2⟩ := x
 obtain ⟨t0, t1, t2⟩ := y
 unfold av cmpA
 dsimp only
 obtain ⟨p, hp⟩ : ∃ p, p = cmpI s0 t0 := ⟨_, rfl⟩
 obtain ⟨q, hq⟩ : ∃ q, q = cmpI s1 t1 := ⟨_, rfl⟩
 obtain ⟨r, hr⟩ : ∃ r, r = cmpI s2 t2 := ⟨_, rfl⟩
 rw [← hp, ← hq, ← hr]
 obtain ⟨z, hz⟩ : ∃ z, z = orI [p, q, r] := ⟨_, rfl⟩
 rw [← hz]
 have hp0 := Lib.hid hp
 have hq0 := Lib.hid hq
 have hr0 := Lib.hid hr
 have hz0 := Lib.hid hz
 clear hp hq hr hz
 go_enter Tryd.func45, Tryd.ntmps45
 go_wp2_with fail
 obtain ⟨W, hW⟩ : ∃ W : World, W = (w.alloc (Obj.cells #[Value.int IntKind.i64 s0, Value.int IntKind.i64 s1, Value.int IntKind.i64 s2] 52)).alloc (Obj.cells #[Value.int IntKind.i64 t0, Value.int IntKind.i64 t1, Value.int IntKind.i64 t2] 52) := ⟨_, rfl⟩
 have Hbw : Hid (Below w.heap.size w W) := Lib.hid (by rw [hW]; exact ((Below.refl _ w).alloc (Nat.le_refl _) _).alloc (by simp) _)
 obtain ⟨x0, x1, x2, y0, y1, y2⟩ : W.cell? ⟨w.heap.size, 0, none⟩ = some (.int .i64 s0) ∧ W.cell? ⟨w.heap.size, 1, none⟩ = some (.int .i64 s1) ∧ W.cell? ⟨w.heap.size, 2, none⟩ = some (.int .i64 s2) ∧ W.cell? ⟨w.heap.size + 1, 0, none⟩ = some (.int .i64 t0) ∧ W.cell? ⟨w.heap.size + 1, 1, none⟩ = some (.int .i64 t1) ∧ W.cell? ⟨w.heap.size + 1, 2, none⟩ = some (.int .i64 t2) := by
  rw [hW]
  have e1 := heap_alloc_new (w.alloc (Obj.cells #[Value.int IntKind.i64 s0, Value.int IntKind.i64 s1, Value.int IntKind.i64 s2] 52)) (Obj.cells #[Value.int IntKind.i64 t0, Value.int IntKind.i64 t1, Value.int IntKind.i64 t2] 52)
  have e0 := heap_alloc_new w (Obj.cells #[Value.int IntKind.i64 s0, Value.int IntKind.i64 s1, Value.int IntKind.i64 s2] 52)
  refine ⟨?_, ?_, ?_, ?_, ?_, ?_⟩ <;> go_simp
 rw [← hW]
 clear hW
 refine region_phi (n := 22) (fun i v w' => match i with
   | 0 => v = .pointer (some ⟨w.heap.size, 0, none⟩)
   | 1 => v = .int .i64 s0
   | 2 => v = .pointer (some ⟨w.heap.size + 1, 0, none⟩)
   | 3 => v = .int .i64 t0
   | 4 => v = .int .i64 p
   | 5 => v = .pointer (some ⟨w.heap.size, 1, none⟩)
   | 6 => v = .int .i64 s1
   | 7 => v = .pointer (some ⟨w.heap.size + 1, 1, none⟩)
   | 8 => v = .int .i64 t1
   | 9 => v = .int .i64 q
   | 10 => v = .pointer (some ⟨w.heap.size, 2, none⟩)
   | 11 => v = .int .i64 s2
   | 12 => v = .pointer (some ⟨w.heap.size + 1, 2, none⟩)
   | 13 => v = .int .i64 t2
   | 14 => v = .int .i64 r
   | 15 => Sl iv w' v [p, q, r]
   | 16 => v = .int .i64 z
   | 17 => v = .int .i64 z
   | _ => True) (by kernel_rfl) (by kernel_rfl) rfl ?_ (allOps_spec ?_) ?_
 ·intro i v w1 w2 h hb
  match i, h with
  | 0, h => exact h
  | 1, h => exact h
  | 2, h => exact h
  | 3, h => exact h
  | 4, h => exact h
  | 5, h => exact h
  | 6, h => exact h
  | 7, h => exact h
  | 8, h => exact h
  | 9, h => exact h
  | 10, h => exact h
  | 11, h => exact h
  | 12, h => exact h
  | 13, h => exact h
  | 14, h => exact h
  | 15, h => exact h.below hb
  | 16, h => exact h
  | 17, h => exact h
  | _ + 18, _ => trivial
 ·refine ⟨?_, ?_, ?_, ?_, ?_, ?_, ?_, ?_, ?_, ?_, ?_, ?_, ?_, ?_, ?_, ?_, ?_, ?_, trivial⟩
  ·intro a w' hb hp
   have b2 : a.tmps[2]?.getD undef = .pointer (some ⟨w.heap.size, 0, none⟩) := hb.at 2 (by kernel_rfl)
   exact step_run (v := .pointer (some ⟨w.heap.size, 0, none⟩)) rfl (by go_simp) rfl
  ·intro a w' hb hp
   have h5 : a.tmps[5]?.getD undef = .pointer (some ⟨w.heap.size, 0, none⟩) := slot_eq.symm.trans (hp ⟨0, .data⟩ (by simp) rfl _ rfl)
   have k1 : w'.cell? ⟨w.heap.size, 0, none⟩ = some (.int .i64 s0) := by rw [hb.ext.cell (World.block_lt_of_cell? _ _ x0)]; exact x0
   exact step_run (v := .int .i64 s0) rfl (by go_simp) rfl
  ·intro a w' hb hp
   have b3 : a.tmps[3]?.getD undef = .pointer (some ⟨w.heap.size + 1, 0, none⟩) := hb.at 3 (by kernel_rfl)
   exact step_run (v := .pointer (some ⟨w.heap.size + 1, 0, none⟩)) rfl (by go_simp) rfl
  ·intro a w' hb hp
   have h7 : a.tmps[7]?.getD undef = .pointer (some ⟨w.heap.size + 1, 0, none⟩) := slot_eq.symm.trans (hp ⟨2, .data⟩ (by simp) rfl _ rfl)
   have k1 : w'.cell? ⟨w.heap.size + 1, 0, none⟩ = some (.int .i64 t0) := by rw [hb.ext.cell (World.block_lt_of_cell? _ _ y0)]; exact y0
   exact step_run (v := .int .i64 t0) rfl (by go_simp) rfl
  ·intro a w' hb hp
   have h6 : a.tmps[6]?.getD undef = .int .i64 s0 := slot_eq.symm.trans (hp ⟨1, .data⟩ (by simp) rfl _ rfl)
   have h8 : a.tmps[8]?.getD undef = .int .i64 t0 := slot_eq.symm.trans (hp ⟨3, .data⟩ (by simp) rfl _ rfl)
   refine step_call (f := 61) (args := #[.int .i64 s0, .int .i64 t0]) rfl (by simp [go_sem, h6, h8]) ?_
   refine (cmp_any s0 t0 w').mono ?_
   rintro e w5 ⟨rfl, rfl⟩
   exact ⟨_, rfl, Below.refl _ _, congrArg (Value.int .i64) hp0.out.symm⟩
  ·intro a w' hb hp
   have b2 : a.tmps[2]?.getD undef = .pointer (some ⟨w.heap.size, 0, none⟩) := hb.at 2 (by kernel_rfl)
   exact step_run (v := .pointer (some ⟨w.heap.size, 1, none⟩)) rfl (by go_simp) rfl
  ·intro a w' hb hp
   have h10 : a.tmps[10]?.getD undef = .pointer (some ⟨w.heap.size, 1, none⟩) := slot_eq.symm.trans (hp ⟨5, .data⟩ (by simp) rfl _ rfl)
   have k1 : w'.cell? ⟨w.heap.size, 1, none⟩ = some (.int .i64 s1) := by rw [hb.ext.cell (World.block_lt_of_cell? _ _ x1)]; exact x1
   exact step_run (v := .int .i64 s1) rfl (by go_simp) rfl
  ·intro a w' hb hp
   have b3 : a.tmps[3]?.getD undef = .pointer (some ⟨w.heap.size + 1, 0, none⟩) := hb.at 3 (by kernel_rfl)
   exact step_run (v := .pointer (some ⟨w.heap.size + 1, 1, none⟩)) rfl (by go_simp) rfl
  ·intro a w' hb hp
   have h12 : a.tmps[12]?.getD undef = .pointer (some ⟨w.heap.size + 1, 1, none⟩) := slot_eq.symm.trans (hp ⟨7, .data⟩ (by simp) rfl _ rfl)
   have k1 : w'.cell? ⟨w.heap.size + 1, 1, none⟩ = some (.int .i64 t1) := by rw [hb.ext.cell (World.block_lt_of_cell? _ _ y1)]; exact y1
   exact step_run (v := .int .i64 t1) rfl (by go_simp) rfl
  ·intro a w' hb hp
   have h11 : a.tmps[11]?.getD undef = .int .i64 s1 := slot_eq.symm.trans (hp ⟨6, .data⟩ (by simp) rfl _ rfl)
   have h13 : a.tmps[13]?.getD undef = .int .i64 t1 := slot_eq.symm.trans (hp ⟨8, .data⟩ (by simp) rfl _ rfl)
   refine step_call (f := 61) (args := #[.int .i64 s1, .int .i64 t1]) rfl (by simp [go_sem, h11, h13]) ?_
   refine (cmp_any s1 t1 w').mono ?_
   rintro e w5 ⟨rfl, rfl⟩
   exact ⟨_, rfl, Below.refl _ _, congrArg (Value.int .i64) hq0.out.symm⟩
  ·intro a w' hb hp
   have b2 : a.tmps[2]?.getD undef = .pointer (some ⟨w.heap.size, 0, none⟩) := hb.at 2 (by kernel_rfl)
   exact step_run (v := .pointer (some ⟨w.heap.size, 2, none⟩)) rfl (by go_simp) rfl
  ·intro a w' hb hp
   have h15 : a.tmps[15]?.getD undef = .pointer (some ⟨w.heap.size, 2, none⟩) := slot_eq.symm.trans (hp ⟨10, .data⟩ (by simp) rfl _ rfl)
   have k1 : w'.cell? ⟨w.heap.size, 2, none⟩ = some (.int .i64 s2) := by rw [hb.ext.cell (World.block_lt_of_cell? _ _ x2)]; exact x2
   exact step_run (v := .int .i64 s2) rfl (by go_simp) rfl
  ·intro a w' hb hp
   have b3 : a.tmps[3]?.getD undef = .pointer (some ⟨w.heap.size + 1, 0, none⟩) := hb.at 3 (by kernel_rfl)
   exact step_run (v := .pointer (some ⟨w.heap.size + 1, 2, none⟩)) rfl (by go_simp) rfl
  ·intro a w' hb hp
   have h17 : a.tmps[17]?.getD undef = .pointer (some ⟨w.heap.size + 1, 2, none⟩) := slot_eq.symm.trans (hp ⟨12, .data⟩ (by simp) rfl _ rfl)
   have k1 : w'.cell? ⟨w.heap.size + 1, 2, none⟩ = some (.int .i64 t2) := by rw [hb.ext.cell (World.block_lt_of_cell? _ _ y2)]; exact y2
   exact step_run (v := .int .i64 t2) rfl (by go_simp) rfl
  ·intro a w' hb hp
   have h16 : a.tmps[16]?.getD undef = .int .i64 s2 := slot_eq.symm.trans (hp ⟨11, .data⟩ (by simp) rfl _ rfl)
   have h18 : a.tmps[18]?.getD undef = .int .i64 t2 := slot_eq.symm.trans (hp ⟨13, .data⟩ (by simp) rfl _ rfl)
   refine step_call (f := 61) (args := #[.int .i64 s2, .int .i64 t2]) rfl (by simp [go_sem, h16, h18]) ?_
   refine (cmp_any s2 t2 w').mono ?_
   rintro e w5 ⟨rfl, rfl⟩
   exact ⟨_, rfl, Below.refl _ _, congrArg (Value.int .i64) hr0.out.symm⟩
  ·intro a w' hb hp
   have h9 : a.tmps[9]?.getD undef = .int .i64 p := slot_eq.symm.trans (hp ⟨4, .data⟩ (by simp) rfl _ rfl)
   have h14 : a.tmps[14]?.getD undef = .int .i64 q := slot_eq.symm.trans (hp ⟨9, .data⟩ (by simp) rfl _ rfl)
   have h19 : a.tmps[19]?.getD undef = .int .i64 r := slot_eq.symm.trans (hp ⟨14, .data⟩ (by simp) rfl _ rfl)
   have hown := own_litS w' 3 #[.int .i64 p, .int .i64 q, .int .i64 r] 3 w'.heap.size ([p, q, r].map iv) rfl rfl (by decide) rfl
   have hs := Sl.of_own hown
   exact step_runA (v := .slice (some ⟨w'.heap.size, 0, none⟩) 3 3) rfl (by go_simp) ((Below.refl _ w').alloc (Nat.le_refl _) _) hs
  ·intro a w' hb hp
   refine step_call (f := 60) (args := #[a.tmps[20]?.getD undef]) rfl (by simp [go_sem]) ?_
   have hB : Sl iv w' (slotOf a (some 20)) [p, q, r] := hp ⟨15, .data⟩ (by simp) rfl _ rfl
   rw [slot_eq] at hB
   refine (or_any _ _ w' hB (by simp)).mono ?_
   rintro e w5 ⟨rfl, rfl⟩
   exact ⟨_, rfl, Below.refl _ _, congrArg (Value.int .i64) hz0.out.symm⟩
  ·intro a w' hb hp
   have h21 : a.tmps[21]?.getD undef = .int .i64 z := slot_eq.symm.trans (hp ⟨16, .data⟩ (by simp) rfl _ rfl)
   exact step_run (v := .int .i64 z) rfl (by simp [execOp, Act.eval, h21]) rfl
 ·intro vs w' hb hv
  have h17 : vs 17 = .int .i64 z := hv 17 (by decide)
  simp only [putAll, Act.put, List.setIfInBounds_toArray, List.set_cons_zero, List.set_cons_succ, Nat.zero_add, Nat.reduceAdd, h17]
  clear hv h17
  have Hb : Hid (Below w.heap.size w w') := Lib.hid (Hbw.out.trans (hb.mono Hbw.out.size))
  clear hb
  go_wp2
  go_ret
  exact ⟨rfl, Hb.out⟩
/- nfa's isState. -/
open Go.RowKit
set_option maxRecDepth 100000 in
theorem isstate_any (S x : Int) (v1 v2 v3 : Value) (w : World) : Calls Tryd.prog 43 #[.agg #[.int .i64 S, v1, v2, v3], .int .i64 x] w fun e w' => e = .returned (.bool (decide (0 ≤ x ∧ x < S))) ∧ Below w.heap.size w w' := by
 by_cases h0 : 0 ≤ x
 ·have d0 : decide (0 ≤ x) = true := decide_eq_true h0
  have e : decide (0 ≤ x ∧ x < S) = decide (x < S) := by simp [h0]
  rw [e]
  clear e h0
  go_enter Tryd.func43, Tryd.ntmps43
  go_wp2
  go_ret
  exact ⟨rfl, (Below.refl _ w).alloc (Nat.le_refl _) _⟩
 ·have d0 : decide (0 ≤ x) = false := decide_eq_false h0
  have e : decide (0 ≤ x ∧ x < S) = false := decide_eq_false fun h => h0 h.1
  rw [e]
  clear e h0
  go_enter Tryd.func43, Tryd.ntmps43
  go_wp2
  go_ret
  exact ⟨rfl, (Below.refl _ w).alloc (Nat.le_refl _) _⟩
end Go.Proofs.YtockgbilbnheaaaDoor
