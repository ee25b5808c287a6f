/- Layer 10: what Valid asks: the contracts of all, at five types. -/
import Derived.Test.YtekpefcggikcbaaGreatDoorMSynL
import Derived.Test.YtekpefcggikcbaaGreatDoorPtMp
import Derived.Deep.LoopGhost
import Derived.Test.YtekpefcggikcbaaGreatDoorMLexSp
import Derived.RangeFuncWrites
namespace Go.Proofs.YtekpefcggikcbaaGreatDoor
/- Layer 10: what Valid asks: the contracts of all, at five types. -/
open Go.RowKit

def alB {α : Type} (q : α → Bool) (lo hi : Int) (l : List α) : Bool := frB (l.length : Int) lo hi && l.all q
theorem fr_iff {n lo hi : Int} (h : frB n lo hi = true) : lo ≤ n ∧ n ≤ hi := by
 unfold frB at h
 simpa using h
/-- A function that says q of a value. -/
def IsQ {α : Type} (K : Nat) (q : α → Bool) (R : World → α → Value → Prop) : Prop :=
 (∀ args w, (callFunc K args).run Tryz.prog w = .ok (.enter K args) w) ∧ ∀ w x v, R w x v → Calls Tryz.prog K #[v] w (Tells w (.bool (q x)))
def RMs (S : Nat → Prop) (w : World) (m : Ms) (v : Value) : Prop := ∃ v1 v2, v = .agg #[.string (ofL m.nm), v1, v2] ∧ Lies w S v1 (.s 4 (m.fs.flatMap dF)) ∧ Lies w S v2 (.s 9 (m.wh.flatMap dA))
def RPr (S : Nat → Prop) (w : World) (p : Pr) (v : Value) : Prop := ∃ v1 v2 v3, v = .agg #[.string (ofL p.nm), v1, v2, v3] ∧ Lies w S v1 (dL p.rs) ∧ Lies w S v2 (.s 3 (p.ms.flatMap dM)) ∧ Lies w S v3 (dB p.bd)
def AlRel {α : Type} (W0 : World) (q : α → Bool) (l : List α) (gk : Nat) (v : Value) (wr : World) : Prop :=
 ∃ i : Nat, v = .int .i64 (i : Int) ∧ i ≤ l.length ∧ l.length ≤ gk + i ∧ (l.take i).all q = true ∧ Hid (Below W0.heap.size W0 wr)
theorem dS1_len (x : Bs) : ([dS x] : List D).length = 1 := rfl
theorem str_cells {w : World} {S : Nat → Prop} {b o : Nat} {xs : List Bs} {i : Nat} {x : Bs} (h : ∀ (i : Nat) d, (xs.flatMap fun x => [dS x])[i]? = some d → ∃ u, w.cell? ⟨b, o + i, none⟩ = some u ∧ Lies w S u d) (hi : xs[i]? = some x) :
  w.cell? ⟨b, o + i, none⟩ = some (.string (ofL x)) := by
 obtain ⟨u, h1, h2⟩ := h (i * 1 + 0) (dS x) (by rw [flat_get dS1_len xs i 0 x hi (by omega)]; rfl)
 rw [show i * 1 + 0 = i by omega] at h1
 rw [h1, h2.cell_eq]; rfl
section
variable {w w' : World} {S : Nat → Prop}
set_option maxHeartbeats 2000000 in
theorem allS_any (K : Nat) (q : Bs → Bool) (hK : IsQ K q fun _ x v => v = vS x) (lo hi : Int) (l : List Bs) (v : Value) (L : Lies w S v (dL l)) (hh : hi ≤ 1000000000) :
  Calls Tryz.prog 88 #[v, .int .i64 lo, .int .i64 hi, .func (.func K) #[] #[]] w (Tells w (.bool (alB q lo hi l))) := by
 obtain ⟨A, m, c, rfl, hm⟩ := L.slc
 obtain rfl : m = l.length := by have : m * 1 = (l.flatMap (fun x => [dS x])).length := hm; rw [flat_len dS1_len] at this; omega
 have LL := Lib.hid L
 have hE := hK.1
 have hK2 := Lib.hid hK.2
 clear L hK hm
 cases hb : frB (l.length : Int) lo hi with
 | false =>
  have H := Lib.hid (show false = alB q lo hi l by unfold alB; rw [hb]; rfl)
  have HB := Lib.hid hb
  clear hb
  go_enter Tryz.func88, Tryz.ntmps88
  go_wp2_with fail
  refine (isFrom_any _ _ _).mono ?_; rintro e w2 ⟨rfl, rfl⟩; rw [HB.out]
  go_wp2_with fail
  go_ret
  exact ⟨by rw [H.out]; rfl, Below.refl _ _⟩
 | true =>
  have H := Lib.hid (show l.all q = alB q lo hi l by unfold alB; rw [hb]; rfl)
  have HB := Lib.hid hb
  have hn : l.length ≤ 1000000000 := by have := (fr_iff hb).2; omega
  clear hb
  go_enter Tryz.func88, Tryz.ntmps88
  go_wp2_with fail
  refine (isFrom_any _ _ _).mono ?_; rintro e w2 ⟨rfl, rfl⟩; rw [HB.out]
  go_wp2_with fail
  go_loopg [10, 19, 20, 21, 22, 23, 24, 25, 26] l.length (fun gk _ vi _ _ _ _ _ _ _ wr => AlRel w q l gk vi wr)
  case atStart => exact ⟨0, rfl, by omega, by omega, rfl, Below.refl _ _⟩
  case round =>
   obtain ⟨i, rfl, hil, hgk, hq, HR⟩ := hrel
   by_cases hie : i = l.length
   ·have hc : ¬ ((i : Int) < (l.length : Int)) := by omega
    have HF := Lib.hid (show true = alB q lo hi l by rw [← H.out, ← hq, hie, List.take_length])
    clear hie
    go_wp2_with fail
    go_ret
    exact ⟨by rw [← HF.out]; rfl, HR.out⟩
   ·have hc : (i : Int) < (l.length : Int) := by omega
    have hlt2 : i < l.length := by omega
    obtain ⟨x, hx⟩ : ∃ x, l[i]? = some x := ⟨l[i], List.getElem?_eq_getElem hlt2⟩
    have LW := Lib.hid (LL.out.belowT HR.out)
    obtain ⟨bb, o, n', c', he, hn', -, hbl2, hcell⟩ := sl_cell LW.out (by intro e0; have := congrArg List.length e0; rw [flat_len dS1_len, List.length_nil] at this; omega)
    simp only [Value.slice.injEq] at he
    obtain ⟨rfl, -, rfl⟩ := he
    have u0 := str_cells hcell hx
    have HA := Lib.hid (HR.out)
    have HX := Lib.hid hx
    have HQ := Lib.hid hq
    clear hx hcell hbl2 hie hq
    go_wp2_with fail
    refine (hK2.out _ x _ rfl).mono ?_; rintro e w4 ⟨rfl, hb4⟩
    have H4 := Lib.hid (HA.out.trans (hb4.mono HA.out.size))
    clear hb4 u0
    cases hqx : q x with
    | false =>
     have HF := Lib.hid (show false = alB q lo hi l by
      rw [← H.out]
      exact (List.all_eq_false.2 ⟨x, List.mem_of_getElem? HX.out, by simp [hqx]⟩).symm)
     clear hqx
     go_wp2_with fail
     go_ret
     exact ⟨by rw [← HF.out]; rfl, H4.out⟩
    | true =>
     have HF := Lib.hid (show (l.take (i + 1)).all q = true by
      rw [List.take_add_one, List.all_append, HQ.out, HX.out]
      simp [hqx])
     clear hqx
     go_wp2_with fail
     go_roundg (gk - 1)
     case rel => exact ⟨i + 1, by simp, by omega, by omega, HF.out, H4⟩
     case measure => omega
set_option maxHeartbeats 2000000 in
theorem allF_any (K : Nat) (q : Fd → Bool) (hK : IsQ K q fun _ x v => v = vF x) (lo hi : Int) (l : List Fd) (v : Value) (L : Lies w S v (.s 4 (l.flatMap dF))) (hh : hi ≤ 1000000000) :
  Calls Tryz.prog 151 #[v, .int .i64 lo, .int .i64 hi, .func (.func K) #[] #[]] w (Tells w (.bool (alB q lo hi l))) := by
 obtain ⟨A, m, c, rfl, hm⟩ := L.slc
 obtain rfl : m = l.length := by have : m * 4 = (l.flatMap dF).length := hm; rw [flat_len dF_len] at this; omega
 have LL := Lib.hid L
 have hE := hK.1
 have hK2 := Lib.hid hK.2
 clear L hK hm
 cases hb : frB (l.length : Int) lo hi with
 | false =>
  have H := Lib.hid (show false = alB q lo hi l by unfold alB; rw [hb]; rfl)
  have HB := Lib.hid hb
  clear hb
  go_enter Tryz.func151, Tryz.ntmps151
  go_wp2_with fail
  refine (isFrom_any _ _ _).mono ?_; rintro e w2 ⟨rfl, rfl⟩; rw [HB.out]
  go_wp2_with fail
  go_ret
  exact ⟨by rw [H.out]; rfl, Below.refl _ _⟩
 | true =>
  have H := Lib.hid (show l.all q = alB q lo hi l by unfold alB; rw [hb]; rfl)
  have HB := Lib.hid hb
  have hn : l.length ≤ 1000000000 := by have := (fr_iff hb).2; omega
  clear hb
  go_enter Tryz.func151, Tryz.ntmps151
  go_wp2_with fail
  refine (isFrom_any _ _ _).mono ?_; rintro e w2 ⟨rfl, rfl⟩; rw [HB.out]
  go_wp2_with fail
  go_loopg [10, 19, 20, 21, 22, 23, 24, 25, 26] l.length (fun gk _ vi _ _ _ _ _ _ _ wr => AlRel w q l gk vi wr)
  case atStart => exact ⟨0, rfl, by omega, by omega, rfl, Below.refl _ _⟩
  case round =>
   obtain ⟨i, rfl, hil, hgk, hq, HR⟩ := hrel
   by_cases hie : i = l.length
   ·have hc : ¬ ((i : Int) < (l.length : Int)) := by omega
    have HF := Lib.hid (show true = alB q lo hi l by rw [← H.out, ← hq, hie, List.take_length])
    clear hie
    go_wp2_with fail
    go_ret
    exact ⟨by rw [← HF.out]; rfl, HR.out⟩
   ·have hc : (i : Int) < (l.length : Int) := by omega
    have hlt2 : i < l.length := by omega
    obtain ⟨x, hx⟩ : ∃ x, l[i]? = some x := ⟨l[i], List.getElem?_eq_getElem hlt2⟩
    have LW := Lib.hid (LL.out.belowT HR.out)
    obtain ⟨bb, o, n', c', he, hn', -, hbl2, hcell⟩ := sl_cell LW.out (by intro e0; have := congrArg List.length e0; rw [flat_len dF_len, List.length_nil] at this; omega)
    simp only [Value.slice.injEq] at he
    obtain ⟨rfl, -, rfl⟩ := he
    obtain ⟨u0, u1, u2, u3⟩ := fd_cells hcell hx
    have HA := Lib.hid (HR.out.alloc HR.out.size (.cells #[.string (ofL x.nm), .int .i64 x.k, .int .i64 x.lo, .int .i64 x.hi] 158))
    have HX := Lib.hid hx
    have HQ := Lib.hid hq
    clear hx hcell hbl2 hie hq
    go_wp2_with fail
    refine (hK2.out _ x _ rfl).mono ?_; rintro e w4 ⟨rfl, hb4⟩
    have H4 := Lib.hid (HA.out.trans (hb4.mono HA.out.size))
    clear hb4 u0 u1 u2 u3
    cases hqx : q x with
    | false =>
     have HF := Lib.hid (show false = alB q lo hi l by
      rw [← H.out]
      exact (List.all_eq_false.2 ⟨x, List.mem_of_getElem? HX.out, by simp [hqx]⟩).symm)
     clear hqx
     go_wp2_with fail
     go_ret
     exact ⟨by rw [← HF.out]; rfl, H4.out⟩
    | true =>
     have HF := Lib.hid (show (l.take (i + 1)).all q = true by
      rw [List.take_add_one, List.all_append, HQ.out, HX.out]
      simp [hqx])
     clear hqx
     go_wp2_with fail
     go_roundg (gk - 1)
     case rel => exact ⟨i + 1, by simp, by omega, by omega, HF.out, H4⟩
     case measure => omega
set_option maxHeartbeats 2000000 in
theorem allA_any (K : Nat) (q : Am → Bool) (hK : IsQ K q fun _ x v => v = vA x) (lo hi : Int) (l : List Am) (v : Value) (L : Lies w S v (.s 9 (l.flatMap dA))) (hh : hi ≤ 1000000000) :
  Calls Tryz.prog 153 #[v, .int .i64 lo, .int .i64 hi, .func (.func K) #[] #[]] w (Tells w (.bool (alB q lo hi l))) := by
 obtain ⟨A, m, c, rfl, hm⟩ := L.slc
 obtain rfl : m = l.length := by have : m * 9 = (l.flatMap dA).length := hm; rw [flat_len dA_len] at this; omega
 have LL := Lib.hid L
 have hE := hK.1
 have hK2 := Lib.hid hK.2
 clear L hK hm
 cases hb : frB (l.length : Int) lo hi with
 | false =>
  have H := Lib.hid (show false = alB q lo hi l by unfold alB; rw [hb]; rfl)
  have HB := Lib.hid hb
  clear hb
  go_enter Tryz.func153, Tryz.ntmps153
  go_wp2_with fail
  refine (isFrom_any _ _ _).mono ?_; rintro e w2 ⟨rfl, rfl⟩; rw [HB.out]
  go_wp2_with fail
  go_ret
  exact ⟨by rw [H.out]; rfl, Below.refl _ _⟩
 | true =>
  have H := Lib.hid (show l.all q = alB q lo hi l by unfold alB; rw [hb]; rfl)
  have HB := Lib.hid hb
  have hn : l.length ≤ 1000000000 := by have := (fr_iff hb).2; omega
  clear hb
  go_enter Tryz.func153, Tryz.ntmps153
  go_wp2_with fail
  refine (isFrom_any _ _ _).mono ?_; rintro e w2 ⟨rfl, rfl⟩; rw [HB.out]
  go_wp2_with fail
  go_loopg [10, 19, 20, 21, 22, 23, 24, 25, 26] l.length (fun gk _ vi _ _ _ _ _ _ _ wr => AlRel w q l gk vi wr)
  case atStart => exact ⟨0, rfl, by omega, by omega, rfl, Below.refl _ _⟩
  case round =>
   obtain ⟨i, rfl, hil, hgk, hq, HR⟩ := hrel
   by_cases hie : i = l.length
   ·have hc : ¬ ((i : Int) < (l.length : Int)) := by omega
    have HF := Lib.hid (show true = alB q lo hi l by rw [← H.out, ← hq, hie, List.take_length])
    clear hie
    go_wp2_with fail
    go_ret
    exact ⟨by rw [← HF.out]; rfl, HR.out⟩
   ·have hc : (i : Int) < (l.length : Int) := by omega
    have hlt2 : i < l.length := by omega
    obtain ⟨x, hx⟩ : ∃ x, l[i]? = some x := ⟨l[i], List.getElem?_eq_getElem hlt2⟩
    have LW := Lib.hid (LL.out.belowT HR.out)
    obtain ⟨bb, o, n', c', he, hn', -, hbl2, hcell⟩ := sl_cell LW.out (by intro e0; have := congrArg List.length e0; rw [flat_len dA_len, List.length_nil] at this; omega)
    simp only [Value.slice.injEq] at he
    obtain ⟨rfl, -, rfl⟩ := he
    obtain ⟨u0, u1, u2, u3, u4, u5, u6, u7, u8⟩ := am_cells hcell hx
    have HA := Lib.hid (HR.out.alloc HR.out.size (.cells #[.int .i64 x.l.k, .string (ofL x.l.m), .string (ofL x.l.f), .int .i64 x.l.n, .string (ofL x.op), .int .i64 x.r.k, .string (ofL x.r.m), .string (ofL x.r.f), .int .i64 x.r.n] 100))
    have HX := Lib.hid hx
    have HQ := Lib.hid hq
    clear hx hcell hbl2 hie hq
    go_wp2_with fail
    refine (hK2.out _ x _ rfl).mono ?_; rintro e w4 ⟨rfl, hb4⟩
    have H4 := Lib.hid (HA.out.trans (hb4.mono HA.out.size))
    clear hb4 u0 u1 u2 u3 u4 u5 u6 u7 u8
    cases hqx : q x with
    | false =>
     have HF := Lib.hid (show false = alB q lo hi l by
      rw [← H.out]
      exact (List.all_eq_false.2 ⟨x, List.mem_of_getElem? HX.out, by simp [hqx]⟩).symm)
     clear hqx
     go_wp2_with fail
     go_ret
     exact ⟨by rw [← HF.out]; rfl, H4.out⟩
    | true =>
     have HF := Lib.hid (show (l.take (i + 1)).all q = true by
      rw [List.take_add_one, List.all_append, HQ.out, HX.out]
      simp [hqx])
     clear hqx
     go_wp2_with fail
     go_roundg (gk - 1)
     case rel => exact ⟨i + 1, by simp, by omega, by omega, HF.out, H4⟩
     case measure => omega
end
/- Layer 10: slices.Equal at strings. -/
open Go.RowKit

def EqRel (W0 : World) (l m : List Bs) (gk : Nat) (v : Value) (wr : World) : Prop :=
 ∃ i : Nat, v = .int .i64 (i : Int) ∧ i ≤ l.length ∧ l.length ≤ gk + i ∧ l.take i = m.take i ∧ Hid (Below W0.heap.size W0 wr)
section
variable {w w' : World} {S T : Nat → Prop}
set_option maxHeartbeats 4000000 in
theorem strsEq_any (l m : List Bs) (v u : Value) (L : Lies w S v (dL l)) (M : Lies w T u (dL m)) (hn : l.length = m.length → l.length ≤ 1000000000) :
  Calls Tryz.prog 101 #[v, u] w (Tells w (.bool (decide (l = m)))) := by
 obtain ⟨A, n, c, rfl, hm⟩ := L.slc
 obtain rfl : n = l.length := by have : n * 1 = (l.flatMap (fun x => [dS x])).length := hm; rw [flat_len dS1_len] at this; omega
 obtain ⟨A2, n, c2, rfl, hm2⟩ := M.slc
 obtain rfl : n = m.length := by have : n * 1 = (m.flatMap (fun x => [dS x])).length := hm2; rw [flat_len dS1_len] at this; omega
 have LL := Lib.hid L
 have MM := Lib.hid M
 clear L M hm hm2
 by_cases hlen : l.length = m.length
 ·have hn := hn hlen
  rw [← hlen]
  have HLN := Lib.hid hlen
  clear hlen
  go_enter Tryz.func101, Tryz.ntmps101
  go_wp2_with fail
  go_loopg [5, 13, 14, 15, 16, 17, 18, 19, 20, 21, 22, 23, 24, 25] l.length (fun gk _ vi _ _ _ _ _ _ _ _ _ _ _ _ wr => EqRel w l m gk vi wr)
  case atStart => exact ⟨0, rfl, by omega, by omega, by simp, Below.refl _ _⟩
  case round =>
   obtain ⟨i, rfl, hil, hgk, hq, HR⟩ := hrel
   by_cases hie : i = l.length
   ·have hc : ¬ ((i : Int) < (l.length : Int)) := by omega
    have HF := Lib.hid (show decide (l = m) = true by
     rw [decide_eq_true_eq]
     have := hq
     rw [hie, List.take_length, HLN.out, List.take_length] at this
     exact this)
    clear hie
    go_wp2_with fail
    go_ret
    exact ⟨by rw [HF.out]; rfl, HR.out⟩
   ·have hc : (i : Int) < (l.length : Int) := by omega
    have hlt : i < l.length := by omega
    obtain ⟨x, hx⟩ : ∃ x, l[i]? = some x := ⟨l[i], List.getElem?_eq_getElem hlt⟩
    obtain ⟨y, hy⟩ : ∃ y, m[i]? = some y := ⟨m[i]'(by rw [← HLN.out]; exact hlt), List.getElem?_eq_getElem (by rw [← HLN.out]; exact hlt)⟩
    have LW := Lib.hid (LL.out.belowT HR.out)
    have MW := Lib.hid (MM.out.belowT HR.out)
    obtain ⟨bb, o, n', c', he, hn', -, hbl, hcell⟩ := sl_cell (z := 1) LW.out (by intro e0; have := congrArg List.length e0; rw [flat_len dS1_len, List.length_nil] at this; omega)
    obtain ⟨bb2, o2, n2', c2', he2, hn2', -, hbl2, hcell2⟩ := sl_cell (z := 1) MW.out (by intro e0; have := congrArg List.length e0; rw [flat_len dS1_len, List.length_nil] at this; have := HLN.out; omega)
    simp only [Value.slice.injEq] at he he2
    obtain ⟨rfl, -, rfl⟩ := he
    obtain ⟨rfl, -, rfl⟩ := he2
    have u0 := str_cells hcell hx
    have u1 := str_cells hcell2 hy
    obtain ⟨s1, hs1⟩ : ∃ s, ofL x = s := ⟨_, rfl⟩
    obtain ⟨s2, hs2⟩ : ∃ s, ofL y = s := ⟨_, rfl⟩
    rw [hs1] at u0
    rw [hs2] at u1
    have HQ := Lib.hid hq
    have HX := Lib.hid hx
    have HY := Lib.hid hy
    clear hcell hcell2 hbl hbl2 hie hq hx hy
    by_cases hxy : x = y
    ·have e1 : s1 = s2 := by rw [← hs1, ← hs2, hxy]
     subst e1
     have HF := Lib.hid (show l.take (i + 1) = m.take (i + 1) by rw [List.take_add_one, List.take_add_one, HQ.out, HX.out, HY.out, hxy])
     clear hxy hs1 hs2
     go_wp2_with fail
     go_region
     go_wp2_with fail
     all_goals
      go_roundg (gk - 1)
      case rel => exact ⟨i + 1, by simp, by omega, by omega, HF.out, HR.out.drew⟩
      case measure => omega
    ·have e1 : (s1.toList == s2.toList) = false := by
      rw [← hs1, ← hs2, ofL_toList, ofL_toList, beq_eq_false_iff_ne]; exact hxy
     have HF := Lib.hid (show decide (l = m) = false by
      rw [decide_eq_false_iff_not]
      intro e
      have h1 := HX.out
      have h2 := HY.out
      rw [e, h2] at h1
      exact hxy (Option.some.inj h1).symm)
     clear hxy hs1 hs2
     go_wp2_with fail
     go_region
     go_wp2_with fail
     all_goals
      go_ret
      exact ⟨by rw [HF.out]; rfl, HR.out.drew⟩
 ·have HF := Lib.hid (show decide (l = m) = false by rw [decide_eq_false_iff_not]; intro e; exact hlen (by rw [e]))
  have e1 : ((l.length : Int) == (m.length : Int)) = false := by rw [beq_eq_false_iff_ne]; omega
  clear hlen hn
  go_enter Tryz.func101, Tryz.ntmps101
  go_wp2_with fail
  go_ret
  exact ⟨by rw [HF.out]; rfl, Below.refl _ _⟩
end
/- A range over an iterator that keeps a cell of its own, where each round asks one thing of its element. -/
open Go.RowKit

/-- The iterator gives xs, one by one, and keeps a cell in block sb. -/
def SeqSt {α : Type} (F : Fence) (n : Nat) (P : Program) (gf : Nat) (lb : Array Value) (enc : α → Value) (xs : List α) (sb : Nat) (w : World) : Prop :=
 ∀ (l : Nat) (J Jx : List α → World → Prop) (W : World), w.heap.size ≤ W.heap.size → (∀ k, k < w.heap.size → W.heap[k]? = w.heap[k]?) →
  (∀ pre A B, J pre A → Only sb A B → J pre B) →
  (∀ pre x A, J pre A → pre ++ [x] <+: xs → YieldAt F (n - 1) P l #[enc x] A fun e B =>
   (e = .returned (.bool true) ∧ J (pre ++ [x]) B ∧ A.heap.size ≤ B.heap.size ∧ (w.heap.size ≤ A.heap.size → ∀ k, k < w.heap.size → B.heap[k]? = A.heap[k]?)) ∨ (e = .returned (.bool false) ∧ Jx (pre ++ [x]) B)) →
  J [] W →
  CallsIn F n P gf (#[.func (.yield l) #[] #[]] ++ lb) W fun e B => (∃ v, e = .returned v) ∧ (J xs B ∨ ∃ pre x, pre ++ [x] <+: xs ∧ Jx (pre ++ [x]) B)
/-- Nothing old is written but in blocks g and r. -/
structure Only2 (g r : Nat) (w w' : World) : Prop where
 os : w'.os = w.os
 tape : w'.tape = w.tape
 output : w'.output = w.output
 size : w.heap.size ≤ w'.heap.size
 block : ∀ k, k < w.heap.size → k ≠ g → k ≠ r → w'.heap[k]? = w.heap[k]?
theorem Only.put {g l : Nat} {w w' : World} (h : Only g w w') (hl : w.heap.size ≤ l) (o : Obj) : Only g w (w'.putObj l o) :=
 ⟨h.os, h.tape, h.output, by simpa using h.size, fun k hk hn => (World.putObj_heap_other (by omega)).trans (h.block k hk hn)⟩
theorem Only2.put {g r l : Nat} {w w' : World} (h : Only2 g r w w') (hl : w.heap.size ≤ l) (o : Obj) : Only2 g r w (w'.putObj l o) :=
 ⟨h.os, h.tape, h.output, by simpa using h.size, fun k hk hn hr => (World.putObj_heap_other (by omega)).trans (h.block k hk hn hr)⟩
theorem Only.two {g r : Nat} {w a b : World} (h : Only g w a) (k : Only r a b) : Only2 g r w b :=
 ⟨k.os.trans h.os, k.tape.trans h.tape, k.output.trans h.output, Nat.le_trans h.size k.size, fun i hi hn hr => (k.block i (Nat.lt_of_lt_of_le hi h.size) hr).trans (h.block i hi hn)⟩
theorem Only2.toBelow {g r B : Nat} {w w' : World} (h : Only2 g r w w') (hg : B ≤ g) (hr : B ≤ r) (hw : B ≤ w.heap.size) : Below B w w' :=
 ⟨h.os, h.tape, h.output, h.size, fun k hk => h.block k (by omega) (by omega) (by omega)⟩
variable {F : Fence} {n : Nat} {P : Program}
/-- What a round leaves: it goes on where q holds; else it returns, with what lies in block r. -/
def RdPost {α : Type} (q : α → Bool) (rb : Nat) (ro : Obj) (x : α) (A : World) (e : Exit) (B : World) : Prop :=
 (e = .normal ∧ q x = true ∧ Below A.heap.size A B) ∨ (e = .ret ∧ q x = false ∧ Only rb A B ∧ B.heap[rb]? = some ro)
theorem wp_rangeAll {α : Type} {q : α → Bool} {g : Operand} {ps : Array Tmp} {assign body : Code} {Q : Exit → Act → World → Prop} {a : Act} {w : World}
  (hro : F.round = none) (h1 : 1 ≤ n) {gf : Nat} {lb : Array Value} (hg : a.eval g = .func (.func gf) #[] lb) (hFg : F.fn gf) (eg : ∀ args w, (callFunc gf args).run P w = .ok (.enter gf args) w)
  {enc : α → Value} (hps : ps.size = 1) (xs : List α) (sb rb : Nat) (ro : Obj) (hsb : sb < w.heap.size) (hrb : rb < w.heap.size) (hne : rb ≠ sb) (hseq : SeqSt F (n - 1) P gf lb enc xs sb w) (a₁ : α → Act)
  (hassign : ∀ (l : Nat) (x : α) (W : World) (K : Act → World → Prop), K (a₁ x) W →
   assign.wpIn (F.inRound l) (n - 1 - 1) P (Exit.then K (fun _ _ _ => False)) { tmps := (ps.zip #[enc x]).foldl (fun t (p, v) => t.setIfInBounds p v) a.tmps, defers := [] } W)
  (hbody : ∀ (l : Nat) (x : α) (A : World), A.heap[rb]? = w.heap[rb]? → w.heap.size ≤ A.heap.size → body.wpIn (F.inRound l) (n - 1 - 1) P (fun e _ B => RdPost q rb ro x A e B) (a₁ x) A)
  (hdone : ∀ (D : Nat) (B : World), w.heap.size ≤ D → xs.all q = true → Only sb w B → B.heap[D]? = some (.deferred (some [])) → Q .normal { a with defers := { target := .collected D, args := #[] } :: a.defers } B)
  (hstop : ∀ (D : Nat) (B : World), w.heap.size ≤ D → xs.all q = false → Only2 sb rb w B → B.heap[rb]? = some ro → B.heap[D]? = some (.deferred (some [])) → Code.ret.wpIn F n P Q { a with defers := { target := .collected D, args := #[] } :: a.defers } B) :
  (Code.rangeFunc g ps assign body).wpIn F n P Q a w := by
 refine wpIn_rangeFunc fun fn hfn => ?_
 rw [hro]
 obtain ⟨R, hR⟩ : ∃ R : LoopState → Option Code → Loop, R = fun st pe => { state := st, pending := pe, fn, tmps := a.tmps, params := ps, assign, body, defers := w.heap.size } := ⟨_, rfl⟩
 obtain ⟨W1, hW1⟩ : ∃ W1, (w.alloc (.deferred (some []))).alloc (.loop (R .ready none)) = W1 := ⟨_, rfl⟩
 have hL1 : W1.heap[w.heap.size + 1]? = some (.loop (R .ready none)) := by
  rw [← hW1]; have := World.alloc_heap_new (w.alloc (.deferred (some []))) (.loop (R .ready none)); rwa [World.size_alloc] at this
 have hD1 : W1.heap[w.heap.size]? = some (.deferred (some [])) := by
  rw [← hW1]; exact (Below.heap_alloc _ _ _ (by simp)).trans (World.alloc_heap_new w _)
 have hO1 : Only sb w W1 := by rw [← hW1]; exact ((Only.refl sb w).alloc _).alloc _
 have hs1 : ∀ k, k < w.heap.size → W1.heap[k]? = w.heap[k]? := fun k hk => by
  rw [← hW1]; exact (Below.heap_alloc _ _ _ (by simp; omega)).trans (Below.heap_alloc _ _ _ hk)
 refine ⟨w.heap.size + 1, [{ target := .collected w.heap.size, args := #[] }], W1, { target := .fn (.func gf) lb, args := #[.func (.yield (w.heap.size + 1)) #[] #[]] }, W1, gf,
  #[.func (.yield (w.heap.size + 1)) #[] #[]] ++ lb, W1, ?_, ?_, ?_, ?_, fun _ => h1, ?_⟩
 ·rw [← hW1, hR]; exact run_enterLoop_outer _ _ _ _ _
 ·simp only [resolve, hg]
  simp [go_sem]
 ·intro f' hf'; simp [Target.leads] at hf'; subst hf'; exact hFg
 ·simp [invoke, go_sem, eg]
 refine (hseq (w.heap.size + 1)
  (fun pre W => pre.all q = true ∧ Only sb w W ∧ W.heap[w.heap.size + 1]? = some (.loop (R .ready none)) ∧ W.heap[w.heap.size]? = some (.deferred (some [])))
  (fun pre W => pre.all q = false ∧ Only2 sb rb w W ∧ W.heap[rb]? = some ro ∧ W.heap[w.heap.size + 1]? = some (.loop (R .done (some .ret))) ∧ W.heap[w.heap.size]? = some (.deferred (some [])))
  W1 hO1.size hs1 ?_ ?_ ⟨rfl, hO1, hL1, hD1⟩).mono ?_
 ·rintro pre A B ⟨k1, k2, k3, k4⟩ hO
  have hlt := (Array.getElem?_eq_some_iff.1 k3).1
  exact ⟨k1, k2.trans hO, (hO.block _ hlt (by omega)).trans k3, (hO.block _ (by omega) (by omega)).trans k4⟩
 ·rintro pre x A ⟨k1, k2, k3, k4⟩ hpre
  have hlt : w.heap.size + 1 < A.heap.size := (Array.getElem?_eq_some_iff.1 k3).1
  have hy := run_yield (P := P) (args := #[enc x]) k3 (by rw [hR]; simpa using hps.symm)
  rw [hR] at hy
  refine ⟨fn, _, assign, body, hy, roundIn_of_wpIn hfn (hassign _ x A _ ⟨_, run_beginRound k3 (by rw [hR]), ?_⟩)⟩
  obtain ⟨A2, hA2⟩ : ∃ A2, A.putObj (w.heap.size + 1) (.loop { R .ready none with state := .busy }) = A2 := ⟨_, rfl⟩
  rw [hA2]
  have hl2 : A2.heap[w.heap.size + 1]? = some (.loop { R .ready none with state := .busy }) := by rw [← hA2]; exact World.putObj_heap_same hlt
  have hd2 : A2.heap[w.heap.size]? = some (.deferred (some [])) := by rw [← hA2]; exact (World.putObj_heap_other (by omega)).trans k4
  have hO2 : Only sb w A2 := by rw [← hA2]; exact k2.put (by omega) _
  have hsz2 : A2.heap.size = A.heap.size := by rw [← hA2]; simp
  have hsb2 : ∀ k, k < w.heap.size → A2.heap[k]? = A.heap[k]? := fun k hk => by rw [← hA2]; exact World.putObj_heap_other (by omega)
  refine wpIn_mono (hbody _ x A2 (hO2.block _ hrb hne) hO2.size) ?_
  rintro e a3 B (⟨rfl, hq, hB⟩ | ⟨rfl, hq, hB, hr⟩)
  ·have hl3 : B.heap[w.heap.size + 1]? = some (.loop { R .ready none with state := .busy }) := (hB.block _ (by omega)).trans hl2
   have hd3 : B.heap[w.heap.size]? = some (.deferred (some [])) := (hB.block _ (by omega)).trans hd2
   refine ⟨_, _, run_endRound (P := P) none hl3, .inl ⟨rfl, ⟨by rw [List.all_append, k1]; simp [hq], (hO2.below hB).put (by omega) _, ?_, (World.putObj_heap_other (by omega)).trans hd3⟩, by simpa [hsz2] using hB.size, fun _ k hk => ?_⟩⟩
   ·have := World.putObj_heap_same (o := .loop (R .ready none)) (Array.getElem?_eq_some_iff.1 hl3).1
    rw [hR] at this ⊢
    exact this
   ·exact ((World.putObj_heap_other (by omega)).trans (hB.block _ (by omega))).trans (hsb2 k hk)
  ·have hl3 : B.heap[w.heap.size + 1]? = some (.loop { R .ready none with state := .busy }) := (hB.block _ (by omega) (by omega)).trans hl2
   have hd3 : B.heap[w.heap.size]? = some (.deferred (some [])) := (hB.block _ (by omega) (by omega)).trans hd2
   refine ⟨_, _, run_endRound (P := P) (some .ret) hl3, .inr ⟨rfl, by rw [List.all_append]; simp [hq], (hO2.two hB).put (by omega) _, (World.putObj_heap_other (by omega)).trans hr, ?_, (World.putObj_heap_other (by omega)).trans hd3⟩⟩
   have := World.putObj_heap_same (o := .loop (R .done (some .ret))) (Array.getElem?_eq_some_iff.1 hl3).1
   rw [hR] at this ⊢
   exact this
 ·rintro e B ⟨⟨v, rfl⟩, (⟨k1, k2, k3, k4⟩ | ⟨pre, x, hpre, k1, k2, k2r, k3, k4⟩)⟩
  ·exact ⟨none, _, by have := run_endLoop (P := P) k3 (by rw [hR]; simp); rw [hR] at this; exact this, hdone _ _ (Nat.le_refl _) k1 (k2.put (by omega) _) ((World.putObj_heap_other (by omega)).trans k4)⟩
  ·refine ⟨some .ret, _, by have := run_endLoop (P := P) k3 (by rw [hR]; simp); rw [hR] at this; exact this, hstop _ _ (Nat.le_refl _) ?_ (k2.put (by omega) _) ((World.putObj_heap_other (by omega)).trans k2r) ((World.putObj_heap_other (by omega)).trans k4)⟩
   obtain ⟨t, rfl⟩ := hpre
   rw [List.all_append, k1]; rfl
end Go.Proofs.YtekpefcggikcbaaGreatDoor
