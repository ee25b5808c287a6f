/- Layer 10: slices.EqualFunc at messages, protocols and items. -/
import Derived.Test.YtpnlojcimeiihaaGreatDoorEqF
import Derived.Test.YtpnlojcimeiihaaGreatDoorMVlM
namespace Go.Proofs.YtpnlojcimeiihaaGreatDoor
open Go.RowKit

def eqL {α : Type} (q : α → α → Bool) : List α → List α → Bool
 | [], [] => true
 | a :: l, b :: m => q a b && eqL q l m
 | _, _ => false
theorem eqL_len {α : Type} {q : α → α → Bool} : ∀ {l m : List α}, l.length ≠ m.length → eqL q l m = false
 | [], [], h => absurd rfl h
 | [], _ :: _, _ => rfl
 | _ :: _, [], _ => rfl
 | a :: l, b :: m, h => by
  rw [eqL, eqL_len (l := l) (m := m) (by simpa using h), Bool.and_false]
def IsQ2 {α : Type} (K : Nat) (q : α → α → Bool) (R : World → α → Value → Prop) : Prop :=
 (∀ args w, (callFunc K args).run Tryz.prog w = .ok (.enter K args) w) ∧ ∀ w x v y u, R w x v → R w y u → Calls Tryz.prog K #[v, u] w (Tells w (.bool (q x y)))
def RIt (S : Nat → Prop) (w : World) : It → Value → Prop
 | .mk k fr to nm al tk bl, v => ∃ At ct Ab cb, v = .agg #[.int .i64 k, .string (ofL fr), .slice At to.length ct, .string (ofL nm), .string (ofL al), .int .i64 tk, .slice Ab bl.length cb] ∧ ItIn w S to bl At Ab ct cb
def EfRel {α : Type} (W0 : World) (q : α → α → Bool) (l m : List α) (gk : Nat) (v : Value) (wr : World) : Prop :=
 ∃ i : Nat, v = .int .i64 (i : Int) ∧ i ≤ l.length ∧ l.length ≤ gk + i ∧ Hid (eqL q l m = eqL q (l.drop i) (m.drop i)) ∧ Hid (Below W0.heap.size W0 wr)
section
variable {w w' : World} {S : Nat → Prop}
set_option maxHeartbeats 4000000 in
theorem eqfM_any (K : Nat) (q : Ms → Ms → Bool) (G : Ms → Prop) (hK : IsQ2 K q (fun w x v => RMs S w x v ∧ G x)) (l m : List Ms) (hGl : ∀ x ∈ l, G x) (hGm : ∀ x ∈ m, G x) (v u : Value) (L : Lies w S v ((fun l : List Ms => D.s 3 (l.flatMap dM)) l)) (M : Lies w S u ((fun l : List Ms => D.s 3 (l.flatMap dM)) m)) (hn : l.length = m.length → l.length ≤ 1000000000) :
  Calls Tryz.prog 102 #[v, u, .func (.func K) #[] #[]] w (Tells w (.bool (eqL q l m))) := by
 obtain ⟨A, n, c, rfl, hm⟩ := Lies.slc (show Lies w S v (.s 3 ((fun l : List Ms => l.flatMap dM) l)) from L)
 obtain rfl : n = l.length := by have h1 : n * 3 = (l.flatMap dM).length := (by exact hm); rw [flat_len dM_len] at h1; omega
 obtain ⟨A2, n, c2, rfl, hm2⟩ := Lies.slc (show Lies w S u (.s 3 ((fun l : List Ms => l.flatMap dM) m)) from M)
 obtain rfl : n = m.length := by have h1 : n * 3 = (m.flatMap dM).length := (by exact hm2); rw [flat_len dM_len] at h1; omega
 have LL := Lib.hid (show Lies w S (.slice A l.length c) (.s 3 ((fun l : List Ms => l.flatMap dM) l)) from L)
 have MM := Lib.hid (show Lies w S (.slice A2 m.length c2) (.s 3 ((fun l : List Ms => l.flatMap dM) m)) from M)
 have hE := hK.1
 have hK2 := Lib.hid hK.2
 have HGL := Lib.hid hGl
 have HGM := Lib.hid hGm
 clear L M hm hm2 hK hGl hGm
 by_cases hlen : l.length = m.length
 ·have hn := hn hlen
  rw [← hlen]
  have HLN := Lib.hid hlen
  clear hlen
  go_enter Tryz.func102, Tryz.ntmps102
  go_wp2_with fail
  go_loopg [17] l.length (fun gk vi wr => EfRel w q l m gk vi wr)
  case atStart => exact ⟨0, rfl, by omega, by omega, rfl, Below.refl _ _⟩
  case round =>
   obtain ⟨i, rfl, hil, hgk, hq, HR⟩ := hrel
   by_cases hie : i = l.length
   ·have hc : ¬ ((i : Int) < (l.length : Int)) := by omega
    have HF := Lib.hid (show true = eqL q l m by rw [hq.out, hie, List.drop_length, HLN.out, List.drop_length]; rfl)
    clear hie
    go_wp2_with fail
    go_ret
    exact ⟨by rw [← HF.out]; rfl, HR.out⟩
   ·have hc : (i : Int) < (l.length : Int) := by omega
    have hlt : i < l.length := by omega
    have hlt2 : i < m.length := by rw [← HLN.out]; exact hlt
    obtain ⟨x, hx⟩ : ∃ x, l[i]? = some x := ⟨l[i], List.getElem?_eq_getElem hlt⟩
    obtain ⟨y, hy⟩ : ∃ y, m[i]? = some y := ⟨m[i], List.getElem?_eq_getElem hlt2⟩
    have HQ := Lib.hid (show eqL q l m = (q x y && eqL q (l.drop (i + 1)) (m.drop (i + 1))) by
     rw [hq.out, List.drop_eq_getElem_cons hlt, List.drop_eq_getElem_cons hlt2, eqL, (List.getElem?_eq_some_iff.1 hx).2, (List.getElem?_eq_some_iff.1 hy).2])
    have LW := Lib.hid (LL.out.belowT HR.out)
    have MW := Lib.hid (MM.out.belowT HR.out)
    obtain ⟨bb, o, n', c', he, hn', -, hbl, hcell⟩ := sl_cell (z := 3) LW.out (by intro e0; have := congrArg List.length (show (l.flatMap dM) = [] from e0); rw [flat_len dM_len, List.length_nil] at this; omega)
    obtain ⟨bb2, o2, n2', c2', he2, hn2', -, hbl2, hcell2⟩ := sl_cell (z := 3) MW.out (by intro e0; have := congrArg List.length (show (m.flatMap dM) = [] from e0); rw [flat_len dM_len, List.length_nil] at this; omega)
    simp only [Value.slice.injEq] at he he2
    obtain ⟨rfl, -, rfl⟩ := he
    obtain ⟨rfl, -, rfl⟩ := he2
    skip
    obtain ⟨A1, n1, c1, A3, n3, c3, u0, u1, u2, hl1, hl2⟩ := ms_cells hcell hx
    obtain ⟨B1, m1, d1, B3, m3, d3, p0, p1, p2, hl3, hl4⟩ := ms_cells hcell2 hy
    obtain ⟨W1, hW1⟩ : ∃ W, (wr.alloc (.cells #[.string (ofL x.nm), .slice A1 n1 c1, .slice A3 n3 c3] 74)).alloc (.cells #[.string (ofL y.nm), .slice B1 m1 d1, .slice B3 m3 d3] 74) = W := ⟨_, rfl⟩
    have QA := Lib.hid (show Below wr.heap.size wr W1 by rw [← hW1]; exact ((Below.refl _ wr).alloc (Nat.le_refl _) _).alloc (by simp) _)
    have X1 := Lib.hid (show Bx W1 wr.heap.size 74 #[.string (ofL x.nm), .slice A1 n1 c1, .slice A3 n3 c3] by rw [← hW1]; exact (Bx.new wr _ _).alloc _)
    have X2 := Lib.hid (show Bx W1 (wr.heap.size + 1) 74 #[.string (ofL y.nm), .slice B1 m1 d1, .slice B3 m3 d3] by rw [← hW1]; exact Bx.new2 (size_alloc _ _))
    have HW1 := Lib.hid hW1
    have QB := Lib.hid (HR.out.trans (QA.out.mono HR.out.size))
    have RX := Lib.hid (show RMs S W1 x (.agg #[.string (ofL x.nm), .slice A1 n1 c1, .slice A3 n3 c3]) ∧ G x from ⟨⟨_, _, rfl, hl1.belowT QA.out, hl2.belowT QA.out⟩, HGL.out _ (List.mem_of_getElem? hx)⟩)
    have RY := Lib.hid (show RMs S W1 y (.agg #[.string (ofL y.nm), .slice B1 m1 d1, .slice B3 m3 d3]) ∧ G y from ⟨⟨_, _, rfl, hl3.belowT QA.out, hl4.belowT QA.out⟩, HGM.out _ (List.mem_of_getElem? hy)⟩)
    have r0 : (wr.alloc (.cells #[.string (ofL x.nm), .slice A1 n1 c1, .slice A3 n3 c3] 74)).cell? ⟨bb2, o2 + i * 3, none⟩ = some (.string (ofL y.nm)) := (((Below.refl _ wr).alloc (Nat.le_refl _) _).cell (p := ⟨bb2, o2 + i * 3, none⟩) hbl2).trans p0
    have r1 : (wr.alloc (.cells #[.string (ofL x.nm), .slice A1 n1 c1, .slice A3 n3 c3] 74)).cell? ⟨bb2, o2 + i * 3 + 1, none⟩ = some (.slice B1 m1 d1) := (((Below.refl _ wr).alloc (Nat.le_refl _) _).cell (p := ⟨bb2, o2 + i * 3 + 1, none⟩) hbl2).trans p1
    have r2 : (wr.alloc (.cells #[.string (ofL x.nm), .slice A1 n1 c1, .slice A3 n3 c3] 74)).cell? ⟨bb2, o2 + i * 3 + 2, none⟩ = some (.slice B3 m3 d3) := (((Below.refl _ wr).alloc (Nat.le_refl _) _).cell (p := ⟨bb2, o2 + i * 3 + 2, none⟩) hbl2).trans p2
    have z0 : W1.cell? ⟨wr.heap.size, 0, none⟩ = some (.string (ofL x.nm)) := X1.out.cell 0
    have z1 : W1.cell? ⟨wr.heap.size, 1, none⟩ = some (.slice A1 n1 c1) := X1.out.cell 1
    have z2 : W1.cell? ⟨wr.heap.size, 2, none⟩ = some (.slice A3 n3 c3) := X1.out.cell 2
    have y0 : W1.cell? ⟨wr.heap.size + 1, 0, none⟩ = some (.string (ofL y.nm)) := X2.out.cell 0
    have y1 : W1.cell? ⟨wr.heap.size + 1, 1, none⟩ = some (.slice B1 m1 d1) := X2.out.cell 1
    have y2 : W1.cell? ⟨wr.heap.size + 1, 2, none⟩ = some (.slice B3 m3 d3) := X2.out.cell 2
    clear hl1 hl2 hl3 hl4
    clear hx hy hcell hcell2 hbl hbl2 hie hq hW1
    go_wp2_with fail
    rw [HW1.out]
    refine (hK2.out _ _ _ _ _ RX.out RY.out).mono ?_; rintro e w4 ⟨rfl, hb4⟩
    have H4 := Lib.hid (QB.out.trans (hb4.mono QB.out.size))
    clear hb4 u0 p0 z0 y0 r0 u1 p1 z1 y1 r1 u2 p2 z2 y2 r2
    cases hqx : q x y with
    | false =>
     have HF := Lib.hid (show false = eqL q l m by rw [HQ.out, hqx]; rfl)
     clear hqx
     go_wp2_with fail
     go_ret
     exact ⟨by rw [← HF.out]; rfl, H4.out⟩
    | true =>
     have HF := Lib.hid (show eqL q l m = eqL q (l.drop (i + 1)) (m.drop (i + 1)) by rw [HQ.out, hqx]; rfl)
     clear hqx
     go_wp2_with fail
     go_roundg (gk - 1)
     case rel => exact ⟨i + 1, by simp, by omega, by omega, HF.out, H4⟩
     case measure => omega
 ·have HF := Lib.hid (show eqL q l m = false from eqL_len hlen)
  have e1 : ((l.length : Int) == (m.length : Int)) = false := by rw [beq_eq_false_iff_ne]; omega
  clear hlen hn
  go_enter Tryz.func102, Tryz.ntmps102
  go_wp2_with fail
  go_ret
  exact ⟨by rw [HF.out]; rfl, Below.refl _ _⟩
set_option maxHeartbeats 4000000 in
theorem eqfP_any (K : Nat) (q : Pr → Pr → Bool) (G : Pr → Prop) (hK : IsQ2 K q (fun w x v => RPr S w x v ∧ G x)) (l m : List Pr) (hGl : ∀ x ∈ l, G x) (hGm : ∀ x ∈ m, G x) (v u : Value) (L : Lies w S v ((fun l : List Pr => D.s 4 (l.flatMap dP)) l)) (M : Lies w S u ((fun l : List Pr => D.s 4 (l.flatMap dP)) m)) (hn : l.length = m.length → l.length ≤ 1000000000) :
  Calls Tryz.prog 58 #[v, u, .func (.func K) #[] #[]] w (Tells w (.bool (eqL q l m))) := by
 obtain ⟨A, n, c, rfl, hm⟩ := Lies.slc (show Lies w S v (.s 4 ((fun l : List Pr => l.flatMap dP) l)) from L)
 obtain rfl : n = l.length := by have h1 : n * 4 = (l.flatMap dP).length := (by exact hm); rw [flat_len dP_len] at h1; omega
 obtain ⟨A2, n, c2, rfl, hm2⟩ := Lies.slc (show Lies w S u (.s 4 ((fun l : List Pr => l.flatMap dP) m)) from M)
 obtain rfl : n = m.length := by have h1 : n * 4 = (m.flatMap dP).length := (by exact hm2); rw [flat_len dP_len] at h1; omega
 have LL := Lib.hid (show Lies w S (.slice A l.length c) (.s 4 ((fun l : List Pr => l.flatMap dP) l)) from L)
 have MM := Lib.hid (show Lies w S (.slice A2 m.length c2) (.s 4 ((fun l : List Pr => l.flatMap dP) m)) from M)
 have hE := hK.1
 have hK2 := Lib.hid hK.2
 have HGL := Lib.hid hGl
 have HGM := Lib.hid hGm
 clear L M hm hm2 hK hGl hGm
 by_cases hlen : l.length = m.length
 ·have hn := hn hlen
  rw [← hlen]
  have HLN := Lib.hid hlen
  clear hlen
  go_enter Tryz.func58, Tryz.ntmps58
  go_wp2_with fail
  go_loopg [17] l.length (fun gk vi wr => EfRel w q l m gk vi wr)
  case atStart => exact ⟨0, rfl, by omega, by omega, rfl, Below.refl _ _⟩
  case round =>
   obtain ⟨i, rfl, hil, hgk, hq, HR⟩ := hrel
   by_cases hie : i = l.length
   ·have hc : ¬ ((i : Int) < (l.length : Int)) := by omega
    have HF := Lib.hid (show true = eqL q l m by rw [hq.out, hie, List.drop_length, HLN.out, List.drop_length]; rfl)
    clear hie
    go_wp2_with fail
    go_ret
    exact ⟨by rw [← HF.out]; rfl, HR.out⟩
   ·have hc : (i : Int) < (l.length : Int) := by omega
    have hlt : i < l.length := by omega
    have hlt2 : i < m.length := by rw [← HLN.out]; exact hlt
    obtain ⟨x, hx⟩ : ∃ x, l[i]? = some x := ⟨l[i], List.getElem?_eq_getElem hlt⟩
    obtain ⟨y, hy⟩ : ∃ y, m[i]? = some y := ⟨m[i], List.getElem?_eq_getElem hlt2⟩
    have HQ := Lib.hid (show eqL q l m = (q x y && eqL q (l.drop (i + 1)) (m.drop (i + 1))) by
     rw [hq.out, List.drop_eq_getElem_cons hlt, List.drop_eq_getElem_cons hlt2, eqL, (List.getElem?_eq_some_iff.1 hx).2, (List.getElem?_eq_some_iff.1 hy).2])
    have LW := Lib.hid (LL.out.belowT HR.out)
    have MW := Lib.hid (MM.out.belowT HR.out)
    obtain ⟨bb, o, n', c', he, hn', -, hbl, hcell⟩ := sl_cell (z := 4) LW.out (by intro e0; have := congrArg List.length (show (l.flatMap dP) = [] from e0); rw [flat_len dP_len, List.length_nil] at this; omega)
    obtain ⟨bb2, o2, n2', c2', he2, hn2', -, hbl2, hcell2⟩ := sl_cell (z := 4) MW.out (by intro e0; have := congrArg List.length (show (m.flatMap dP) = [] from e0); rw [flat_len dP_len, List.length_nil] at this; omega)
    simp only [Value.slice.injEq] at he he2
    obtain ⟨rfl, -, rfl⟩ := he
    obtain ⟨rfl, -, rfl⟩ := he2
    skip
    obtain ⟨A1, n1, c1, A3, n3, c3, A4, n4, c4, u0, u1, u2, u3, hl1, hl2, hl3⟩ := pr_cells hcell hx
    obtain ⟨B1, m1, d1, B3, m3, d3, B4, m4, d4, p0, p1, p2, p3, hl4, hl5, hl6⟩ := pr_cells hcell2 hy
    obtain ⟨W1, hW1⟩ : ∃ W, (wr.alloc (.cells #[.string (ofL x.nm), .slice A1 n1 c1, .slice A3 n3 c3, .slice A4 n4 c4] 59)).alloc (.cells #[.string (ofL y.nm), .slice B1 m1 d1, .slice B3 m3 d3, .slice B4 m4 d4] 59) = W := ⟨_, rfl⟩
    have QA := Lib.hid (show Below wr.heap.size wr W1 by rw [← hW1]; exact ((Below.refl _ wr).alloc (Nat.le_refl _) _).alloc (by simp) _)
    have X1 := Lib.hid (show Bx W1 wr.heap.size 59 #[.string (ofL x.nm), .slice A1 n1 c1, .slice A3 n3 c3, .slice A4 n4 c4] by rw [← hW1]; exact (Bx.new wr _ _).alloc _)
    have X2 := Lib.hid (show Bx W1 (wr.heap.size + 1) 59 #[.string (ofL y.nm), .slice B1 m1 d1, .slice B3 m3 d3, .slice B4 m4 d4] by rw [← hW1]; exact Bx.new2 (size_alloc _ _))
    have HW1 := Lib.hid hW1
    have QB := Lib.hid (HR.out.trans (QA.out.mono HR.out.size))
    have RX := Lib.hid (show RPr S W1 x (.agg #[.string (ofL x.nm), .slice A1 n1 c1, .slice A3 n3 c3, .slice A4 n4 c4]) ∧ G x from ⟨⟨_, _, _, rfl, hl1.belowT QA.out, hl2.belowT QA.out, hl3.belowT QA.out⟩, HGL.out _ (List.mem_of_getElem? hx)⟩)
    have RY := Lib.hid (show RPr S W1 y (.agg #[.string (ofL y.nm), .slice B1 m1 d1, .slice B3 m3 d3, .slice B4 m4 d4]) ∧ G y from ⟨⟨_, _, _, rfl, hl4.belowT QA.out, hl5.belowT QA.out, hl6.belowT QA.out⟩, HGM.out _ (List.mem_of_getElem? hy)⟩)
    have r0 : (wr.alloc (.cells #[.string (ofL x.nm), .slice A1 n1 c1, .slice A3 n3 c3, .slice A4 n4 c4] 59)).cell? ⟨bb2, o2 + i * 4, none⟩ = some (.string (ofL y.nm)) := (((Below.refl _ wr).alloc (Nat.le_refl _) _).cell (p := ⟨bb2, o2 + i * 4, none⟩) hbl2).trans p0
    have r1 : (wr.alloc (.cells #[.string (ofL x.nm), .slice A1 n1 c1, .slice A3 n3 c3, .slice A4 n4 c4] 59)).cell? ⟨bb2, o2 + i * 4 + 1, none⟩ = some (.slice B1 m1 d1) := (((Below.refl _ wr).alloc (Nat.le_refl _) _).cell (p := ⟨bb2, o2 + i * 4 + 1, none⟩) hbl2).trans p1
    have r2 : (wr.alloc (.cells #[.string (ofL x.nm), .slice A1 n1 c1, .slice A3 n3 c3, .slice A4 n4 c4] 59)).cell? ⟨bb2, o2 + i * 4 + 2, none⟩ = some (.slice B3 m3 d3) := (((Below.refl _ wr).alloc (Nat.le_refl _) _).cell (p := ⟨bb2, o2 + i * 4 + 2, none⟩) hbl2).trans p2
    have r3 : (wr.alloc (.cells #[.string (ofL x.nm), .slice A1 n1 c1, .slice A3 n3 c3, .slice A4 n4 c4] 59)).cell? ⟨bb2, o2 + i * 4 + 3, none⟩ = some (.slice B4 m4 d4) := (((Below.refl _ wr).alloc (Nat.le_refl _) _).cell (p := ⟨bb2, o2 + i * 4 + 3, none⟩) hbl2).trans p3
    have z0 : W1.cell? ⟨wr.heap.size, 0, none⟩ = some (.string (ofL x.nm)) := X1.out.cell 0
    have z1 : W1.cell? ⟨wr.heap.size, 1, none⟩ = some (.slice A1 n1 c1) := X1.out.cell 1
    have z2 : W1.cell? ⟨wr.heap.size, 2, none⟩ = some (.slice A3 n3 c3) := X1.out.cell 2
    have z3 : W1.cell? ⟨wr.heap.size, 3, none⟩ = some (.slice A4 n4 c4) := X1.out.cell 3
    have y0 : W1.cell? ⟨wr.heap.size + 1, 0, none⟩ = some (.string (ofL y.nm)) := X2.out.cell 0
    have y1 : W1.cell? ⟨wr.heap.size + 1, 1, none⟩ = some (.slice B1 m1 d1) := X2.out.cell 1
    have y2 : W1.cell? ⟨wr.heap.size + 1, 2, none⟩ = some (.slice B3 m3 d3) := X2.out.cell 2
    have y3 : W1.cell? ⟨wr.heap.size + 1, 3, none⟩ = some (.slice B4 m4 d4) := X2.out.cell 3
    clear hl1 hl2 hl3 hl4 hl5 hl6
    clear hx hy hcell hcell2 hbl hbl2 hie hq hW1
    go_wp2_with fail
    rw [HW1.out]
    refine (hK2.out _ _ _ _ _ RX.out RY.out).mono ?_; rintro e w4 ⟨rfl, hb4⟩
    have H4 := Lib.hid (QB.out.trans (hb4.mono QB.out.size))
    clear hb4 u0 p0 z0 y0 r0 u1 p1 z1 y1 r1 u2 p2 z2 y2 r2 u3 p3 z3 y3 r3
    cases hqx : q x y with
    | false =>
     have HF := Lib.hid (show false = eqL q l m by rw [HQ.out, hqx]; rfl)
     clear hqx
     go_wp2_with fail
     go_ret
     exact ⟨by rw [← HF.out]; rfl, H4.out⟩
    | true =>
     have HF := Lib.hid (show eqL q l m = eqL q (l.drop (i + 1)) (m.drop (i + 1)) by rw [HQ.out, hqx]; rfl)
     clear hqx
     go_wp2_with fail
     go_roundg (gk - 1)
     case rel => exact ⟨i + 1, by simp, by omega, by omega, HF.out, H4⟩
     case measure => omega
 ·have HF := Lib.hid (show eqL q l m = false from eqL_len hlen)
  have e1 : ((l.length : Int) == (m.length : Int)) = false := by rw [beq_eq_false_iff_ne]; omega
  clear hlen hn
  go_enter Tryz.func58, Tryz.ntmps58
  go_wp2_with fail
  go_ret
  exact ⟨by rw [HF.out]; rfl, Below.refl _ _⟩
set_option maxHeartbeats 4000000 in
theorem eqfI_any (K : Nat) (q : It → It → Bool) (G : It → Prop) (hK : IsQ2 K q (fun w x v => RIt S w x v ∧ G x)) (l m : List It) (hGl : ∀ x ∈ l, G x) (hGm : ∀ x ∈ m, G x) (v u : Value) (L : Lies w S v (dB l)) (M : Lies w S u (dB m)) (hn : l.length = m.length → l.length ≤ 1000000000) :
  Calls Tryz.prog 167 #[v, u, .func (.func K) #[] #[]] w (Tells w (.bool (eqL q l m))) := by
 obtain ⟨A, n, c, rfl, hm⟩ := Lies.slc (show Lies w S v (.s 7 (dIs l)) from L)
 obtain rfl : n = l.length := by have h1 : n * 7 = (l.flatMap dIt).length := (by rw [dIs_map] at hm; exact hm); rw [flat_len dIt_len] at h1; omega
 obtain ⟨A2, n, c2, rfl, hm2⟩ := Lies.slc (show Lies w S u (.s 7 (dIs m)) from M)
 obtain rfl : n = m.length := by have h1 : n * 7 = (m.flatMap dIt).length := (by rw [dIs_map] at hm2; exact hm2); rw [flat_len dIt_len] at h1; omega
 have LL := Lib.hid (show Lies w S (.slice A l.length c) (.s 7 (dIs l)) from L)
 have MM := Lib.hid (show Lies w S (.slice A2 m.length c2) (.s 7 (dIs m)) from M)
 have hE := hK.1
 have hK2 := Lib.hid hK.2
 have HGL := Lib.hid hGl
 have HGM := Lib.hid hGm
 clear L M hm hm2 hK hGl hGm
 by_cases hlen : l.length = m.length
 ·have hn := hn hlen
  rw [← hlen]
  have HLN := Lib.hid hlen
  clear hlen
  go_enter Tryz.func167, Tryz.ntmps167
  go_wp2_with fail
  go_loopg [17] l.length (fun gk vi wr => EfRel w q l m gk vi wr)
  case atStart => exact ⟨0, rfl, by omega, by omega, rfl, Below.refl _ _⟩
  case round =>
   obtain ⟨i, rfl, hil, hgk, hq, HR⟩ := hrel
   by_cases hie : i = l.length
   ·have hc : ¬ ((i : Int) < (l.length : Int)) := by omega
    have HF := Lib.hid (show true = eqL q l m by rw [hq.out, hie, List.drop_length, HLN.out, List.drop_length]; rfl)
    clear hie
    go_wp2_with fail
    go_ret
    exact ⟨by rw [← HF.out]; rfl, HR.out⟩
   ·have hc : (i : Int) < (l.length : Int) := by omega
    have hlt : i < l.length := by omega
    have hlt2 : i < m.length := by rw [← HLN.out]; exact hlt
    obtain ⟨x, hx⟩ : ∃ x, l[i]? = some x := ⟨l[i], List.getElem?_eq_getElem hlt⟩
    obtain ⟨y, hy⟩ : ∃ y, m[i]? = some y := ⟨m[i], List.getElem?_eq_getElem hlt2⟩
    have HQ := Lib.hid (show eqL q l m = (q x y && eqL q (l.drop (i + 1)) (m.drop (i + 1))) by
     rw [hq.out, List.drop_eq_getElem_cons hlt, List.drop_eq_getElem_cons hlt2, eqL, (List.getElem?_eq_some_iff.1 hx).2, (List.getElem?_eq_some_iff.1 hy).2])
    have LW := Lib.hid (LL.out.belowT HR.out)
    have MW := Lib.hid (MM.out.belowT HR.out)
    obtain ⟨bb, o, n', c', he, hn', -, hbl, hcell⟩ := sl_cell (z := 7) LW.out (by intro e0; have := congrArg List.length (show (l.flatMap dIt) = [] from by rw [← dIs_map]; exact e0); rw [flat_len dIt_len, List.length_nil] at this; omega)
    obtain ⟨bb2, o2, n2', c2', he2, hn2', -, hbl2, hcell2⟩ := sl_cell (z := 7) MW.out (by intro e0; have := congrArg List.length (show (m.flatMap dIt) = [] from by rw [← dIs_map]; exact e0); rw [flat_len dIt_len, List.length_nil] at this; omega)
    simp only [Value.slice.injEq] at he he2
    obtain ⟨rfl, -, rfl⟩ := he
    obtain ⟨rfl, -, rfl⟩ := he2
    obtain ⟨k1, fr1, to1, nm1, al1, tk1, bl1⟩ := x
    obtain ⟨k2, fr2, to2, nm2, al2, tk2, bl2⟩ := y
    obtain ⟨At1, ct1, Ab1, cb1, u0, u1, u2, u3, u4, u5, u6, hI1⟩ := it_cells hcell hx
    obtain ⟨At2, ct2, Ab2, cb2, p0, p1, p2, p3, p4, p5, p6, hI2⟩ := it_cells hcell2 hy
    obtain ⟨W1, hW1⟩ : ∃ W, (wr.alloc (.cells #[.int .i64 k1, .string (ofL fr1), .slice At1 to1.length ct1, .string (ofL nm1), .string (ofL al1), .int .i64 tk1, .slice Ab1 bl1.length cb1] 70)).alloc (.cells #[.int .i64 k2, .string (ofL fr2), .slice At2 to2.length ct2, .string (ofL nm2), .string (ofL al2), .int .i64 tk2, .slice Ab2 bl2.length cb2] 70) = W := ⟨_, rfl⟩
    have QA := Lib.hid (show Below wr.heap.size wr W1 by rw [← hW1]; exact ((Below.refl _ wr).alloc (Nat.le_refl _) _).alloc (by simp) _)
    have X1 := Lib.hid (show Bx W1 wr.heap.size 70 #[.int .i64 k1, .string (ofL fr1), .slice At1 to1.length ct1, .string (ofL nm1), .string (ofL al1), .int .i64 tk1, .slice Ab1 bl1.length cb1] by rw [← hW1]; exact (Bx.new wr _ _).alloc _)
    have X2 := Lib.hid (show Bx W1 (wr.heap.size + 1) 70 #[.int .i64 k2, .string (ofL fr2), .slice At2 to2.length ct2, .string (ofL nm2), .string (ofL al2), .int .i64 tk2, .slice Ab2 bl2.length cb2] by rw [← hW1]; exact Bx.new2 (size_alloc _ _))
    have HW1 := Lib.hid hW1
    have QB := Lib.hid (HR.out.trans (QA.out.mono HR.out.size))
    have RX := Lib.hid (show RIt S W1 (.mk k1 fr1 to1 nm1 al1 tk1 bl1) (.agg #[.int .i64 k1, .string (ofL fr1), .slice At1 to1.length ct1, .string (ofL nm1), .string (ofL al1), .int .i64 tk1, .slice Ab1 bl1.length cb1]) ∧ G (.mk k1 fr1 to1 nm1 al1 tk1 bl1) from ⟨⟨_, _, _, _, rfl, hI1.1.belowT QA.out, hI1.2.belowT QA.out⟩, HGL.out _ (List.mem_of_getElem? hx)⟩)
    have RY := Lib.hid (show RIt S W1 (.mk k2 fr2 to2 nm2 al2 tk2 bl2) (.agg #[.int .i64 k2, .string (ofL fr2), .slice At2 to2.length ct2, .string (ofL nm2), .string (ofL al2), .int .i64 tk2, .slice Ab2 bl2.length cb2]) ∧ G (.mk k2 fr2 to2 nm2 al2 tk2 bl2) from ⟨⟨_, _, _, _, rfl, hI2.1.belowT QA.out, hI2.2.belowT QA.out⟩, HGM.out _ (List.mem_of_getElem? hy)⟩)
    have r0 : (wr.alloc (.cells #[.int .i64 k1, .string (ofL fr1), .slice At1 to1.length ct1, .string (ofL nm1), .string (ofL al1), .int .i64 tk1, .slice Ab1 bl1.length cb1] 70)).cell? ⟨bb2, o2 + i * 7, none⟩ = some (.int .i64 k2) := (((Below.refl _ wr).alloc (Nat.le_refl _) _).cell (p := ⟨bb2, o2 + i * 7, none⟩) hbl2).trans p0
    have r1 : (wr.alloc (.cells #[.int .i64 k1, .string (ofL fr1), .slice At1 to1.length ct1, .string (ofL nm1), .string (ofL al1), .int .i64 tk1, .slice Ab1 bl1.length cb1] 70)).cell? ⟨bb2, o2 + i * 7 + 1, none⟩ = some (.string (ofL fr2)) := (((Below.refl _ wr).alloc (Nat.le_refl _) _).cell (p := ⟨bb2, o2 + i * 7 + 1, none⟩) hbl2).trans p1
    have r2 : (wr.alloc (.cells #[.int .i64 k1, .string (ofL fr1), .slice At1 to1.length ct1, .string (ofL nm1), .string (ofL al1), .int .i64 tk1, .slice Ab1 bl1.length cb1] 70)).cell? ⟨bb2, o2 + i * 7 + 2, none⟩ = some (.slice At2 to2.length ct2) := (((Below.refl _ wr).alloc (Nat.le_refl _) _).cell (p := ⟨bb2, o2 + i * 7 + 2, none⟩) hbl2).trans p2
    have r3 : (wr.alloc (.cells #[.int .i64 k1, .string (ofL fr1), .slice At1 to1.length ct1, .string (ofL nm1), .string (ofL al1), .int .i64 tk1, .slice Ab1 bl1.length cb1] 70)).cell? ⟨bb2, o2 + i * 7 + 3, none⟩ = some (.string (ofL nm2)) := (((Below.refl _ wr).alloc (Nat.le_refl _) _).cell (p := ⟨bb2, o2 + i * 7 + 3, none⟩) hbl2).trans p3
    have r4 : (wr.alloc (.cells #[.int .i64 k1, .string (ofL fr1), .slice At1 to1.length ct1, .string (ofL nm1), .string (ofL al1), .int .i64 tk1, .slice Ab1 bl1.length cb1] 70)).cell? ⟨bb2, o2 + i * 7 + 4, none⟩ = some (.string (ofL al2)) := (((Below.refl _ wr).alloc (Nat.le_refl _) _).cell (p := ⟨bb2, o2 + i * 7 + 4, none⟩) hbl2).trans p4
    have r5 : (wr.alloc (.cells #[.int .i64 k1, .string (ofL fr1), .slice At1 to1.length ct1, .string (ofL nm1), .string (ofL al1), .int .i64 tk1, .slice Ab1 bl1.length cb1] 70)).cell? ⟨bb2, o2 + i * 7 + 5, none⟩ = some (.int .i64 tk2) := (((Below.refl _ wr).alloc (Nat.le_refl _) _).cell (p := ⟨bb2, o2 + i * 7 + 5, none⟩) hbl2).trans p5
    have r6 : (wr.alloc (.cells #[.int .i64 k1, .string (ofL fr1), .slice At1 to1.length ct1, .string (ofL nm1), .string (ofL al1), .int .i64 tk1, .slice Ab1 bl1.length cb1] 70)).cell? ⟨bb2, o2 + i * 7 + 6, none⟩ = some (.slice Ab2 bl2.length cb2) := (((Below.refl _ wr).alloc (Nat.le_refl _) _).cell (p := ⟨bb2, o2 + i * 7 + 6, none⟩) hbl2).trans p6
    have z0 : W1.cell? ⟨wr.heap.size, 0, none⟩ = some (.int .i64 k1) := X1.out.cell 0
    have z1 : W1.cell? ⟨wr.heap.size, 1, none⟩ = some (.string (ofL fr1)) := X1.out.cell 1
    have z2 : W1.cell? ⟨wr.heap.size, 2, none⟩ = some (.slice At1 to1.length ct1) := X1.out.cell 2
    have z3 : W1.cell? ⟨wr.heap.size, 3, none⟩ = some (.string (ofL nm1)) := X1.out.cell 3
    have z4 : W1.cell? ⟨wr.heap.size, 4, none⟩ = some (.string (ofL al1)) := X1.out.cell 4
    have z5 : W1.cell? ⟨wr.heap.size, 5, none⟩ = some (.int .i64 tk1) := X1.out.cell 5
    have z6 : W1.cell? ⟨wr.heap.size, 6, none⟩ = some (.slice Ab1 bl1.length cb1) := X1.out.cell 6
    have y0 : W1.cell? ⟨wr.heap.size + 1, 0, none⟩ = some (.int .i64 k2) := X2.out.cell 0
    have y1 : W1.cell? ⟨wr.heap.size + 1, 1, none⟩ = some (.string (ofL fr2)) := X2.out.cell 1
    have y2 : W1.cell? ⟨wr.heap.size + 1, 2, none⟩ = some (.slice At2 to2.length ct2) := X2.out.cell 2
    have y3 : W1.cell? ⟨wr.heap.size + 1, 3, none⟩ = some (.string (ofL nm2)) := X2.out.cell 3
    have y4 : W1.cell? ⟨wr.heap.size + 1, 4, none⟩ = some (.string (ofL al2)) := X2.out.cell 4
    have y5 : W1.cell? ⟨wr.heap.size + 1, 5, none⟩ = some (.int .i64 tk2) := X2.out.cell 5
    have y6 : W1.cell? ⟨wr.heap.size + 1, 6, none⟩ = some (.slice Ab2 bl2.length cb2) := X2.out.cell 6
    clear hI1 hI2
    clear hx hy hcell hcell2 hbl hbl2 hie hq hW1
    go_wp2_with fail
    rw [HW1.out]
    refine (hK2.out _ _ _ _ _ RX.out RY.out).mono ?_; rintro e w4 ⟨rfl, hb4⟩
    have H4 := Lib.hid (QB.out.trans (hb4.mono QB.out.size))
    clear hb4 u0 p0 z0 y0 r0 u1 p1 z1 y1 r1 u2 p2 z2 y2 r2 u3 p3 z3 y3 r3 u4 p4 z4 y4 r4 u5 p5 z5 y5 r5 u6 p6 z6 y6 r6
    cases hqx : q (.mk k1 fr1 to1 nm1 al1 tk1 bl1) (.mk k2 fr2 to2 nm2 al2 tk2 bl2) with
    | false =>
     have HF := Lib.hid (show false = eqL q l m by rw [HQ.out, hqx]; rfl)
     clear hqx
     go_wp2_with fail
     go_ret
     exact ⟨by rw [← HF.out]; rfl, H4.out⟩
    | true =>
     have HF := Lib.hid (show eqL q l m = eqL q (l.drop (i + 1)) (m.drop (i + 1)) by rw [HQ.out, hqx]; rfl)
     clear hqx
     go_wp2_with fail
     go_roundg (gk - 1)
     case rel => exact ⟨i + 1, by simp, by omega, by omega, HF.out, H4⟩
     case measure => omega
 ·have HF := Lib.hid (show eqL q l m = false from eqL_len hlen)
  have e1 : ((l.length : Int) == (m.length : Int)) = false := by rw [beq_eq_false_iff_ne]; omega
  clear hlen hn
  go_enter Tryz.func167, Tryz.ntmps167
  go_wp2_with fail
  go_ret
  exact ⟨by rw [HF.out]; rfl, Below.refl _ _⟩
end
end Go.Proofs.YtpnlojcimeiihaaGreatDoor
