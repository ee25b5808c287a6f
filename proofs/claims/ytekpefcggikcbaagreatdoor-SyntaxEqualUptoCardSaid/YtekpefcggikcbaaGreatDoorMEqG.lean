/- Layer 10: slices.EqualFunc at messages, protocols and items. -/
import Derived.Test.YtekpefcggikcbaaGreatDoorEqF
import Derived.Test.YtekpefcggikcbaaGreatDoorMVlM
import Derived.BigRegion
import Derived.Test.YtekpefcggikcbaaGreatDoorMPtAl
import Derived.Test.YtekpefcggikcbaaGreatDoorMSynU
import Derived.LaidEql
import Derived.WideKeyRuns
namespace Go.Proofs.YtekpefcggikcbaaGreatDoor
/- Layer 10: slices.EqualFunc at messages, protocols and items. -/
open Go.RowKit

def eqL {α : Type} (q : α → α → Bool) : List α → List α → Bool
 | [], [] => true
 | a :: l, b :: m => q a b && eqL q l m
 | _, _ => false
theorem eqL_len {α : Type} {q : α → α → Bool} : ∀ {l m : List α}, l.length ≠ m.length → eqL q l m = false
 | [], [], h => absurd rfl h
 | [], _ :: _, _ => rfl
 | _ :: _, [], _ => rfl
 | a :: l, b :: m, h => by
  rw [eqL, eqL_len (l := l) (m := m) (by simpa using h), Bool.and_false]
def IsQ2 {α : Type} (K : Nat) (q : α → α → Bool) (R : World → α → Value → Prop) : Prop :=
 (∀ args w, (callFunc K args).run Tryz.prog w = .ok (.enter K args) w) ∧ ∀ w x v y u, R w x v → R w y u → Calls Tryz.prog K #[v, u] w (Tells w (.bool (q x y)))
def RIt (S : Nat → Prop) (w : World) : It → Value → Prop
 | .mk k fr to nm al tk bl, v => ∃ At ct Ab cb, v = .agg #[.int .i64 k, .string (ofL fr), .slice At to.length ct, .string (ofL nm), .string (ofL al), .int .i64 tk, .slice Ab bl.length cb] ∧ ItIn w S to bl At Ab ct cb
def EfRel {α : Type} (W0 : World) (q : α → α → Bool) (l m : List α) (gk : Nat) (v : Value) (wr : World) : Prop :=
 ∃ i : Nat, v = .int .i64 (i : Int) ∧ i ≤ l.length ∧ l.length ≤ gk + i ∧ Hid (eqL q l m = eqL q (l.drop i) (m.drop i)) ∧ Hid (Below W0.heap.size W0 wr)
section
variable {w w' : World} {S : Nat → Prop}
set_option maxHeartbeats 4000000 in
theorem eqfM_any (K : Nat) (q : Ms → Ms → Bool) (G : Ms → Prop) (hK : IsQ2 K q (fun w x v => RMs S w x v ∧ G x)) (l m : List Ms) (hGl : ∀ x ∈ l, G x) (hGm : ∀ x ∈ m, G x) (v u : Value) (L : Lies w S v ((fun l : List Ms => D.s 3 (l.flatMap dM)) l)) (M : Lies w S u ((fun l : List Ms => D.s 3 (l.flatMap dM)) m)) (hn : l.length = m.length → l.length ≤ 1000000000) :
  Calls Tryz.prog 102 #[v, u, .func (.func K) #[] #[]] w (Tells w (.bool (eqL q l m))) := by
 obtain ⟨A, n, c, rfl, hm⟩ := Lies.slc (show Lies w S v (.s 3 ((fun l : List Ms => l.flatMap dM) l)) from L)
 obtain rfl : n = l.length := by have h1 : n * 3 = (l.flatMap dM).length := (by exact hm); rw [flat_len dM_len] at h1; omega
 obtain ⟨A2, n, c2, rfl, hm2⟩ := Lies.slc (show Lies w S u (.s 3 ((fun l : List Ms => l.flatMap dM) m)) from M)
 obtain rfl : n = m.length := by have h1 : n * 3 = (m.flatMap dM).length := (by exact hm2); rw [flat_len dM_len] at h1; omega
 have LL := Lib.hid (show Lies w S (.slice A l.length c) (.s 3 ((fun l : List Ms => l.flatMap dM) l)) from L)
 have MM := Lib.hid (show Lies w S (.slice A2 m.length c2) (.s 3 ((fun l : List Ms => l.flatMap dM) m)) from M)
 have hE := hK.1
 have hK2 := Lib.hid hK.2
 have HGL := Lib.hid hGl
 have HGM := Lib.hid hGm
 clear L M hm hm2 hK hGl hGm
 by_cases hlen : l.length = m.length
 ·have hn := hn hlen
  rw [← hlen]
  have HLN := Lib.hid hlen
  clear hlen
  go_enter Tryz.func102, Tryz.ntmps102
  go_wp2_with fail
  go_loopg [17] l.length (fun gk vi wr => EfRel w q l m gk vi wr)
  case atStart => exact ⟨0, rfl, by omega, by omega, rfl, Below.refl _ _⟩
  case round =>
   obtain ⟨i, rfl, hil, hgk, hq, HR⟩ := hrel
   by_cases hie : i = l.length
   ·have hc : ¬ ((i : Int) < (l.length : Int)) := by omega
    have HF := Lib.hid (show true = eqL q l m by rw [hq.out, hie, List.drop_length, HLN.out, List.drop_length]; rfl)
    clear hie
    go_wp2_with fail
    go_ret
    exact ⟨by rw [← HF.out]; rfl, HR.out⟩
   ·have hc : (i : Int) < (l.length : Int) := by omega
    have hlt : i < l.length := by omega
    have hlt2 : i < m.length := by rw [← HLN.out]; exact hlt
    obtain ⟨x, hx⟩ : ∃ x, l[i]? = some x := ⟨l[i], List.getElem?_eq_getElem hlt⟩
    obtain ⟨y, hy⟩ : ∃ y, m[i]? = some y := ⟨m[i], List.getElem?_eq_getElem hlt2⟩
    have HQ := Lib.hid (show eqL q l m = (q x y && eqL q (l.drop (i + 1)) (m.drop (i + 1))) by
     rw [hq.out, List.drop_eq_getElem_cons hlt, List.drop_eq_getElem_cons hlt2, eqL, (List.getElem?_eq_some_iff.1 hx).2, (List.getElem?_eq_some_iff.1 hy).2])
    have LW := Lib.hid (LL.out.belowT HR.out)
    have MW := Lib.hid (MM.out.belowT HR.out)
    obtain ⟨bb, o, n', c', he, hn', -, hbl, hcell⟩ := sl_cell (z := 3) LW.out (by intro e0; have := congrArg List.length (show (l.flatMap dM) = [] from e0); rw [flat_len dM_len, List.length_nil] at this; omega)
    obtain ⟨bb2, o2, n2', c2', he2, hn2', -, hbl2, hcell2⟩ := sl_cell (z := 3) MW.out (by intro e0; have := congrArg List.length (show (m.flatMap dM) = [] from e0); rw [flat_len dM_len, List.length_nil] at this; omega)
    simp only [Value.slice.injEq] at he he2
    obtain ⟨rfl, -, rfl⟩ := he
    obtain ⟨rfl, -, rfl⟩ := he2
    skip
    obtain ⟨A1, n1, c1, A3, n3, c3, u0, u1, u2, hl1, hl2⟩ := ms_cells hcell hx
    obtain ⟨B1, m1, d1, B3, m3, d3, p0, p1, p2, hl3, hl4⟩ := ms_cells hcell2 hy
    obtain ⟨W1, hW1⟩ : ∃ W, (wr.alloc (.cells #[.string (ofL x.nm), .slice A1 n1 c1, .slice A3 n3 c3] 74)).alloc (.cells #[.string (ofL y.nm), .slice B1 m1 d1, .slice B3 m3 d3] 74) = W := ⟨_, rfl⟩
    have QA := Lib.hid (show Below wr.heap.size wr W1 by rw [← hW1]; exact ((Below.refl _ wr).alloc (Nat.le_refl _) _).alloc (by simp) _)
    have X1 := Lib.hid (show Bx W1 wr.heap.size 74 #[.string (ofL x.nm), .slice A1 n1 c1, .slice A3 n3 c3] by rw [← hW1]; exact (Bx.new wr _ _).alloc _)
    have X2 := Lib.hid (show Bx W1 (wr.heap.size + 1) 74 #[.string (ofL y.nm), .slice B1 m1 d1, .slice B3 m3 d3] by rw [← hW1]; exact Bx.new2 (size_alloc _ _))
    have HW1 := Lib.hid hW1
    have QB := Lib.hid (HR.out.trans (QA.out.mono HR.out.size))
    have RX := Lib.hid (show RMs S W1 x (.agg #[.string (ofL x.nm), .slice A1 n1 c1, .slice A3 n3 c3]) ∧ G x from ⟨⟨_, _, rfl, hl1.belowT QA.out, hl2.belowT QA.out⟩, HGL.out _ (List.mem_of_getElem? hx)⟩)
    have RY := Lib.hid (show RMs S W1 y (.agg #[.string (ofL y.nm), .slice B1 m1 d1, .slice B3 m3 d3]) ∧ G y from ⟨⟨_, _, rfl, hl3.belowT QA.out, hl4.belowT QA.out⟩, HGM.out _ (List.mem_of_getElem? hy)⟩)
    have r0 : (wr.alloc (.cells #[.string (ofL x.nm), .slice A1 n1 c1, .slice A3 n3 c3] 74)).cell? ⟨bb2, o2 + i * 3, none⟩ = some (.string (ofL y.nm)) := (((Below.refl _ wr).alloc (Nat.le_refl _) _).cell (p := ⟨bb2, o2 + i * 3, none⟩) hbl2).trans p0
    have r1 : (wr.alloc (.cells #[.string (ofL x.nm), .slice A1 n1 c1, .slice A3 n3 c3] 74)).cell? ⟨bb2, o2 + i * 3 + 1, none⟩ = some (.slice B1 m1 d1) := (((Below.refl _ wr).alloc (Nat.le_refl _) _).cell (p := ⟨bb2, o2 + i * 3 + 1, none⟩) hbl2).trans p1
    have r2 : (wr.alloc (.cells #[.string (ofL x.nm), .slice A1 n1 c1, .slice A3 n3 c3] 74)).cell? ⟨bb2, o2 + i * 3 + 2, none⟩ = some (.slice B3 m3 d3) := (((Below.refl _ wr).alloc (Nat.le_refl _) _).cell (p := ⟨bb2, o2 + i * 3 + 2, none⟩) hbl2).trans p2
    obtain ⟨z0, z1, z2⟩ := X1.out.k3
    obtain ⟨y0, y1, y2⟩ := X2.out.k3
    clear hl1 hl2 hl3 hl4
    clear hx hy hcell hcell2 hbl hbl2 hie hq hW1
    go_wp2_with fail
    rw [HW1.out]
    refine (hK2.out _ _ _ _ _ RX.out RY.out).mono ?_; rintro e w4 ⟨rfl, hb4⟩
    have H4 := Lib.hid (QB.out.trans (hb4.mono QB.out.size))
    clear hb4 u0 p0 z0 y0 r0 u1 p1 z1 y1 r1 u2 p2 z2 y2 r2
    cases hqx : q x y with
    | false =>
     have HF := Lib.hid (show false = eqL q l m by rw [HQ.out, hqx]; rfl)
     clear hqx
     go_wp2_with fail
     go_ret
     exact ⟨by rw [← HF.out]; rfl, H4.out⟩
    | true =>
     have HF := Lib.hid (show eqL q l m = eqL q (l.drop (i + 1)) (m.drop (i + 1)) by rw [HQ.out, hqx]; rfl)
     clear hqx
     go_wp2_with fail
     go_roundg (gk - 1)
     case rel => exact ⟨i + 1, by simp, by omega, by omega, HF.out, H4⟩
     case measure => omega
 ·have HF := Lib.hid (show eqL q l m = false from eqL_len hlen)
  have e1 : ((l.length : Int) == (m.length : Int)) = false := by rw [beq_eq_false_iff_ne]; omega
  clear hlen hn
  go_enter Tryz.func102, Tryz.ntmps102
  go_wp2_with fail
  go_ret
  exact ⟨by rw [HF.out]; rfl, Below.refl _ _⟩
set_option maxHeartbeats 4000000 in
theorem eqfP_any (K : Nat) (q : Pr → Pr → Bool) (G : Pr → Prop) (hK : IsQ2 K q (fun w x v => RPr S w x v ∧ G x)) (l m : List Pr) (hGl : ∀ x ∈ l, G x) (hGm : ∀ x ∈ m, G x) (v u : Value) (L : Lies w S v ((fun l : List Pr => D.s 4 (l.flatMap dP)) l)) (M : Lies w S u ((fun l : List Pr => D.s 4 (l.flatMap dP)) m)) (hn : l.length = m.length → l.length ≤ 1000000000) :
  Calls Tryz.prog 58 #[v, u, .func (.func K) #[] #[]] w (Tells w (.bool (eqL q l m))) := by
 obtain ⟨A, n, c, rfl, hm⟩ := Lies.slc (show Lies w S v (.s 4 ((fun l : List Pr => l.flatMap dP) l)) from L)
 obtain rfl : n = l.length := by have h1 : n * 4 = (l.flatMap dP).length := (by exact hm); rw [flat_len dP_len] at h1; omega
 obtain ⟨A2, n, c2, rfl, hm2⟩ := Lies.slc (show Lies w S u (.s 4 ((fun l : List Pr => l.flatMap dP) m)) from M)
 obtain rfl : n = m.length := by have h1 : n * 4 = (m.flatMap dP).length := (by exact hm2); rw [flat_len dP_len] at h1; omega
 have LL := Lib.hid (show Lies w S (.slice A l.length c) (.s 4 ((fun l : List Pr => l.flatMap dP) l)) from L)
 have MM := Lib.hid (show Lies w S (.slice A2 m.length c2) (.s 4 ((fun l : List Pr => l.flatMap dP) m)) from M)
 have hE := hK.1
 have hK2 := Lib.hid hK.2
 have HGL := Lib.hid hGl
 have HGM := Lib.hid hGm
 clear L M hm hm2 hK hGl hGm
 by_cases hlen : l.length = m.length
 ·have hn := hn hlen
  rw [← hlen]
  have HLN := Lib.hid hlen
  clear hlen
  go_enter Tryz.func58, Tryz.ntmps58
  go_wp2_with fail
  go_loopg [17] l.length (fun gk vi wr => EfRel w q l m gk vi wr)
  case atStart => exact ⟨0, rfl, by omega, by omega, rfl, Below.refl _ _⟩
  case round =>
   obtain ⟨i, rfl, hil, hgk, hq, HR⟩ := hrel
   by_cases hie : i = l.length
   ·have hc : ¬ ((i : Int) < (l.length : Int)) := by omega
    have HF := Lib.hid (show true = eqL q l m by rw [hq.out, hie, List.drop_length, HLN.out, List.drop_length]; rfl)
    clear hie
    go_wp2_with fail
    go_ret
    exact ⟨by rw [← HF.out]; rfl, HR.out⟩
   ·have hc : (i : Int) < (l.length : Int) := by omega
    have hlt : i < l.length := by omega
    have hlt2 : i < m.length := by rw [← HLN.out]; exact hlt
    obtain ⟨x, hx⟩ : ∃ x, l[i]? = some x := ⟨l[i], List.getElem?_eq_getElem hlt⟩
    obtain ⟨y, hy⟩ : ∃ y, m[i]? = some y := ⟨m[i], List.getElem?_eq_getElem hlt2⟩
    have HQ := Lib.hid (show eqL q l m = (q x y && eqL q (l.drop (i + 1)) (m.drop (i + 1))) by
     rw [hq.out, List.drop_eq_getElem_cons hlt, List.drop_eq_getElem_cons hlt2, eqL, (List.getElem?_eq_some_iff.1 hx).2, (List.getElem?_eq_some_iff.1 hy).2])
    have LW := Lib.hid (LL.out.belowT HR.out)
    have MW := Lib.hid (MM.out.belowT HR.out)
    obtain ⟨bb, o, n', c', he, hn', -, hbl, hcell⟩ := sl_cell (z := 4) LW.out (by intro e0; have := congrArg List.length (show (l.flatMap dP) = [] from e0); rw [flat_len dP_len, List.length_nil] at this; omega)
    obtain ⟨bb2, o2, n2', c2', he2, hn2', -, hbl2, hcell2⟩ := sl_cell (z := 4) MW.out (by intro e0; have := congrArg List.length (show (m.flatMap dP) = [] from e0); rw [flat_len dP_len, List.length_nil] at this; omega)
    simp only [Value.slice.injEq] at he he2
    obtain ⟨rfl, -, rfl⟩ := he
    obtain ⟨rfl, -, rfl⟩ := he2
    skip
    obtain ⟨A1, n1, c1, A3, n3, c3, A4, n4, c4, u0, u1, u2, u3, hl1, hl2, hl3⟩ := pr_cells hcell hx
    obtain ⟨B1, m1, d1, B3, m3, d3, B4, m4, d4, p0, p1, p2, p3, hl4, hl5, hl6⟩ := pr_cells hcell2 hy
    obtain ⟨W1, hW1⟩ : ∃ W, (wr.alloc (.cells #[.string (ofL x.nm), .slice A1 n1 c1, .slice A3 n3 c3, .slice A4 n4 c4] 59)).alloc (.cells #[.string (ofL y.nm), .slice B1 m1 d1, .slice B3 m3 d3, .slice B4 m4 d4] 59) = W := ⟨_, rfl⟩
    have QA := Lib.hid (show Below wr.heap.size wr W1 by rw [← hW1]; exact ((Below.refl _ wr).alloc (Nat.le_refl _) _).alloc (by simp) _)
    have X1 := Lib.hid (show Bx W1 wr.heap.size 59 #[.string (ofL x.nm), .slice A1 n1 c1, .slice A3 n3 c3, .slice A4 n4 c4] by rw [← hW1]; exact (Bx.new wr _ _).alloc _)
    have X2 := Lib.hid (show Bx W1 (wr.heap.size + 1) 59 #[.string (ofL y.nm), .slice B1 m1 d1, .slice B3 m3 d3, .slice B4 m4 d4] by rw [← hW1]; exact Bx.new2 (size_alloc _ _))
    have HW1 := Lib.hid hW1
    have QB := Lib.hid (HR.out.trans (QA.out.mono HR.out.size))
    have RX := Lib.hid (show RPr S W1 x (.agg #[.string (ofL x.nm), .slice A1 n1 c1, .slice A3 n3 c3, .slice A4 n4 c4]) ∧ G x from ⟨⟨_, _, _, rfl, hl1.belowT QA.out, hl2.belowT QA.out, hl3.belowT QA.out⟩, HGL.out _ (List.mem_of_getElem? hx)⟩)
    have RY := Lib.hid (show RPr S W1 y (.agg #[.string (ofL y.nm), .slice B1 m1 d1, .slice B3 m3 d3, .slice B4 m4 d4]) ∧ G y from ⟨⟨_, _, _, rfl, hl4.belowT QA.out, hl5.belowT QA.out, hl6.belowT QA.out⟩, HGM.out _ (List.mem_of_getElem? hy)⟩)
    have r0 : (wr.alloc (.cells #[.string (ofL x.nm), .slice A1 n1 c1, .slice A3 n3 c3, .slice A4 n4 c4] 59)).cell? ⟨bb2, o2 + i * 4, none⟩ = some (.string (ofL y.nm)) := (((Below.refl _ wr).alloc (Nat.le_refl _) _).cell (p := ⟨bb2, o2 + i * 4, none⟩) hbl2).trans p0
    have r1 : (wr.alloc (.cells #[.string (ofL x.nm), .slice A1 n1 c1, .slice A3 n3 c3, .slice A4 n4 c4] 59)).cell? ⟨bb2, o2 + i * 4 + 1, none⟩ = some (.slice B1 m1 d1) := (((Below.refl _ wr).alloc (Nat.le_refl _) _).cell (p := ⟨bb2, o2 + i * 4 + 1, none⟩) hbl2).trans p1
    have r2 : (wr.alloc (.cells #[.string (ofL x.nm), .slice A1 n1 c1, .slice A3 n3 c3, .slice A4 n4 c4] 59)).cell? ⟨bb2, o2 + i * 4 + 2, none⟩ = some (.slice B3 m3 d3) := (((Below.refl _ wr).alloc (Nat.le_refl _) _).cell (p := ⟨bb2, o2 + i * 4 + 2, none⟩) hbl2).trans p2
    have r3 : (wr.alloc (.cells #[.string (ofL x.nm), .slice A1 n1 c1, .slice A3 n3 c3, .slice A4 n4 c4] 59)).cell? ⟨bb2, o2 + i * 4 + 3, none⟩ = some (.slice B4 m4 d4) := (((Below.refl _ wr).alloc (Nat.le_refl _) _).cell (p := ⟨bb2, o2 + i * 4 + 3, none⟩) hbl2).trans p3
    obtain ⟨z0, z1, z2, z3⟩ := X1.out.k4
    obtain ⟨y0, y1, y2, y3⟩ := X2.out.k4
    clear hl1 hl2 hl3 hl4 hl5 hl6
    clear hx hy hcell hcell2 hbl hbl2 hie hq hW1
    go_wp2_with fail
    rw [HW1.out]
    refine (hK2.out _ _ _ _ _ RX.out RY.out).mono ?_; rintro e w4 ⟨rfl, hb4⟩
    have H4 := Lib.hid (QB.out.trans (hb4.mono QB.out.size))
    clear hb4 u0 p0 z0 y0 r0 u1 p1 z1 y1 r1 u2 p2 z2 y2 r2 u3 p3 z3 y3 r3
    cases hqx : q x y with
    | false =>
     have HF := Lib.hid (show false = eqL q l m by rw [HQ.out, hqx]; rfl)
     clear hqx
     go_wp2_with fail
     go_ret
     exact ⟨by rw [← HF.out]; rfl, H4.out⟩
    | true =>
     have HF := Lib.hid (show eqL q l m = eqL q (l.drop (i + 1)) (m.drop (i + 1)) by rw [HQ.out, hqx]; rfl)
     clear hqx
     go_wp2_with fail
     go_roundg (gk - 1)
     case rel => exact ⟨i + 1, by simp, by omega, by omega, HF.out, H4⟩
     case measure => omega
 ·have HF := Lib.hid (show eqL q l m = false from eqL_len hlen)
  have e1 : ((l.length : Int) == (m.length : Int)) = false := by rw [beq_eq_false_iff_ne]; omega
  clear hlen hn
  go_enter Tryz.func58, Tryz.ntmps58
  go_wp2_with fail
  go_ret
  exact ⟨by rw [HF.out]; rfl, Below.refl _ _⟩
set_option maxHeartbeats 4000000 in
theorem eqfI_any (K : Nat) (q : It → It → Bool) (G : It → Prop) (hK : IsQ2 K q (fun w x v => RIt S w x v ∧ G x)) (l m : List It) (hGl : ∀ x ∈ l, G x) (hGm : ∀ x ∈ m, G x) (v u : Value) (L : Lies w S v (dB l)) (M : Lies w S u (dB m)) (hn : l.length = m.length → l.length ≤ 1000000000) :
  Calls Tryz.prog 167 #[v, u, .func (.func K) #[] #[]] w (Tells w (.bool (eqL q l m))) := by
 obtain ⟨A, n, c, rfl, hm⟩ := Lies.slc (show Lies w S v (.s 7 (dIs l)) from L)
 obtain rfl : n = l.length := by have h1 : n * 7 = (l.flatMap dIt).length := (by rw [dIs_map] at hm; exact hm); rw [flat_len dIt_len] at h1; omega
 obtain ⟨A2, n, c2, rfl, hm2⟩ := Lies.slc (show Lies w S u (.s 7 (dIs m)) from M)
 obtain rfl : n = m.length := by have h1 : n * 7 = (m.flatMap dIt).length := (by rw [dIs_map] at hm2; exact hm2); rw [flat_len dIt_len] at h1; omega
 have LL := Lib.hid (show Lies w S (.slice A l.length c) (.s 7 (dIs l)) from L)
 have MM := Lib.hid (show Lies w S (.slice A2 m.length c2) (.s 7 (dIs m)) from M)
 have hE := hK.1
 have hK2 := Lib.hid hK.2
 have HGL := Lib.hid hGl
 have HGM := Lib.hid hGm
 clear L M hm hm2 hK hGl hGm
 by_cases hlen : l.length = m.length
 ·have hn := hn hlen
  rw [← hlen]
  have HLN := Lib.hid hlen
  clear hlen
  go_enter Tryz.func167, Tryz.ntmps167
  go_wp2_with fail
  go_loopg [17] l.length (fun gk vi wr => EfRel w q l m gk vi wr)
  case atStart => exact ⟨0, rfl, by omega, by omega, rfl, Below.refl _ _⟩
  case round =>
   obtain ⟨i, rfl, hil, hgk, hq, HR⟩ := hrel
   by_cases hie : i = l.length
   ·have hc : ¬ ((i : Int) < (l.length : Int)) := by omega
    have HF := Lib.hid (show true = eqL q l m by rw [hq.out, hie, List.drop_length, HLN.out, List.drop_length]; rfl)
    clear hie
    go_wp2_with fail
    go_ret
    exact ⟨by rw [← HF.out]; rfl, HR.out⟩
   ·have hc : (i : Int) < (l.length : Int) := by omega
    have hlt : i < l.length := by omega
    have hlt2 : i < m.length := by rw [← HLN.out]; exact hlt
    obtain ⟨x, hx⟩ : ∃ x, l[i]? = some x := ⟨l[i], List.getElem?_eq_getElem hlt⟩
    obtain ⟨y, hy⟩ : ∃ y, m[i]? = some y := ⟨m[i], List.getElem?_eq_getElem hlt2⟩
    have HQ := Lib.hid (show eqL q l m = (q x y && eqL q (l.drop (i + 1)) (m.drop (i + 1))) by
     rw [hq.out, List.drop_eq_getElem_cons hlt, List.drop_eq_getElem_cons hlt2, eqL, (List.getElem?_eq_some_iff.1 hx).2, (List.getElem?_eq_some_iff.1 hy).2])
    have LW := Lib.hid (LL.out.belowT HR.out)
    have MW := Lib.hid (MM.out.belowT HR.out)
    obtain ⟨bb, o, n', c', he, hn', -, hbl, hcell⟩ := sl_cell (z := 7) LW.out (by intro e0; have := congrArg List.length (show (l.flatMap dIt) = [] from by rw [← dIs_map]; exact e0); rw [flat_len dIt_len, List.length_nil] at this; omega)
    obtain ⟨bb2, o2, n2', c2', he2, hn2', -, hbl2, hcell2⟩ := sl_cell (z := 7) MW.out (by intro e0; have := congrArg List.length (show (m.flatMap dIt) = [] from by rw [← dIs_map]; exact e0); rw [flat_len dIt_len, List.length_nil] at this; omega)
    simp only [Value.slice.injEq] at he he2
    obtain ⟨rfl, -, rfl⟩ := he
    obtain ⟨rfl, -, rfl⟩ := he2
    obtain ⟨k1, fr1, to1, nm1, al1, tk1, bl1⟩ := x
    obtain ⟨k2, fr2, to2, nm2, al2, tk2, bl2⟩ := y
    obtain ⟨At1, ct1, Ab1, cb1, u0, u1, u2, u3, u4, u5, u6, hI1⟩ := it_cells hcell hx
    obtain ⟨At2, ct2, Ab2, cb2, p0, p1, p2, p3, p4, p5, p6, hI2⟩ := it_cells hcell2 hy
    obtain ⟨W1, hW1⟩ : ∃ W, (wr.alloc (.cells #[.int .i64 k1, .string (ofL fr1), .slice At1 to1.length ct1, .string (ofL nm1), .string (ofL al1), .int .i64 tk1, .slice Ab1 bl1.length cb1] 70)).alloc (.cells #[.int .i64 k2, .string (ofL fr2), .slice At2 to2.length ct2, .string (ofL nm2), .string (ofL al2), .int .i64 tk2, .slice Ab2 bl2.length cb2] 70) = W := ⟨_, rfl⟩
    have QA := Lib.hid (show Below wr.heap.size wr W1 by rw [← hW1]; exact ((Below.refl _ wr).alloc (Nat.le_refl _) _).alloc (by simp) _)
    have X1 := Lib.hid (show Bx W1 wr.heap.size 70 #[.int .i64 k1, .string (ofL fr1), .slice At1 to1.length ct1, .string (ofL nm1), .string (ofL al1), .int .i64 tk1, .slice Ab1 bl1.length cb1] by rw [← hW1]; exact (Bx.new wr _ _).alloc _)
    have X2 := Lib.hid (show Bx W1 (wr.heap.size + 1) 70 #[.int .i64 k2, .string (ofL fr2), .slice At2 to2.length ct2, .string (ofL nm2), .string (ofL al2), .int .i64 tk2, .slice Ab2 bl2.length cb2] by rw [← hW1]; exact Bx.new2 (size_alloc _ _))
    have HW1 := Lib.hid hW1
    have QB := Lib.hid (HR.out.trans (QA.out.mono HR.out.size))
    have RX := Lib.hid (show RIt S W1 (.mk k1 fr1 to1 nm1 al1 tk1 bl1) (.agg #[.int .i64 k1, .string (ofL fr1), .slice At1 to1.length ct1, .string (ofL nm1), .string (ofL al1), .int .i64 tk1, .slice Ab1 bl1.length cb1]) ∧ G (.mk k1 fr1 to1 nm1 al1 tk1 bl1) from ⟨⟨_, _, _, _, rfl, hI1.1.belowT QA.out, hI1.2.belowT QA.out⟩, HGL.out _ (List.mem_of_getElem? hx)⟩)
    have RY := Lib.hid (show RIt S W1 (.mk k2 fr2 to2 nm2 al2 tk2 bl2) (.agg #[.int .i64 k2, .string (ofL fr2), .slice At2 to2.length ct2, .string (ofL nm2), .string (ofL al2), .int .i64 tk2, .slice Ab2 bl2.length cb2]) ∧ G (.mk k2 fr2 to2 nm2 al2 tk2 bl2) from ⟨⟨_, _, _, _, rfl, hI2.1.belowT QA.out, hI2.2.belowT QA.out⟩, HGM.out _ (List.mem_of_getElem? hy)⟩)
    have r0 : (wr.alloc (.cells #[.int .i64 k1, .string (ofL fr1), .slice At1 to1.length ct1, .string (ofL nm1), .string (ofL al1), .int .i64 tk1, .slice Ab1 bl1.length cb1] 70)).cell? ⟨bb2, o2 + i * 7, none⟩ = some (.int .i64 k2) := (((Below.refl _ wr).alloc (Nat.le_refl _) _).cell (p := ⟨bb2, o2 + i * 7, none⟩) hbl2).trans p0
    have r1 : (wr.alloc (.cells #[.int .i64 k1, .string (ofL fr1), .slice At1 to1.length ct1, .string (ofL nm1), .string (ofL al1), .int .i64 tk1, .slice Ab1 bl1.length cb1] 70)).cell? ⟨bb2, o2 + i * 7 + 1, none⟩ = some (.string (ofL fr2)) := (((Below.refl _ wr).alloc (Nat.le_refl _) _).cell (p := ⟨bb2, o2 + i * 7 + 1, none⟩) hbl2).trans p1
    have r2 : (wr.alloc (.cells #[.int .i64 k1, .string (ofL fr1), .slice At1 to1.length ct1, .string (ofL nm1), .string (ofL al1), .int .i64 tk1, .slice Ab1 bl1.length cb1] 70)).cell? ⟨bb2, o2 + i * 7 + 2, none⟩ = some (.slice At2 to2.length ct2) := (((Below.refl _ wr).alloc (Nat.le_refl _) _).cell (p := ⟨bb2, o2 + i * 7 + 2, none⟩) hbl2).trans p2
    have r3 : (wr.alloc (.cells #[.int .i64 k1, .string (ofL fr1), .slice At1 to1.length ct1, .string (ofL nm1), .string (ofL al1), .int .i64 tk1, .slice Ab1 bl1.length cb1] 70)).cell? ⟨bb2, o2 + i * 7 + 3, none⟩ = some (.string (ofL nm2)) := (((Below.refl _ wr).alloc (Nat.le_refl _) _).cell (p := ⟨bb2, o2 + i * 7 + 3, none⟩) hbl2).trans p3
    have r4 : (wr.alloc (.cells #[.int .i64 k1, .string (ofL fr1), .slice At1 to1.length ct1, .string (ofL nm1), .string (ofL al1), .int .i64 tk1, .slice Ab1 bl1.length cb1] 70)).cell? ⟨bb2, o2 + i * 7 + 4, none⟩ = some (.string (ofL al2)) := (((Below.refl _ wr).alloc (Nat.le_refl _) _).cell (p := ⟨bb2, o2 + i * 7 + 4, none⟩) hbl2).trans p4
    have r5 : (wr.alloc (.cells #[.int .i64 k1, .string (ofL fr1), .slice At1 to1.length ct1, .string (ofL nm1), .string (ofL al1), .int .i64 tk1, .slice Ab1 bl1.length cb1] 70)).cell? ⟨bb2, o2 + i * 7 + 5, none⟩ = some (.int .i64 tk2) := (((Below.refl _ wr).alloc (Nat.le_refl _) _).cell (p := ⟨bb2, o2 + i * 7 + 5, none⟩) hbl2).trans p5
    have r6 : (wr.alloc (.cells #[.int .i64 k1, .string (ofL fr1), .slice At1 to1.length ct1, .string (ofL nm1), .string (ofL al1), .int .i64 tk1, .slice Ab1 bl1.length cb1] 70)).cell? ⟨bb2, o2 + i * 7 + 6, none⟩ = some (.slice Ab2 bl2.length cb2) := (((Below.refl _ wr).alloc (Nat.le_refl _) _).cell (p := ⟨bb2, o2 + i * 7 + 6, none⟩) hbl2).trans p6
    obtain ⟨z0, z1, z2, z3, z4, z5, z6⟩ := X1.out.k7
    obtain ⟨y0, y1, y2, y3, y4, y5, y6⟩ := X2.out.k7
    clear hI1 hI2
    clear hx hy hcell hcell2 hbl hbl2 hie hq hW1
    go_wp2_with fail
    rw [HW1.out]
    refine (hK2.out _ _ _ _ _ RX.out RY.out).mono ?_; rintro e w4 ⟨rfl, hb4⟩
    have H4 := Lib.hid (QB.out.trans (hb4.mono QB.out.size))
    clear hb4 u0 p0 z0 y0 r0 u1 p1 z1 y1 r1 u2 p2 z2 y2 r2 u3 p3 z3 y3 r3 u4 p4 z4 y4 r4 u5 p5 z5 y5 r5 u6 p6 z6 y6 r6
    cases hqx : q (.mk k1 fr1 to1 nm1 al1 tk1 bl1) (.mk k2 fr2 to2 nm2 al2 tk2 bl2) with
    | false =>
     have HF := Lib.hid (show false = eqL q l m by rw [HQ.out, hqx]; rfl)
     clear hqx
     go_wp2_with fail
     go_ret
     exact ⟨by rw [← HF.out]; rfl, H4.out⟩
    | true =>
     have HF := Lib.hid (show eqL q l m = eqL q (l.drop (i + 1)) (m.drop (i + 1)) by rw [HQ.out, hqx]; rfl)
     clear hqx
     go_wp2_with fail
     go_roundg (gk - 1)
     case rel => exact ⟨i + 1, by simp, by omega, by omega, HF.out, H4⟩
     case measure => omega
 ·have HF := Lib.hid (show eqL q l m = false from eqL_len hlen)
  have e1 : ((l.length : Int) == (m.length : Int)) = false := by rw [beq_eq_false_iff_ne]; omega
  clear hlen hn
  go_enter Tryz.func167, Tryz.ntmps167
  go_wp2_with fail
  go_ret
  exact ⟨by rw [HF.out]; rfl, Below.refl _ _⟩
end
/- A map with keys of three cells (two pointers and a number): the first look-up and the first entry. -/
open Go.RowKit

theorem getMap {w : World} {r c : Nat} {es : Array MapEntry} (h : w.heap[r]? = some (.map es c)) : (getObj r).run Tryz.prog w = .ok (.map es c) w := by simp [getObj, Sem.run, h]
theorem setMap {w : World} {r c : Nat} {es : Array MapEntry} (o : Obj) (h : w.heap[r]? = some (.map es c)) : (setObj r o).run Tryz.prog w = .ok () (w.putObj r o) := by simp [setObj, Sem.run, h, World.putObj]
def pairV (a b : Option Addr) (k : Int) : Value := .agg #[.pointer a, .pointer b, .int .i64 k]
set_option maxRecDepth 20000 in
theorem pair_check (em : Bool) (a b : Option Addr) (k : Int) (w : World) : (Instr.checkKey em 10000 225 (pairV a b k)).run Tryz.prog w = .ok () w := by
 show (Instr.checkKey em (9998 + 1 + 1) _ _).run Tryz.prog w = _
 generalize 9998 = n
 unfold pairV
 rw [Instr.checkKey]
 simp [run_underlying Tryz.underlying225, Result.andThen, Instr.checkKey, go_sem]
/- Layer 10: sameItems at items without blocks. -/
open Go.RowKit

/-- What sameHead answers of two items. -/
def hdq : It → It → Bool
 | .mk k1 fr1 to1 nm1 al1 tk1 bl1, .mk k2 fr2 to2 nm2 al2 tk2 bl2 => shB k1 fr1 to1 nm1 al1 tk1 bl1.length k2 fr2 to2 nm2 al2 tk2 bl2.length
def ToOK : It → Prop
 | .mk _ _ to _ _ _ _ => to.length ≤ 1000000000
theorem make_map (w : World) : (Instr.makeMap 221 none).run Tryz.prog w = .ok (.map (some w.heap.size)) (w.alloc (.map #[] 0)) := by
 simp [Instr.makeMap, go_sem]
theorem ent_sameHead : ∀ args w, (callFunc 168 args).run Tryz.prog w = .ok (.enter 168 args) w := enters_of Tryz.func168 (by kernel_rfl) rfl
section
variable {w w' : World} {S : Nat → Prop}
theorem sameHead_q : IsQ2 168 hdq (fun w x v => RIt S w x v ∧ ToOK x) := by
 refine ⟨ent_sameHead, ?_⟩
 rintro w ⟨k1, fr1, to1, nm1, al1, tk1, bl1⟩ v ⟨k2, fr2, to2, nm2, al2, tk2, bl2⟩ u ⟨⟨At1, ct1, Ab1, cb1, rfl, h1⟩, g1⟩ ⟨⟨At2, ct2, Ab2, cb2, rfl, h2⟩, g2⟩
 exact sameHead_any k1 tk1 k2 tk2 fr1 nm1 al1 fr2 nm2 al2 to1 to2 _ _ Ab1 Ab2 bl1.length cb1 bl2.length cb2 h1.1 h2.1 (fun _ => g1)
end
/- Items compared with everything in their blocks: what is met, what is open; what lies in the same memory is the same. -/
open Go.RowKit

abbrev ILP := List It × List It
def blksOf : It → List (List It)
 | .mk _ _ _ _ _ _ bl => bl
/-- The pairs of blocks of two lists of items. -/
def kidsOf (p : ILP) : List ILP := (p.1.flatMap blksOf).zip (p.2.flatMap blksOf)
theorem hdq_eq {x y : It} (h : hdq x y = true) (hb : blksOf x = blksOf y) : x = y := by
 obtain ⟨k1, fr1, to1, nm1, al1, tk1, bl1⟩ := x
 obtain ⟨k2, fr2, to2, nm2, al2, tk2, bl2⟩ := y
 simp only [hdq, shB, Bool.and_eq_true, decide_eq_true_eq] at h
 obtain ⟨rfl, rfl, rfl, rfl, rfl, rfl, -⟩ := h
 simp only [blksOf] at hb
 rw [hb]
theorem hdq_len {x y : It} (h : hdq x y = true) : (blksOf x).length = (blksOf y).length := by
 obtain ⟨k1, fr1, to1, nm1, al1, tk1, bl1⟩ := x
 obtain ⟨k2, fr2, to2, nm2, al2, tk2, bl2⟩ := y
 simp only [hdq, shB, Bool.and_eq_true, decide_eq_true_eq] at h
 exact h.2.2.2.2.2.2
theorem hdq_refl (x : It) : hdq x x = true := by
 obtain ⟨k1, fr1, to1, nm1, al1, tk1, bl1⟩ := x
 simp [hdq, shB]
theorem eqL_hdq_refl : ∀ X : List It, eqL hdq X X = true
 | [] => rfl
 | x :: r => by simp [eqL, hdq_refl, eqL_hdq_refl r]
theorem eqL_blks : ∀ {X Y : List It}, eqL hdq X Y = true → (∀ q ∈ (X.flatMap blksOf).zip (Y.flatMap blksOf), q.1 = q.2) → X = Y
 | [], [], _, _ => rfl
 | [], _ :: _, h, _ => by simp [eqL] at h
 | _ :: _, [], h, _ => by simp [eqL] at h
 | x :: X, y :: Y, h, hk => by
  simp only [eqL, Bool.and_eq_true] at h
  have hl := hdq_len h.1
  simp only [List.flatMap_cons] at hk
  rw [List.zip_append hl] at hk
  have hx : blksOf x = blksOf y := by
   apply List.ext_getElem hl
   intro i h1 h2
   exact hk (_, _) (List.mem_append_left _ (List.mem_iff_getElem.2 ⟨i, by rw [List.length_zip]; omega, by simp⟩))
  rw [hdq_eq h.1 hx, eqL_blks h.2 fun q hq => hk q (List.mem_append_right _ hq)]
theorem nBl_append : ∀ (l m : List (List It)), nBl (l ++ m) = nBl l + nBl m
 | [], m => by simp [nBl]
 | b :: l, m => by simp [nBl, nBl_append l m]; omega
theorem nBl_flat : ∀ X : List It, nBl (X.flatMap blksOf) ≤ nIs X
 | [] => by simp [nBl, nIs]
 | .mk _ _ _ _ _ _ bl :: r => by
  have := nBl_flat r
  simp only [List.flatMap_cons, blksOf, nBl_append, nIs, nIt]
  omega
theorem nIs_mem {b : List It} : ∀ {l : List (List It)}, b ∈ l → nIs b < nBl l
 | c :: l, h => by
  rcases List.mem_cons.1 h with rfl | h
  ·simp only [nBl]; omega
  ·have := nIs_mem h; simp only [nBl]; omega
/-- What is open of a comparison: the sum of the sizes. -/
def muS : List ILP → Nat
 | [] => 0
 | p :: r => nIs p.1 + 1 + muS r
theorem muS_append : ∀ (l m : List ILP), muS (l ++ m) = muS l + muS m
 | [], m => by simp [muS]
 | p :: l, m => by simp [muS, muS_append l m]; omega
theorem muS_zip : ∀ (l m : List (List It)), muS (l.zip m) ≤ nBl l
 | [], _ => by simp [muS]
 | _ :: _, [] => by simp [muS]
 | b :: l, c :: m => by have := muS_zip l m; simp only [List.zip_cons_cons, muS, nBl]; omega
theorem muS_kids (p : ILP) : muS (kidsOf p) ≤ nIs p.1 := Nat.le_trans (muS_zip _ _) (nBl_flat _)
def Emp (p : ILP) : Prop := p.1 = [] ∧ p.2 = []
/-- The invariant: what is met is equal but for the blocks, and these are open, met or empty. -/
structure EqInv (p0 : ILP) (St met : List ILP) : Prop where
 fst : p0.1 = p0.2 → ∀ p ∈ St, p.1 = p.2
 hd : ∀ p ∈ met, eqL hdq p.1 p.2 = true
 kids : ∀ p ∈ met, ∀ q ∈ kidsOf p, q ∈ St ∨ q ∈ met ∨ Emp q
 top : p0 ∈ St ∨ p0 ∈ met ∨ Emp p0
theorem EqInv.start (p0 : ILP) : EqInv p0 [p0] [] := ⟨fun h p hp => by simp at hp; subst hp; exact h, by simp, by simp, .inl (by simp)⟩
theorem EqInv.drop {p0 p : ILP} {St met : List ILP} (h : EqInv p0 (St ++ [p]) met) (he : p ∈ met ∨ Emp p) : EqInv p0 St met := by
 have mv : ∀ q, q ∈ St ++ [p] ∨ q ∈ met ∨ Emp q → q ∈ St ∨ q ∈ met ∨ Emp q := by
  intro q hq
  rcases hq with hq | hq
  ·rcases List.mem_append.1 hq with hq | hq
   ·exact .inl hq
   ·simp at hq; subst hq; exact .inr he
  ·exact .inr hq
 exact ⟨fun e q hq => h.fst e q (List.mem_append_left _ hq), h.hd, fun q hq r hr => mv r (h.kids q hq r hr), mv _ h.top⟩
theorem EqInv.step {p0 p : ILP} {St met : List ILP} (h : EqInv p0 (St ++ [p]) met) (he : eqL hdq p.1 p.2 = true) : EqInv p0 (St ++ kidsOf p) (p :: met) := by
 have mv : ∀ q, q ∈ St ++ [p] ∨ q ∈ met ∨ Emp q → q ∈ St ++ kidsOf p ∨ q ∈ p :: met ∨ Emp q := by
  intro q hq
  rcases hq with hq | hq | hq
  ·rcases List.mem_append.1 hq with hq | hq
   ·exact .inl (List.mem_append_left _ hq)
   ·simp at hq; subst hq; exact .inr (.inl (by simp))
  ·exact .inr (.inl (List.mem_cons_of_mem _ hq))
  ·exact .inr (.inr hq)
 refine ⟨fun e q hq => ?_, fun q hq => ?_, fun q hq r hr => ?_, mv _ h.top⟩
 ·rcases List.mem_append.1 hq with hq | hq
  ·exact h.fst e q (List.mem_append_left _ hq)
  ·have := h.fst e p (by simp)
   unfold kidsOf at hq
   rw [this] at hq
   obtain ⟨i, hi, e1⟩ := List.mem_iff_getElem.1 hq
   simp at e1
   rw [← e1]
 ·rcases List.mem_cons.1 hq with rfl | hq
  ·exact he
  ·exact h.hd q hq
 ·rcases List.mem_cons.1 hq with rfl | hq
  ·exact .inl (List.mem_append_right _ hr)
  ·exact mv r (h.kids q hq r hr)
theorem EqInv.stop {p0 : ILP} {met : List ILP} (h : EqInv p0 [] met) : p0.1 = p0.2 := by
 have key : ∀ n (p : ILP), nIs p.1 < n → p ∈ met ∨ Emp p → p.1 = p.2 := by
  intro n
  induction n with
  | zero => intro p hp; omega
  | succ n ih =>
   intro p hp hm
   rcases hm with hm | hm
   ·refine eqL_blks (h.hd p hm) fun q hq => ih q ?_ ?_
    ·have h1 := nIs_mem (List.of_mem_zip (show (q.1, q.2) ∈ _ from hq)).1
     have h2 := nBl_flat p.1
     omega
    ·rcases h.kids p hm q hq with h3 | h3
     ·cases h3
     ·exact h3
   ·rw [hm.1, hm.2]
 refine key (nIs p0.1 + 1) p0 (by omega) ?_
 rcases h.top with h1 | h1
 ·cases h1
 ·exact h1
theorem EqInv.no_len {p0 p : ILP} {St met : List ILP} (h : EqInv p0 (St ++ [p]) met) (he : eqL hdq p.1 p.2 = false) : p0.1 ≠ p0.2 := fun e => by
 have := h.fst e p (by simp)
 rw [this, eqL_hdq_refl] at he
 cases he
theorem nIt_mem {x : It} : ∀ {l : List It}, x ∈ l → nIt x < nIs l
 | c :: l, h => by
  rcases List.mem_cons.1 h with rfl | h
  ·simp only [nIs]; omega
  ·have := nIt_mem h; simp only [nIs]; omega
theorem dBl_len : ∀ l : List (List It), (dBl l).length = l.length
 | [] => rfl
 | b :: r => by rw [dBl, List.length_cons, dBl_len r, List.length_cons]
theorem dBl_get : ∀ (l : List (List It)) (j : Nat) (h : j < l.length), (dBl l)[j]? = some (dB l[j])
 | b :: r, 0, _ => rfl
 | b :: r, j + 1, h => by
  rw [dBl, List.getElem?_cons_succ, dBl_get r j (by simpa using h)]
  rfl
theorem sl_uniq {w : World} {S : Nat → Prop} {A : Option Addr} {n c c' z : Nat} {l l' : List D} (h : Lies w S (.slice A n c) (.s z l)) (k : Lies w S (.slice A n c') (.s z l')) (h0 : l ≠ []) :
  l.length = l'.length ∧ ∀ (i : Nat) d d', l[i]? = some d → l'[i]? = some d' → ∃ u, Lies w S u d ∧ Lies w S u d' := by
 obtain ⟨b, o, n1, c1, e1, hn1, -, -, hc1⟩ := sl_cell h h0
 simp only [Value.slice.injEq] at e1
 obtain ⟨rfl, rfl, rfl⟩ := e1
 have hlen : l'.length = l.length := by
  obtain ⟨A2, n2, c2, e2, hn2⟩ := k.slc
  simp only [Value.slice.injEq] at e2
  obtain ⟨-, rfl, -⟩ := e2
  omega
 have k0 : l' ≠ [] := by intro e; rw [e] at hlen; exact h0 (List.eq_nil_of_length_eq_zero hlen.symm)
 obtain ⟨b2, o2, n2, c2, e2, hn2, -, -, hc2⟩ := sl_cell k k0
 simp only [Value.slice.injEq, Option.some.injEq, Addr.mk.injEq] at e2
 obtain ⟨⟨rfl, rfl, -⟩, rfl, rfl⟩ := e2
 refine ⟨hlen.symm, fun i d d' hd hd' => ?_⟩
 obtain ⟨u, hu, hl⟩ := hc1 i d hd
 obtain ⟨u2, hu2, hl2⟩ := hc2 i d' hd'
 rw [hu] at hu2
 obtain rfl := Option.some.inj hu2
 exact ⟨u, hl, hl2⟩
theorem dL_uniq {w : World} {S : Nat → Prop} {A : Option Addr} {n c c' : Nat} {l l' : List Bs} (h : Lies w S (.slice A n c) (dL l)) (k : Lies w S (.slice A n c') (dL l')) : l = l' := by
 unfold dL at h k
 rw [fm1] at h k
 have hl0 : ∀ {m : List Bs} {q : Nat}, Lies w S (.slice A n q) (.s 1 (m.map dS)) → n = m.length := fun hm => by
  obtain ⟨A2, n2, c2, e2, hn2⟩ := hm.slc
  simp only [Value.slice.injEq] at e2
  obtain ⟨-, rfl, -⟩ := e2
  simpa using hn2
 have hlen : l.length = l'.length := (hl0 h).symm.trans (hl0 k)
 by_cases h0 : l = []
 ·subst h0; exact (List.eq_nil_of_length_eq_zero (by simpa using hlen.symm)).symm
 ·obtain ⟨-, hu⟩ := sl_uniq h k (by simpa using h0)
  apply List.ext_getElem hlen
  intro i h1 h2
  obtain ⟨u, hd, hd'⟩ := hu i (dS l[i]) (dS l'[i]) (by simp [h1]) (by simp [h2])
  have e1 := hd.cell_eq
  have e2 := hd'.cell_eq
  rw [e1] at e2
  exact ofL_inj (Value.string.inj e2)
theorem items_uniq {w : World} {S : Nat → Prop} : ∀ (N : Nat) (X Y : List It) (A : Option Addr) (n c c' : Nat), nIs X < N → Lies w S (.slice A n c) (dB X) → Lies w S (.slice A n c') (dB Y) → X = Y := by
 intro N
 induction N with
 | zero => intro X Y A n c c' h; omega
 | succ N ih =>
  intro X Y A n c c' hN h k
  have hl0 : ∀ {m : List It} {q : Nat}, Lies w S (.slice A n q) (dB m) → n = m.length := fun {m q} hm => by
   obtain ⟨A2, n2, c2, e2, hn2⟩ := (show Lies w S (.slice A n q) (.s 7 (dIs m)) from hm).slc
   simp only [Value.slice.injEq] at e2
   obtain ⟨-, rfl, -⟩ := e2
   rw [dIs_map, flat_len dIt_len] at hn2
   omega
  have hX := hl0 h
  have hlen : X.length = Y.length := hX.symm.trans (hl0 k)
  by_cases h0 : X = []
  ·subst h0; exact (List.eq_nil_of_length_eq_zero (by simpa using hlen.symm)).symm
  have hp : 0 < X.length := List.length_pos_iff.2 h0
  have n7 : ∀ {m : List It}, 0 < m.length → dIs m ≠ [] := fun hm e => by
   have := congrArg List.length e
   rw [dIs_map, flat_len dIt_len, List.length_nil] at this
   omega
  obtain ⟨b, o, n1, c1, e1, hn1, -, -, hc1⟩ := sl_cell (z := 7) h (n7 hp)
  obtain ⟨b2, o2, n2, c2, e2, hn2, -, -, hc2⟩ := sl_cell (z := 7) k (n7 (by omega))
  simp only [Value.slice.injEq] at e1 e2
  obtain ⟨rfl, rfl, rfl⟩ := e1
  obtain ⟨e2, -, rfl⟩ := e2
  simp only [Option.some.injEq, Addr.mk.injEq] at e2
  obtain ⟨rfl, rfl, -⟩ := e2
  apply List.ext_getElem hlen
  intro i i1 i2
  have hx : X[i]? = some X[i] := List.getElem?_eq_getElem i1
  have hy : Y[i]? = some Y[i] := List.getElem?_eq_getElem i2
  have hmem : X[i] ∈ X := List.getElem_mem i1
  generalize X[i] = x at hx hmem ⊢
  generalize Y[i] = y at hy ⊢
  obtain ⟨k1, fr1, to1, nm1, al1, tk1, bl1⟩ := x
  obtain ⟨k2, fr2, to2, nm2, al2, tk2, bl2⟩ := y
  obtain ⟨At, ct, Ab, cb, u0, u1, u2, u3, u4, u5, u6, hI1, hI2⟩ := it_cells hc1 hx
  obtain ⟨At2, ct2, Ab2, cb2, v0, v1, v2, v3, v4, v5, v6, hJ1, hJ2⟩ := it_cells hc2 hy
  rw [u0] at v0; rw [u1] at v1; rw [u2] at v2; rw [u3] at v3; rw [u4] at v4; rw [u5] at v5; rw [u6] at v6
  simp only [Option.some.injEq, Value.int.injEq, Value.string.injEq, Value.slice.injEq, true_and] at v0 v1 v2 v3 v4 v5 v6
  obtain rfl := v0
  obtain rfl := ofL_inj v1
  obtain ⟨rfl, et, rfl⟩ := v2
  obtain rfl := ofL_inj v3
  obtain rfl := ofL_inj v4
  obtain rfl := v5
  obtain ⟨rfl, eb, rfl⟩ := v6
  rw [et] at hI1
  obtain rfl := dL_uniq hI1 hJ1
  have hb : bl1 = bl2 := by
   by_cases hb0 : bl1 = []
   ·subst hb0; exact (List.eq_nil_of_length_eq_zero (by simpa using eb.symm)).symm
   ·rw [eb] at hI2
    obtain ⟨-, hu⟩ := sl_uniq hI2 hJ2 (by intro e; have := congrArg List.length e; rw [dBl_len] at this; exact hb0 (List.eq_nil_of_length_eq_zero this))
    apply List.ext_getElem eb
    intro j j1 j2
    obtain ⟨u, hd, hd'⟩ := hu j (dB bl1[j]) (dB bl2[j]) (dBl_get _ j j1) (dBl_get _ j j2)
    obtain ⟨A3, n3, c3, rfl, -⟩ := (show Lies w S u (.s 7 (dIs bl1[j])) from hd).slc
    refine ih _ _ A3 n3 c3 c3 ?_ hd hd'
    have m1 := nIs_mem (List.getElem_mem j1)
    have m2 := nIt_mem hmem
    simp only [nIt] at m2
    omega
  rw [hb]
/- A map with keys of three cells: look-ups and new entries. -/
open Go.RowKit

abbrev PK := Addr × Addr × Int
def pkv (k : PK) : Value := pairV (some k.1) (some k.2.1) k.2.2
def PlK (w : World) (k : PK) : Prop := Pl w k.1.block ∧ Pl w k.2.1.block
theorem addr_run {w : World} {a b : Addr} (ha : Pl w a.block) (hb : Pl w b.block) : (sameAddr a b).run Tryz.prog w = .ok (decide (a = b)) w := by
 by_cases h : a = b
 ·subst h; simpa using run_sameAddr_same w a
 ·obtain ⟨c1, t1, h1⟩ := ha
  obtain ⟨c2, t2, h2⟩ := hb
  simpa [h] using run_sameAddr_other (P := Tryz.prog) w h h1 h2
theorem ptr_run (d : Nat) {w : World} {a b : Addr} (ha : Pl w a.block) (hb : Pl w b.block) : (Op.equalIn (d + 1) 189 (.pointer (some a)) (.pointer (some b))).run Tryz.prog w = .ok (decide (a = b)) w := by
 simp [Op.equalIn, run_underlying Tryz.underlying189, addr_run ha hb]
theorem int_run (d : Nat) {w : World} (a b : Int) : (Op.equalIn (d + 1) 3 (.int .i64 a) (.int .i64 b)).run Tryz.prog w = .ok (decide (a = b)) w := by
 simp [Op.equalIn, run_underlying Tryz.underlying3]
 rfl
set_option maxRecDepth 20000 in
theorem pair_run {w : World} {k l : PK} (hk : PlK w k) (hl : PlK w l) : (Op.equal 225 (pkv k) (pkv l)).run Tryz.prog w = .ok (decide (k = l)) w := by
 obtain ⟨a, b, n⟩ := k
 obtain ⟨a', b', n'⟩ := l
 show (Op.equalIn (9998 + 1 + 1) _ _ _).run Tryz.prog w = _
 generalize 9998 = d
 have e1 := ptr_run d hk.1 hl.1
 have e2 := ptr_run d hk.2 hl.2
 have e3 := int_run d (w := w) n n'
 unfold pkv pairV
 rw [Op.equalIn]
 simp only at e1 e2
 by_cases h1 : a = a'
 ·subst h1
  by_cases h2 : b = b'
  ·subst h2
   by_cases h3 : n = n'
   ·simp [run_underlying Tryz.underlying225, Result.andThen, e1, e2, h3, go_sem]
   ·simp [run_underlying Tryz.underlying225, Result.andThen, e1, e2, e3, h3, go_sem]
  ·simp [run_underlying Tryz.underlying225, Result.andThen, e1, e2, h2, go_sem]
 ·simp [run_underlying Tryz.underlying225, Result.andThen, e1, h1, go_sem]
theorem ask_run {w : World} {k : PK} (hk : PlK w k) : ∀ (ks : List PK) (es : List MapEntry) (i : Nat), es.map (fun e => (e.key, e.val)) = ks.map (fun k => (pkv k, Value.bool true)) → (∀ l ∈ ks, PlK w l) →
  ∃ r, (Instr.findAsking 225 (pkv k) es i).run Tryz.prog w = .ok r w ∧ ((k ∈ ks ∧ ∃ j, r = some (j, .bool true)) ∨ (k ∉ ks ∧ r = none))
 | [], [], i, _, _ => ⟨none, by simp [Instr.findAsking], .inr ⟨by simp, rfl⟩⟩
 | l :: ks, e :: es, i, h, hp => by
  simp only [List.map_cons, List.cons.injEq, Prod.mk.injEq] at h
  obtain ⟨⟨h1, h2⟩, h3⟩ := h
  by_cases hkl : k = l
  ·refine ⟨some (i, .bool true), ?_, .inl ⟨by simp [hkl], i, rfl⟩⟩
   subst hkl
   simp [Instr.findAsking, h1, h2, pair_run hk hk]
  ·obtain ⟨r, hr, hc⟩ := ask_run hk ks es (i + 1) h3 fun m hm => hp m (List.mem_cons_of_mem _ hm)
   refine ⟨r, by simp [Instr.findAsking, h1, pair_run hk (hp l (by simp)), hkl, hr], ?_⟩
   rcases hc with ⟨h4, h5⟩ | ⟨h4, h5⟩
   ·exact .inl ⟨List.mem_cons_of_mem _ h4, h5⟩
   ·exact .inr ⟨by simp [hkl, h4], h5⟩
/-- The map in block m: the keys ks, each with true. -/
def MetM (w : World) (m : Nat) (ks : List PK) : Prop := ∃ es c, w.heap[m]? = some (.map es c) ∧ es.toList.map (fun e => (e.key, e.val)) = ks.map (fun k => (pkv k, Value.bool true))
theorem lookup_met {w : World} {m : Nat} {ks : List PK} (h : MetM w m ks) (hp : ∀ l ∈ ks, PlK w l) {a b : Addr} {n : Int} (hk : PlK w (a, b, n)) :
  (Instr.lookup 221 (.map (some m)) (pairV (some a) (some b) n) false).run Tryz.prog w = .ok (.bool (decide ((a, b, n) ∈ ks))) w := by
 obtain ⟨es, c, h1, h2⟩ := h
 obtain ⟨r, hr, hc⟩ := ask_run hk ks es.toList 0 h2 hp
 have hf := (run_findKey_eq (w := w) (P := Tryz.prog) (k := 225) (by simp [Tryz.underlying225]) (pkv (a, b, n)) es.toList).trans hr
 have hck := pair_check es.isEmpty (some a) (some b) n w
 have hf' : (Instr.findKey 225 (pairV (some a) (some b) n) es.toList).run Tryz.prog w = .ok r w := hf
 rcases hc with ⟨h3, j, rfl⟩ | ⟨h3, rfl⟩
 ·simp [Instr.lookup, run_underlying Tryz.underlying221, Result.andThen, getMap h1, hck, hf', h3, go_sem]
 ·simp [Instr.lookup, run_underlying Tryz.underlying221, Result.andThen, getMap h1, hck, hf', h3, go_sem]
theorem update_met {w : World} {m : Nat} {ks : List PK} (h : MetM w m ks) (hp : ∀ l ∈ ks, PlK w l) {a b : Addr} {n : Int} (hk : PlK w (a, b, n)) (hn : (a, b, n) ∉ ks) :
  ∃ o, (Instr.mapUpdate 221 (.map (some m)) (pairV (some a) (some b) n) (.bool true)).run Tryz.prog w = .ok () (w.putObj m o) ∧ MetM (w.putObj m o) m (ks ++ [(a, b, n)]) := by
 obtain ⟨es, c, h1, h2⟩ := h
 obtain ⟨r, hr, hc⟩ := ask_run hk ks es.toList 0 h2 hp
 have hf := (run_findKey_eq (w := w) (P := Tryz.prog) (k := 225) (by simp [Tryz.underlying225]) (pkv (a, b, n)) es.toList).trans hr
 have hck := pair_check false (some a) (some b) n w
 have hf' : (Instr.findKey 225 (pairV (some a) (some b) n) es.toList).run Tryz.prog w = .ok r w := hf
 rcases hc with ⟨h3, j, rfl⟩ | ⟨h3, rfl⟩
 ·exact absurd h3 hn
 ·refine ⟨.map (es.push ⟨pairV (some a) (some b) n, .bool true, c⟩) (c + 1), ?_, ?_⟩
  ·simp [Instr.mapUpdate, run_underlying Tryz.underlying221, Result.andThen, getMap h1, hck, hf', setMap _ h1, go_sem]
  ·refine ⟨es.push ⟨pairV (some a) (some b) n, .bool true, c⟩, c + 1, by unfold World.putObj; simp [(Array.getElem?_eq_some_iff.1 h1).1], ?_⟩
   simp [h2, pkv]
theorem MetM.nil {w : World} {m c : Nat} (h : w.heap[m]? = some (.map #[] c)) : MetM w m [] := ⟨_, _, h, by simp⟩
theorem MetM.keep {w w' : World} {m : Nat} {ks : List PK} (h : MetM w m ks) (hb : w'.heap[m]? = w.heap[m]?) : MetM w' m ks := by
 obtain ⟨es, c, h1, h2⟩ := h
 exact ⟨es, c, hb.trans h1, h2⟩
end Go.Proofs.YtekpefcggikcbaaGreatDoor
