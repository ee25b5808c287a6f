/- Layer 10: the contracts of the reference's Count and Few: they answer, and change nothing. -/
import Derived.Test.YtekpefcggikcbaaGreatDoorMSyOi
import Derived.Test.YtekpefcggikcbaaGreatDoorMSvD
import Derived.Test.YtekpefcggikcbaaGreatDoorSvI
import Derived.Test.YtekpefcggikcbaaGreatDoorMSyTw
namespace Go.Proofs.YtekpefcggikcbaaGreatDoor
/- Layer 10: the contracts of the reference's Count and Few: they answer, and change nothing. -/
open Go.RowKit

def CtRel (w : World) (len : Nat) (gk : Nat) (v3 v4 : Value) (wr : World) : Prop := ∃ (k : Nat) (m : Int), k ≤ len ∧ len ≤ gk + k ∧ v3 = .int .i64 m ∧ v4 = .int .i64 (k : Int) ∧ wr = w
set_option maxRecDepth 20000 in
set_option maxHeartbeats 4000000 in
theorem count_any : ∀ (n : Nat) (l : List It) (w : World) (v : Value) (S : Nat → Prop), nIs l < n → nIs l ≤ 1000000000 → Lir w S v (dB l) → Calls Tryz.prog 50 #[v] w fun e w' => (∃ k : Int, e = .returned (.int .i64 k)) ∧ w = w' := by
 intro n
 induction n with
 | zero => intro l w v S h; omega
 | succ n ih =>
  intro l w v S hn hbig hL
  obtain ⟨A, n1, c, rfl, hn1⟩ := Lir.slc (show Lir w S v (.s 7 (dIs l)) from hL)
  rw [dIs_map, flat_len dIt_len] at hn1
  obtain rfl : n1 = l.length := by omega
  have hll := nIs_len l
  have IH := Lib.hid ih
  have HL := Lib.hid hL
  have hlen : l.length ≤ 1000000000 := by omega
  have HBIG := Lib.hid hbig
  have HSM := Lib.hid hn
  clear ih hL hn1 hbig hll hn
  go_enter Tryz.func50, Tryz.ntmps50
  go_wp2_with fail
  go_loopg [3, 4, 5] l.length (fun gk v3 v4 _ wr => CtRel w l.length gk v3 v4 wr)
  case atStart => exact ⟨0, 0, by omega, by omega, rfl, rfl, rfl⟩
  case round =>
   obtain ⟨k, m, hk, hkg, rfl, rfl, rfl⟩ := hrel
   by_cases hlt : k < l.length
   ·obtain ⟨it, hit⟩ : ∃ x, l[k]? = some x := ⟨_, List.getElem?_eq_getElem hlt⟩
    obtain ⟨kd, fr, to, nm, al, tk, bl⟩ := it
    obtain ⟨bb, o, n2, c2, he, -, hnc, -, -, hcell⟩ := HL.out.cell (l := dIs l) (z := 7) (by
     rw [dIs_map]; intro e0
     have := congrArg List.length e0
     rw [flat_len dIt_len, List.length_nil] at this; omega)
    simp only [Value.slice.injEq] at he
    obtain ⟨rfl, rfl, rfl⟩ := he
    obtain ⟨A1, c1, A2, c2, -, -, -, -, -, -, u6, -, LB⟩ := rit_cells hcell hit
    have hnb : nBl bl + 1 < nIs l := by have := nIt_mem (List.mem_of_getElem? hit); rw [nIt] at this; exact this
    have HNB := Lib.hid hnb
    have hbl : bl.length ≤ 1000000000 := by have := nBl_len bl; have := HBIG.out; omega
    have HLB := Lib.hid LB
    clear hcell hit hnb LB
    go_wp2_with fail
    generalize gk = gO at *
    go_loopg [3, 5] bl.length (fun gk v3 v5 wr2 => CtRel wr bl.length gk v3 v5 wr2)
    case atStart => exact ⟨0, _, by omega, by omega, rfl, rfl, rfl⟩
    case round =>
     obtain ⟨j, m2, hj, hjg, rfl, rfl, rfl⟩ := hrel
     by_cases hjl : j < bl.length
     ·obtain ⟨b, hb⟩ : ∃ x, bl[j]? = some x := ⟨_, List.getElem?_eq_getElem hjl⟩
      obtain ⟨bb2, o2, A3, c3, rfl, hc2, q0, LBB⟩ := rbl_cells HLB.out hb
      have hsb := nIs_mem (List.mem_of_getElem? hb)
      have HC := Lib.hid (IH.out b wr _ _ (by have := HNB.out; have := HSM.out; omega) (by have := HNB.out; have := HBIG.out; omega) LBB)
      clear hb LBB hsb
      go_wp2_with fail
      refine HC.out.mono ?_; rintro e w3 ⟨⟨q, rfl⟩, rfl⟩
      go_wp2_with fail
      go_roundg (gk - 1)
      case rel => exact ⟨j + 1, _, by omega, by omega, rfl, by simp, rfl⟩
      case measure => omega
     ·go_wp2_with fail
      go_roundg (gO - 1)
      case rel => exact ⟨k + 1, _, by omega, by omega, rfl, by simp, rfl⟩
      case measure => omega
   ·go_wp2_with fail
    go_ret
    exact ⟨⟨_, rfl⟩, rfl⟩
theorem pr_len (p : Pr) : (dP p).length = 4 := rfl
theorem ms_len (m : Ms) : (dM m).length = 3 := rfl
/-- The cells of protocols. -/
theorem rpr_cells {w : World} {S : Nat → Prop} {b o : Nat} {l : List Pr} (hc : ∀ (i : Nat) d, (l.flatMap dP)[i]? = some d → ∃ u, w.cell? ⟨b, o + i, none⟩ = some u ∧ Lir w S u d) {i : Nat} {p : Pr} (hi : l[i]? = some p) :
  ∃ A1 c1 A2 c2 A3 c3, w.cell? ⟨b, o + i * 4, none⟩ = some (.string (ofL p.nm)) ∧ w.cell? ⟨b, o + i * 4 + 1, none⟩ = some (.slice A1 p.rs.length c1) ∧ w.cell? ⟨b, o + i * 4 + 2, none⟩ = some (.slice A2 p.ms.length c2) ∧ w.cell? ⟨b, o + i * 4 + 3, none⟩ = some (.slice A3 p.bd.length c3) ∧ Lies w S (.slice A1 p.rs.length c1) (dL p.rs) ∧ Lir w S (.slice A2 p.ms.length c2) (.s 3 (p.ms.flatMap dM)) ∧ Lir w S (.slice A3 p.bd.length c3) (dB p.bd) := by
 have key := fun (j : Nat) (d : D) (hj : (dP p)[j]? = some d) => lir_row pr_len hc hi j d hj
 obtain ⟨u0, h0, g0⟩ := key 0 _ rfl
 obtain ⟨u1, h1, g1⟩ := key 1 _ rfl
 obtain ⟨u2, h2, g2⟩ := key 2 _ rfl
 obtain ⟨u3, h3, g3⟩ := key 3 _ rfl
 have e0 := g0.cell_eq
 subst e0
 obtain ⟨A1, n1, c1, rfl, hn1⟩ := Lir.slc (show Lir w S u1 (.s 1 (p.rs.flatMap fun x => [dS x])) from g1)
 obtain ⟨A2, n2, c2, rfl, hn2⟩ := Lir.slc g2
 obtain ⟨A3, n3, c3, rfl, hn3⟩ := Lir.slc (show Lir w S u3 (.s 7 (dIs p.bd)) from g3)
 rw [fm1, List.length_map] at hn1
 rw [flat_len ms_len] at hn2
 rw [dIs_map, flat_len dIt_len] at hn3
 obtain rfl : n1 = p.rs.length := by omega
 obtain rfl : n2 = p.ms.length := by omega
 obtain rfl : n3 = p.bd.length := by omega
 exact ⟨A1, c1, A2, c2, A3, c3, h0, h1, h2, h3, Lir.strs g1, g2, g3⟩
/-- The cells of messages. -/
theorem rms_cells {w : World} {S : Nat → Prop} {b o : Nat} {l : List Ms} (hc : ∀ (i : Nat) d, (l.flatMap dM)[i]? = some d → ∃ u, w.cell? ⟨b, o + i, none⟩ = some u ∧ Lir w S u d) {i : Nat} {m : Ms} (hi : l[i]? = some m) :
  ∃ A1 c1 A2 c2, w.cell? ⟨b, o + i * 3, none⟩ = some (.string (ofL m.nm)) ∧ w.cell? ⟨b, o + i * 3 + 1, none⟩ = some (.slice A1 m.fs.length c1) ∧ w.cell? ⟨b, o + i * 3 + 2, none⟩ = some (.slice A2 m.wh.length c2) ∧ Lies w S (.slice A1 m.fs.length c1) (.s 4 (m.fs.flatMap dF)) ∧ Lies w S (.slice A2 m.wh.length c2) (.s 9 (m.wh.flatMap dA)) := by
 have key := fun (j : Nat) (d : D) (hj : (dM m)[j]? = some d) => lir_row ms_len hc hi j d hj
 obtain ⟨u0, h0, g0⟩ := key 0 _ rfl
 obtain ⟨u1, h1, g1⟩ := key 1 _ rfl
 obtain ⟨u2, h2, g2⟩ := key 2 _ rfl
 have e0 := g0.cell_eq
 subst e0
 obtain ⟨A1, n1, c1, rfl, hn1⟩ := Lir.slc g1
 obtain ⟨A2, n2, c2, rfl, hn2⟩ := Lir.slc g2
 rw [flat_len dF_len] at hn1
 rw [flat_len dA_len] at hn2
 obtain rfl : n1 = m.fs.length := by omega
 obtain rfl : n2 = m.wh.length := by omega
 exact ⟨A1, c1, A2, c2, h0, h1, h2, Lir.flds g1, Lir.atms g2⟩
/-- No list of the protocols is too long. -/
structure GR (p : Pr) : Prop where
 bn : nIs p.bd ≤ 1000000000
 rl : p.rs.length ≤ 1000000000
 ml : p.ms.length ≤ 1000000000
 fl : ∀ m ∈ p.ms, m.fs.length ≤ 1000000000 ∧ m.wh.length ≤ 1000000000
 td : tdIs p.bd
theorem GR.gq {p : Pr} (h : GR p) : GQ p := ⟨h.rl, h.ml, h.fl, h.td, h.bn⟩
def AnyB (w : World) (e : Ending) (w' : World) : Prop := (∃ b : Bool, e = .returned (.bool b)) ∧ w = w'
def FwRel (w : World) (len : Nat) (gk : Nat) (v3 v4 v5 : Value) (wr : World) : Prop := ∃ (k : Nat) (m m2 : Int), k ≤ len ∧ len ≤ gk + k ∧ v3 = .int .i64 m ∧ v4 = .int .i64 m2 ∧ v5 = .int .i64 (k : Int) ∧ wr = w
set_option maxRecDepth 20000 in
set_option maxHeartbeats 8000000 in
theorem few_any (l : List Pr) (w : World) (v : Value) (S : Nat → Prop) (hG : ∀ p ∈ l, GR p) (hlen : l.length ≤ 1000000000) (hL : Lir w S v (.s 4 (l.flatMap dP))) : Calls Tryz.prog 19 #[v] w (AnyB w) := by
 obtain ⟨A, n1, c, rfl, hn1⟩ := hL.slc
 rw [flat_len pr_len] at hn1
 obtain rfl : n1 = l.length := by omega
 have HG := Lib.hid hG
 have HL := Lib.hid hL
 clear hL hn1 hG
 go_enter Tryz.func19, Tryz.ntmps19
 go_wp2_with fail
 go_loopg [3, 4, 5, 6] l.length (fun gk v3 v4 v5 _ wr => FwRel w l.length gk v3 v4 v5 wr)
 case atStart => exact ⟨0, 0, 0, by omega, by omega, rfl, rfl, rfl, rfl⟩
 case round =>
  obtain ⟨k, m, m2, hk, hkg, rfl, rfl, rfl, rfl⟩ := hrel
  by_cases hlt : k < l.length
  ·obtain ⟨p, hp⟩ : ∃ x, l[k]? = some x := ⟨_, List.getElem?_eq_getElem hlt⟩
   obtain ⟨bb, o, n2, c2, he, -, hnc, -, -, hcell⟩ := HL.out.cell (by
    intro e0
    have := congrArg List.length e0
    rw [flat_len pr_len, List.length_nil] at this; omega)
   simp only [Value.slice.injEq] at he
   obtain ⟨rfl, rfl, rfl⟩ := he
   obtain ⟨A1, c1, A2, c2, A3, c3, -, -, u2, u3, -, LM, LB⟩ := rpr_cells hcell hp
   have g := HG.out p (List.mem_of_getElem? hp)
   have HC := Lib.hid (count_any (nIs p.bd + 1) p.bd wr _ _ (by omega) g.bn LB)
   have hml := g.ml
   have HGG := Lib.hid g
   have HLM := Lib.hid LM
   clear hcell hp LM LB g
   go_wp2_with fail
   refine HC.out.mono ?_; rintro e w3 ⟨⟨q, rfl⟩, rfl⟩
   go_wp2_with fail
   generalize gk = gO at *
   go_loopg [6] p.ms.length (fun gk v6 wr2 => ∃ j : Nat, j ≤ p.ms.length ∧ p.ms.length ≤ gk + j ∧ v6 = .int .i64 (j : Int) ∧ wr2 = wr)
   case atStart => exact ⟨0, by omega, by omega, rfl, rfl⟩
   case round =>
    obtain ⟨j, hj, hjg, rfl, rfl⟩ := hrel
    by_cases hjl : j < p.ms.length
    ·obtain ⟨ms, hms⟩ : ∃ x, p.ms[j]? = some x := ⟨_, List.getElem?_eq_getElem hjl⟩
     obtain ⟨bb2, o2, n3, c4, he, -, hnc2, -, -, hcell⟩ := HLM.out.cell (by
      intro e0
      have := congrArg List.length e0
      rw [flat_len ms_len, List.length_nil] at this; omega)
     simp only [Value.slice.injEq] at he
     obtain ⟨rfl, rfl, rfl⟩ := he
     obtain ⟨A4, c5, A5, c6, -, q1, q2, -, -⟩ := rms_cells hcell hms
     obtain ⟨g1, g2⟩ := HGG.out.fl ms (List.mem_of_getElem? hms)
     clear hcell hms
     cases h8 : decide ((8 : Int) < (ms.fs.length : Int)) with
     | true =>
      have h8' : (8 : Int) < (ms.fs.length : Int) := of_decide_eq_true h8
      clear h8
      go_wp2_with fail
      go_ret
      exact ⟨⟨_, rfl⟩, rfl⟩
     | false =>
      have h8' : ¬ (8 : Int) < (ms.fs.length : Int) := of_decide_eq_false h8
      clear h8
      cases h10 : decide ((10 : Int) < (ms.wh.length : Int)) with
      | true =>
       have h10' : (10 : Int) < (ms.wh.length : Int) := of_decide_eq_true h10
       clear h10
       go_wp2_with fail
       go_ret
       exact ⟨⟨_, rfl⟩, rfl⟩
      | false =>
       have h10' : ¬ (10 : Int) < (ms.wh.length : Int) := of_decide_eq_false h10
       clear h10
       go_wp2_with fail
       go_roundg (gk - 1)
       case rel => exact ⟨j + 1, by omega, by omega, by simp, rfl⟩
       case measure => omega
    ·go_wp2_with fail
     go_roundg (gO - 1)
     case rel => exact ⟨k + 1, _, _, by omega, by omega, rfl, rfl, by simp, rfl⟩
     case measure => omega
  ·go_wp2_with fail
   all_goals
    go_ret
    exact ⟨⟨_, rfl⟩, rfl⟩
/- Layer 10: the contracts of the reference's sameStrings, word and IsPath. -/
open Go.RowKit

section
variable {w w' : World} {S T : Nat → Prop}
set_option maxHeartbeats 4000000 in
theorem sameStrs_any (l m : List Bs) (v u : Value) (L : Lies w S v (dL l)) (M : Lies w T u (dL m)) (hn : l.length = m.length → l.length ≤ 1000000000) :
  Calls Tryz.prog 43 #[v, u] w (Tells w (.bool (decide (l = m)))) := by
 obtain ⟨A, n, c, rfl, hm⟩ := L.slc
 obtain rfl : n = l.length := by have : n * 1 = (l.flatMap (fun x => [dS x])).length := hm; rw [flat_len dS1_len] at this; omega
 obtain ⟨A2, n, c2, rfl, hm2⟩ := M.slc
 obtain rfl : n = m.length := by have : n * 1 = (m.flatMap (fun x => [dS x])).length := hm2; rw [flat_len dS1_len] at this; omega
 have LL := Lib.hid L
 have MM := Lib.hid M
 clear L M hm hm2
 by_cases hlen : l.length = m.length
 ·have hn := hn hlen
  rw [← hlen]
  have HLN := Lib.hid hlen
  clear hlen
  go_enter Tryz.func43, Tryz.ntmps43
  go_wp2_with fail
  go_loopg [5] l.length (fun gk vi wr => EqRel w l m gk vi wr)
  case atStart => exact ⟨0, rfl, by omega, by omega, by simp, Below.refl _ _⟩
  case round =>
   obtain ⟨i, rfl, hil, hgk, hq, HR⟩ := hrel
   by_cases hie : i = l.length
   ·have hc : ¬ ((i : Int) < (l.length : Int)) := by omega
    have HF := Lib.hid (show decide (l = m) = true by
     rw [decide_eq_true_eq]
     have := hq
     rw [hie, List.take_length, HLN.out, List.take_length] at this
     exact this)
    clear hie
    go_wp2_with fail
    go_ret
    exact ⟨by rw [HF.out]; rfl, HR.out⟩
   ·have hc : (i : Int) < (l.length : Int) := by omega
    have hlt : i < l.length := by omega
    obtain ⟨x, hx⟩ : ∃ x, l[i]? = some x := ⟨l[i], List.getElem?_eq_getElem hlt⟩
    obtain ⟨y, hy⟩ : ∃ y, m[i]? = some y := ⟨m[i]'(by rw [← HLN.out]; exact hlt), List.getElem?_eq_getElem (by rw [← HLN.out]; exact hlt)⟩
    have LW := Lib.hid (LL.out.belowT HR.out)
    have MW := Lib.hid (MM.out.belowT HR.out)
    obtain ⟨bb, o, n', c', he, hn', -, hbl, hcell⟩ := sl_cell (z := 1) LW.out (by intro e0; have := congrArg List.length e0; rw [flat_len dS1_len, List.length_nil] at this; omega)
    obtain ⟨bb2, o2, n2', c2', he2, hn2', -, hbl2, hcell2⟩ := sl_cell (z := 1) MW.out (by intro e0; have := congrArg List.length e0; rw [flat_len dS1_len, List.length_nil] at this; have := HLN.out; omega)
    simp only [Value.slice.injEq] at he he2
    obtain ⟨rfl, -, rfl⟩ := he
    obtain ⟨rfl, -, rfl⟩ := he2
    have u0 := str_cells hcell hx
    have u1 := str_cells hcell2 hy
    obtain ⟨s1, hs1⟩ : ∃ s, ofL x = s := ⟨_, rfl⟩
    obtain ⟨s2, hs2⟩ : ∃ s, ofL y = s := ⟨_, rfl⟩
    rw [hs1] at u0
    rw [hs2] at u1
    have HQ := Lib.hid hq
    have HX := Lib.hid hx
    have HY := Lib.hid hy
    clear hcell hcell2 hbl hbl2 hie hq hx hy
    by_cases hxy : x = y
    ·have e1 : s1 = s2 := by rw [← hs1, ← hs2, hxy]
     subst e1
     have HF := Lib.hid (show l.take (i + 1) = m.take (i + 1) by rw [List.take_add_one, List.take_add_one, HQ.out, HX.out, HY.out, hxy])
     clear hxy hs1 hs2
     go_wp2_with fail
     go_region
     go_wp2_with fail
     all_goals
      go_roundg (gk - 1)
      case rel => exact ⟨i + 1, by simp, by omega, by omega, HF.out, HR.out.drew⟩
      case measure => omega
    ·have e1 : (s1.toList == s2.toList) = false := by
      rw [← hs1, ← hs2, ofL_toList, ofL_toList, beq_eq_false_iff_ne]; exact hxy
     have HF := Lib.hid (show decide (l = m) = false by
      rw [decide_eq_false_iff_not]
      intro e
      have h1 := HX.out
      have h2 := HY.out
      rw [e, h2] at h1
      exact hxy (Option.some.inj h1).symm)
     clear hxy hs1 hs2
     go_wp2_with fail
     go_region
     go_wp2_with fail
     all_goals
      go_ret
      exact ⟨by rw [HF.out]; rfl, HR.out.drew⟩
 ·have HF := Lib.hid (show decide (l = m) = false by rw [decide_eq_false_iff_not]; intro e; exact hlen (by rw [e]))
  have e1 : ((l.length : Int) == (m.length : Int)) = false := by rw [beq_eq_false_iff_ne]; omega
  clear hlen hn
  go_enter Tryz.func43, Tryz.ntmps43
  go_wp2_with fail
  go_ret
  exact ⟨by rw [HF.out]; rfl, Below.refl _ _⟩
theorem rword_any (l : Bs) (w : World) (hl : l.length ≤ 1000) : Calls Tryz.prog 53 #[.string (ofL l)] w (Tells w (.bool (wdB l))) := by
 have H := Lib.hid (risWord_any l w hl)
 clear hl
 go_enter Tryz.func53, Tryz.ntmps53
 go_wp2_with fail
 refine H.out.mono ?_; rintro e w3 ⟨rfl, hb3⟩
 have B3 := Lib.hid hb3
 clear hb3
 go_wp2_with fail
 go_ret
 exact ⟨rfl, B3.out⟩
def IpRel (w : World) (l : Bs) (gk : Nat) (v3 v4 : Value) (wr : World) : Prop :=
 ∃ i f : Nat, v3 = .int .i64 (f : Int) ∧ v4 = .int .i64 (i : Int) ∧ l.length + 1 ≤ gk + i ∧ f ≤ l.length + 1 ∧ Hid (Below w.heap.size w wr) ∧ ((f ≤ i ∧ i ≤ l.length ∧ Hid (46 ∉ (l.drop f).take (i - f)) ∧ Hid ((splB l).all wdB = (splB (l.drop f)).all wdB)) ∨ (i = l.length + 1 ∧ Hid ((splB l).all wdB = true)))
set_option maxRecDepth 20000 in
set_option maxHeartbeats 4000000 in
theorem risPath_any (l : Bs) (w : World) (hl : l.length ≤ 1000) : Calls Tryz.prog 26 #[.string (ofL l)] w (Tells w (.bool (paB l))) := by
 obtain ⟨s, hs⟩ : ∃ s, s = ofL l := ⟨_, rfl⟩
 have hsz : s.size = l.length := by rw [hs, ofL_size]
 rw [← hs]
 have HS := Lib.hid hs
 have HZ := Lib.hid hsz
 have hs10 : s.size ≤ 1000 := by omega
 clear hs hsz
 go_enter Tryz.func26, Tryz.ntmps26
 go_wp2_with fail
 go_loopg [3, 4] (l.length + 1) (fun gk v3 v4 wr => IpRel w l gk v3 v4 wr)
 case atStart => exact ⟨0, 0, rfl, rfl, by omega, by omega, Below.refl _ _, .inl ⟨by omega, by omega, by unfold Hid; simp, by unfold Hid; simp⟩⟩
 case round =>
  obtain ⟨i, f, rfl, rfl, hgk, hfl, HB, ⟨hfi, hil, HNO, HAL⟩ | ⟨rfl, HT⟩⟩ := hrel
  ·have hsz := HZ.out
   have HB2 := HB.out.size
   by_cases hie : i = l.length
   ·subst hie
    have hd : (l.drop f).take (l.length - f) = l.drop f := List.take_of_length_le (by rw [List.length_drop]; omega)
    have hsp : splB (l.drop f) = [l.drop f] := splB_no _ (by have := HNO.out; rwa [hd] at this)
    obtain ⟨t, ht⟩ : ∃ t, t = l.drop f := ⟨_, rfl⟩
    have HX := Lib.hid (show s.extract f l.length = ofL t by rw [HS.out, ofL_extract, hd, ht])
    have htl : t.length ≤ 1000 := by rw [ht, List.length_drop]; omega
    have HW := Lib.hid (rword_any t wr htl)
    have HAL2 := Lib.hid (show (splB l).all wdB = wdB t by rw [HAL.out, hsp, ← ht]; simp)
    have e0 : ((l.length : Int) == (s.size : Int)) = true := by rw [hsz]; simp
    have hle : (l.length : Int) ≤ (s.size : Int) := by rw [hsz]; omega
    have hfs : f ≤ s.size := by omega
    clear hd hsp ht
    rw [← hsz] at e0 hle hgk hfl
    go_wp2_with fail
    rw [HX.out]
    refine HW.out.mono ?_; rintro e w3 ⟨rfl, hb3⟩
    have B3 := Lib.hid (HB.out.trans (hb3.mono HB2))
    clear hb3
    cases hw : wdB t with
    | false =>
     have HR := Lib.hid (show paB l = false by unfold paB; rw [HAL2.out, hw, Bool.and_false])
     clear hw
     go_wp2_with fail
     go_ret
     exact ⟨by rw [HR.out]; rfl, B3.out⟩
    | true =>
     have HR := Lib.hid (show (splB l).all wdB = true by rw [HAL2.out, hw])
     clear hw
     go_wp2_with fail
     go_roundg (gk - 1)
     case rel => exact ⟨l.length + 1, l.length + 1, by simp, by simp, by omega, by omega, B3.out, .inr ⟨rfl, HR.out⟩⟩
     case measure => omega
   ·have hlt : i < l.length := by omega
    have e0 : ((i : Int) == (s.size : Int)) = false := by rw [beq_eq_false_iff_ne]; omega
    have hle : (i : Int) ≤ (s.size : Int) := by omega
    have his : i < s.size := by omega
    obtain ⟨c, hc⟩ : ∃ c, l[i]? = some c := ⟨_, List.getElem?_eq_getElem hlt⟩
    have hcc : (s[i]'his).toNat = c.toNat := by
     have e : s[i]'his = c := by
      have := HS.out
      subst this
      rw [ofL_get]
      exact (List.getElem?_eq_some_iff.1 hc).2
     rw [e]
    by_cases h46 : c = 46
    ·subst h46
     have hc46 : (s[i]'his).toNat = 46 := hcc
     have hdi : (l.drop f)[i - f]? = some 46 := by rw [List.getElem?_drop, show f + (i - f) = i by omega]; exact hc
     obtain ⟨t, ht⟩ : ∃ t, t = (l.drop f).take (i - f) := ⟨_, rfl⟩
     have HX := Lib.hid (show s.extract f i = ofL t by rw [HS.out, ofL_extract, ht])
     have htl : t.length ≤ 1000 := by rw [ht, List.length_take, List.length_drop]; omega
     have HW := Lib.hid (rword_any t wr htl)
     have HAL2 := Lib.hid (show (splB l).all wdB = (wdB t && (splB (l.drop (i + 1))).all wdB) by
      rw [HAL.out, splB_cut _ _ HNO.out hdi, ← ht, List.drop_drop, show f + (i - f + 1) = i + 1 by omega]; simp)
     clear hc hcc hdi ht
     go_wp2_with fail
     rw [HX.out]
     refine HW.out.mono ?_; rintro e w3 ⟨rfl, hb3⟩
     have B3 := Lib.hid (HB.out.trans (hb3.mono HB2))
     clear hb3
     cases hw : wdB t with
     | false =>
      have HR := Lib.hid (show paB l = false by unfold paB; rw [HAL2.out, hw, Bool.false_and, Bool.and_false])
      clear hw
      go_wp2_with fail
      go_ret
      exact ⟨by rw [HR.out]; rfl, B3.out⟩
     | true =>
      have HR := Lib.hid (show (splB l).all wdB = (splB (l.drop (i + 1))).all wdB by rw [HAL2.out, hw, Bool.true_and])
      clear hw
      go_wp2_with fail
      go_roundg (gk - 1)
      case rel => exact ⟨i + 1, i + 1, by simp, by simp, by omega, by omega, B3.out, .inl ⟨by omega, by omega, by unfold Hid; simp, HR.out⟩⟩
      case measure => omega
    ·have hne : ¬ (s[i]'his).toNat = 46 := by
      rw [hcc]
      intro e
      exact h46 (UInt8.toNat_inj.1 e)
     have HNO2 := Lib.hid (show 46 ∉ (l.drop f).take (i + 1 - f) by
      rw [show i + 1 - f = i - f + 1 by omega, List.take_add_one, List.getElem?_drop, show f + (i - f) = i by omega, hc]
      intro h
      rcases List.mem_append.1 h with h | h
      ·exact HNO.out h
      ·simp at h; exact h46 h.symm)
     have hne2 : (((s[i]'his).toNat : Int) == 46) = false := by rw [beq_eq_false_iff_ne]; omega
     clear hc hcc h46
     go_wp2_with fail
     go_roundg (gk - 1)
     case rel => exact ⟨i + 1, f, by simp, by simp, by omega, by omega, HB.out, .inl ⟨by omega, by omega, HNO2.out, HAL.out⟩⟩
     case measure => omega
  ·have hle : ¬ ((l.length + 1 : Nat) : Int) ≤ (s.size : Int) := by have := HZ.out; omega
   have hsz := HZ.out
   have HR := Lib.hid (show paB l = decide (l.length ≤ 50) by unfold paB; rw [HT.out, Bool.and_true])
   have HD := Lib.hid (show decide ((s.size : Int) ≤ 50) = decide (l.length ≤ 50) by rw [decide_eq_decide]; omega)
   clear hsz
   go_wp2_with fail
   all_goals
    go_ret
    exact ⟨by rw [HR.out, ← HD.out]; rfl, HB.out⟩
end
end Go.Proofs.YtekpefcggikcbaaGreatDoor
