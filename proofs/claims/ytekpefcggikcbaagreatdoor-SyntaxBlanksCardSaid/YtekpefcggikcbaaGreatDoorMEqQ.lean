/- Layer 10: the contracts of sameProtocol and Equal, at any protocols. -/
import Derived.Test.YtekpefcggikcbaaGreatDoorEqA
import Derived.Test.YtekpefcggikcbaaGreatDoorMEqG
import Derived.Test.YtekpefcggikcbaaGreatDoorMSvV
import Derived.Test.YtekpefcggikcbaaGreatDoorMSyRl
import Derived.Test.YtekpefcggikcbaaGreatDoorMSynPr
import Derived.Test.YtekpefcggikcbaaGreatDoorCards
import Derived.Test.YtekpefcggikcbaaGreatDoorTie
import Derived.Lib.LaidTab
import Derived.LaidMore
import Derived.Lay
import Derived.Stop.Joined
import Derived.SevenTiedAt
import Derived.ProofKit
import Derived.OpenShut
namespace Go.Proofs.YtekpefcggikcbaaGreatDoor
/- Layer 10: the contracts of sameProtocol and Equal, at any protocols. -/
open Go.RowKit

/-- Whether the items are the same. -/
noncomputable def eqIs (X Y : List It) : Bool := @decide (X = Y) (Classical.propDecidable _)
theorem eqIs_iff {X Y : List It} : eqIs X Y = true ↔ X = Y := by unfold eqIs; exact @decide_eq_true_iff _ (Classical.propDecidable _)
noncomputable def prw (x y : Pr) : Bool := decide (x.nm = y.nm) && (decide (x.rs = y.rs) && (eqL msq x.ms y.ms && eqIs x.bd y.bd))
/-- No list of the protocol is too long. -/
structure GQ (p : Pr) : Prop where
 rs : p.rs.length ≤ 1000000000
 ml : p.ms.length ≤ 1000000000
 ms : ∀ m ∈ p.ms, GM m
 td : tdIs p.bd
 sz : nIs p.bd ≤ 1000000000
theorem msq_iff {x y : Ms} : msq x y = true ↔ x = y := by
 obtain ⟨a, b, c⟩ := x
 obtain ⟨d, e, f⟩ := y
 simp [msq]
theorem eqL_iff {α : Type} {q : α → α → Bool} (hq : ∀ x y, q x y = true ↔ x = y) : ∀ {l m : List α}, eqL q l m = true ↔ l = m
 | [], [] => by simp [eqL]
 | [], _ :: _ => by simp [eqL]
 | _ :: _, [] => by simp [eqL]
 | a :: l, b :: m => by simp [eqL, hq, eqL_iff hq]
theorem prw_iff {x y : Pr} : prw x y = true ↔ x = y := by
 obtain ⟨a, b, c, d⟩ := x
 obtain ⟨e, f, g, h⟩ := y
 simp [prw, eqL_iff (fun _ _ => msq_iff), eqIs_iff]
section
variable {w w' : World} {S T : Nat → Prop}
theorem sameItems_dec (X Y : List It) (v u : Value) (L : Lies w S v (dB X)) (M : Lies w S u (dB Y)) (tX : tdIs X) (tY : tdIs Y) (hn : nIs X ≤ 1000000000) :
  Calls Tryz.prog 104 #[v, u] w (Tells w (.bool (eqIs X Y))) := by
 refine (sameItems_any X Y v u L M tX tY hn).mono ?_
 rintro e w3 ⟨b, hb, h⟩
 have : eqIs X Y = b := by rw [Bool.eq_iff_iff, eqIs_iff]; exact hb.symm
 rw [this]
 exact h
set_option maxHeartbeats 8000000 in
theorem sameProtocol_w : IsQ2 59 prw (fun w x v => RPr S w x v ∧ GQ x) := by
 refine ⟨ent_sameProtocol, ?_⟩
 rintro w ⟨nm1, rs1, ms1, bd1⟩ v ⟨nm2, rs2, ms2, bd2⟩ u ⟨⟨v1, v3, v5, rfl, L1, L3, L5⟩, g1⟩ ⟨⟨v2, v4, v6, rfl, L2, L4, L6⟩, g2⟩
 have HG1 := Lib.hid g1
 have HG2 := Lib.hid g2
 clear g1 g2
 obtain ⟨A1, n1, c1, rfl, -⟩ := Lies.slc (show Lies w S v1 (.s 1 (rs1.flatMap fun x => [dS x])) from L1)
 obtain ⟨A2, n2, c2, rfl, -⟩ := Lies.slc (show Lies w S v2 (.s 1 (rs2.flatMap fun x => [dS x])) from L2)
 obtain ⟨A3, n3, c3, rfl, -⟩ := Lies.slc (show Lies w S v3 (.s 3 (ms1.flatMap dM)) from L3)
 obtain ⟨A4, n4, c4, rfl, -⟩ := Lies.slc (show Lies w S v4 (.s 3 (ms2.flatMap dM)) from L4)
 obtain ⟨A5, n5, c5, rfl, -⟩ := Lies.slc (show Lies w S v5 (.s 7 (dIs bd1)) from L5)
 obtain ⟨A6, n6, c6, rfl, -⟩ := Lies.slc (show Lies w S v6 (.s 7 (dIs bd2)) from L6)
 replace L1 : Lies w S (.slice A1 n1 c1) (dL rs1) := L1
 replace L2 : Lies w S (.slice A2 n2 c2) (dL rs2) := L2
 replace L3 : Lies w S (.slice A3 n3 c3) (.s 3 (ms1.flatMap dM)) := L3
 replace L4 : Lies w S (.slice A4 n4 c4) (.s 3 (ms2.flatMap dM)) := L4
 replace L5 : Lies w S (.slice A5 n5 c5) (dB bd1) := L5
 replace L6 : Lies w S (.slice A6 n6 c6) (dB bd2) := L6
 obtain ⟨W0, hW0⟩ : ∃ W, (w.alloc (.cells #[.string (ofL nm1), .slice A1 n1 c1, .slice A3 n3 c3, .slice A5 n5 c5] 59)).alloc (.cells #[.string (ofL nm2), .slice A2 n2 c2, .slice A4 n4 c4, .slice A6 n6 c6] 59) = W := ⟨_, rfl⟩
 have B1 := Lib.hid (show Below w.heap.size w W0 by rw [← hW0]; exact ((Below.refl _ w).alloc (Nat.le_refl _) _).alloc (by simp) _)
 have X1 := Lib.hid (show Bx W0 w.heap.size 59 #[.string (ofL nm1), .slice A1 n1 c1, .slice A3 n3 c3, .slice A5 n5 c5] by rw [← hW0]; exact (Bx.new w _ _).alloc _)
 have X2 := Lib.hid (show Bx W0 (w.heap.size + 1) 59 #[.string (ofL nm2), .slice A2 n2 c2, .slice A4 n4 c4, .slice A6 n6 c6] by rw [← hW0]; exact Bx.new2 (size_alloc _ _))
 have HW0 := Lib.hid hW0
 clear hW0
 obtain ⟨p0, p1, p2, p3⟩ := X1.out.k4
 obtain ⟨q0, q1, q2, q3⟩ := X2.out.k4
 have N0 := Lib.hid (L1.belowT B1.out)
 have N1 := Lib.hid (L2.belowT B1.out)
 have N2 := Lib.hid (L3.belowT B1.out)
 have N3 := Lib.hid (L4.belowT B1.out)
 have N4 := Lib.hid (L5.belowT B1.out)
 have N5 := Lib.hid (L6.belowT B1.out)
 clear L1 L2 L3 L4 L5 L6
 have hs1 : (ofL nm1).toList = nm1 := ofL_toList nm1
 have hs2 : (ofL nm2).toList = nm2 := ofL_toList nm2
 by_cases g0 : nm1 = nm2
 rotate_left
 ·have H := Lib.hid (show false = prw ⟨nm1, rs1, ms1, bd1⟩ ⟨nm2, rs2, ms2, bd2⟩ by simp [prw, g0])
  have e0 : (nm1 == nm2) = false := by rw [beq_eq_false_iff_ne]; exact g0
  clear g0
  go_enter Tryz.func59, Tryz.ntmps59
  go_wp2_with fail
  go_ret
  exact ⟨by rw [H.out]; rfl, by rw [HW0.out]; exact B1.out⟩
 have e0 : (nm1 == nm2) = true := by rw [beq_iff_eq]; exact g0
 cases hc0 : decide (rs1 = rs2) with
 | false =>
  have H := Lib.hid (show false = prw ⟨nm1, rs1, ms1, bd1⟩ ⟨nm2, rs2, ms2, bd2⟩ by simp [prw, hc0])
  have HC0 := Lib.hid hc0
  clear g0 hc0
  go_enter Tryz.func59, Tryz.ntmps59
  go_wp2_with fail
  try rw [HW0.out]
  refine (strsEq_any rs1 rs2 _ _ N0.out N1.out (fun _ => HG1.out.rs)).mono ?_; rintro e w10 ⟨rfl, hb10⟩; rw [HC0.out]
  have B10 := Lib.hid (B1.out.trans (hb10.mono B1.out.size))
  have G10 := Lib.hid hb10
  have Y1 := X1.out.below G10.out
  have Y2 := X2.out.below G10.out
  obtain ⟨r0_0, r0_1, r0_2, r0_3⟩ := Y1.k4
  obtain ⟨t0_0, t0_1, t0_2, t0_3⟩ := Y2.k4
  clear Y1 Y2 hb10
  go_wp2_with fail
  go_ret
  exact ⟨by rw [H.out]; rfl, B10.out⟩
 | true =>
  cases hc1 : eqL msq ms1 ms2 with
  | false =>
   have H := Lib.hid (show false = prw ⟨nm1, rs1, ms1, bd1⟩ ⟨nm2, rs2, ms2, bd2⟩ by simp [prw, hc1])
   have HC0 := Lib.hid hc0
   have HC1 := Lib.hid hc1
   clear g0 hc0 hc1
   go_enter Tryz.func59, Tryz.ntmps59
   go_wp2_with fail
   try rw [HW0.out]
   refine (strsEq_any rs1 rs2 _ _ N0.out N1.out (fun _ => HG1.out.rs)).mono ?_; rintro e w10 ⟨rfl, hb10⟩; rw [HC0.out]
   have B10 := Lib.hid (B1.out.trans (hb10.mono B1.out.size))
   have G10 := Lib.hid hb10
   have Y1 := X1.out.below G10.out
   have Y2 := X2.out.below G10.out
   obtain ⟨r0_0, r0_1, r0_2, r0_3⟩ := Y1.k4
   obtain ⟨t0_0, t0_1, t0_2, t0_3⟩ := Y2.k4
   clear Y1 Y2 hb10
   go_wp2_with fail
   refine (eqfM_any 103 msq GM sameMessage_q ms1 ms2 HG1.out.ms HG2.out.ms _ _ (N2.out.belowT G10.out) (N3.out.belowT G10.out) (fun _ => HG1.out.ml)).mono ?_; rintro e w11 ⟨rfl, hb11⟩; rw [HC1.out]
   have B11 := Lib.hid (B10.out.trans (hb11.mono B10.out.size))
   have G11 := Lib.hid (G10.out.trans (hb11.mono G10.out.size))
   have Y1 := X1.out.below G11.out
   have Y2 := X2.out.below G11.out
   obtain ⟨r1_0, r1_1, r1_2, r1_3⟩ := Y1.k4
   obtain ⟨t1_0, t1_1, t1_2, t1_3⟩ := Y2.k4
   clear Y1 Y2 hb11
   go_wp2_with fail
   go_ret
   exact ⟨by rw [H.out]; rfl, B11.out⟩
  | true =>
   cases hc2 : eqIs bd1 bd2 with
   | false =>
    have H := Lib.hid (show false = prw ⟨nm1, rs1, ms1, bd1⟩ ⟨nm2, rs2, ms2, bd2⟩ by simp [prw, hc2])
    have HC0 := Lib.hid hc0
    have HC1 := Lib.hid hc1
    have HC2 := Lib.hid hc2
    clear g0 hc0 hc1 hc2
    go_enter Tryz.func59, Tryz.ntmps59
    go_wp2_with fail
    try rw [HW0.out]
    refine (strsEq_any rs1 rs2 _ _ N0.out N1.out (fun _ => HG1.out.rs)).mono ?_; rintro e w10 ⟨rfl, hb10⟩; rw [HC0.out]
    have B10 := Lib.hid (B1.out.trans (hb10.mono B1.out.size))
    have G10 := Lib.hid hb10
    have Y1 := X1.out.below G10.out
    have Y2 := X2.out.below G10.out
    obtain ⟨r0_0, r0_1, r0_2, r0_3⟩ := Y1.k4
    obtain ⟨t0_0, t0_1, t0_2, t0_3⟩ := Y2.k4
    clear Y1 Y2 hb10
    go_wp2_with fail
    refine (eqfM_any 103 msq GM sameMessage_q ms1 ms2 HG1.out.ms HG2.out.ms _ _ (N2.out.belowT G10.out) (N3.out.belowT G10.out) (fun _ => HG1.out.ml)).mono ?_; rintro e w11 ⟨rfl, hb11⟩; rw [HC1.out]
    have B11 := Lib.hid (B10.out.trans (hb11.mono B10.out.size))
    have G11 := Lib.hid (G10.out.trans (hb11.mono G10.out.size))
    have Y1 := X1.out.below G11.out
    have Y2 := X2.out.below G11.out
    obtain ⟨r1_0, r1_1, r1_2, r1_3⟩ := Y1.k4
    obtain ⟨t1_0, t1_1, t1_2, t1_3⟩ := Y2.k4
    clear Y1 Y2 hb11
    go_wp2_with fail
    refine (sameItems_dec bd1 bd2 _ _ (N4.out.belowT G11.out) (N5.out.belowT G11.out) HG1.out.td HG2.out.td HG1.out.sz).mono ?_; rintro e w12 ⟨rfl, hb12⟩; rw [HC2.out]
    have B12 := Lib.hid (B11.out.trans (hb12.mono B11.out.size))
    have G12 := Lib.hid (G11.out.trans (hb12.mono G11.out.size))
    have Y1 := X1.out.below G12.out
    have Y2 := X2.out.below G12.out
    obtain ⟨r2_0, r2_1, r2_2, r2_3⟩ := Y1.k4
    obtain ⟨t2_0, t2_1, t2_2, t2_3⟩ := Y2.k4
    clear Y1 Y2 hb12
    go_wp2_with fail
    go_ret
    exact ⟨by rw [H.out]; rfl, B12.out⟩
   | true =>
    have H := Lib.hid (show true = prw ⟨nm1, rs1, ms1, bd1⟩ ⟨nm2, rs2, ms2, bd2⟩ by simp [prw, g0, hc0, hc1, hc2])
    have HC0 := Lib.hid hc0
    have HC1 := Lib.hid hc1
    have HC2 := Lib.hid hc2
    clear g0 hc0 hc1 hc2
    go_enter Tryz.func59, Tryz.ntmps59
    go_wp2_with fail
    try rw [HW0.out]
    refine (strsEq_any rs1 rs2 _ _ N0.out N1.out (fun _ => HG1.out.rs)).mono ?_; rintro e w10 ⟨rfl, hb10⟩; rw [HC0.out]
    have B10 := Lib.hid (B1.out.trans (hb10.mono B1.out.size))
    have G10 := Lib.hid hb10
    have Y1 := X1.out.below G10.out
    have Y2 := X2.out.below G10.out
    obtain ⟨r0_0, r0_1, r0_2, r0_3⟩ := Y1.k4
    obtain ⟨t0_0, t0_1, t0_2, t0_3⟩ := Y2.k4
    clear Y1 Y2 hb10
    go_wp2_with fail
    refine (eqfM_any 103 msq GM sameMessage_q ms1 ms2 HG1.out.ms HG2.out.ms _ _ (N2.out.belowT G10.out) (N3.out.belowT G10.out) (fun _ => HG1.out.ml)).mono ?_; rintro e w11 ⟨rfl, hb11⟩; rw [HC1.out]
    have B11 := Lib.hid (B10.out.trans (hb11.mono B10.out.size))
    have G11 := Lib.hid (G10.out.trans (hb11.mono G10.out.size))
    have Y1 := X1.out.below G11.out
    have Y2 := X2.out.below G11.out
    obtain ⟨r1_0, r1_1, r1_2, r1_3⟩ := Y1.k4
    obtain ⟨t1_0, t1_1, t1_2, t1_3⟩ := Y2.k4
    clear Y1 Y2 hb11
    go_wp2_with fail
    refine (sameItems_dec bd1 bd2 _ _ (N4.out.belowT G11.out) (N5.out.belowT G11.out) HG1.out.td HG2.out.td HG1.out.sz).mono ?_; rintro e w12 ⟨rfl, hb12⟩; rw [HC2.out]
    have B12 := Lib.hid (B11.out.trans (hb12.mono B11.out.size))
    have G12 := Lib.hid (G11.out.trans (hb12.mono G11.out.size))
    have Y1 := X1.out.below G12.out
    have Y2 := X2.out.below G12.out
    obtain ⟨r2_0, r2_1, r2_2, r2_3⟩ := Y1.k4
    obtain ⟨t2_0, t2_1, t2_2, t2_3⟩ := Y2.k4
    clear Y1 Y2 hb12
    go_wp2_with fail
    go_ret
    exact ⟨by rw [H.out]; rfl, B12.out⟩
set_option maxHeartbeats 4000000 in
theorem equal_any (l m : List Pr) (v u : Value) (L : Lies w S v (.s 4 (l.flatMap dP))) (M : Lies w S u (.s 4 (m.flatMap dP))) (hl : ∀ p ∈ l, GQ p) (hm : ∀ p ∈ m, GQ p) (hn : l.length ≤ 1000000000) :
  Calls Tryz.prog 24 #[v, u] w (Tells w (.bool (eqL prw l m))) := by
 obtain ⟨A, n, c, rfl, -⟩ := L.slc
 obtain ⟨A2, n2, c2, rfl, -⟩ := M.slc
 have H := Lib.hid (eqfP_any 59 prw GQ sameProtocol_w l m hl hm _ _ L M (fun _ => hn))
 clear L M hl hm hn
 go_enter Tryz.func24, Tryz.ntmps24
 go_wp2_with fail
 refine H.out.mono ?_; rintro e w3 ⟨rfl, hb3⟩
 have B3 := Lib.hid hb3
 clear hb3
 go_wp2_with fail
 go_ret
 exact ⟨rfl, B3.out⟩
end
/-- Equal answers whether the protocols are the same. -/
theorem eqL_prw {l m : List Pr} : eqL prw l m = true ↔ l = m := eqL_iff fun _ _ => prw_iff
/- Layer 10: what is valid can be compared. -/
open Go.RowKit

mutual
theorem SmIt.td : ∀ x : It, SmIt x → tdIt x
  | .mk k fr to nm al tk bl => by
    intro h
    rw [SmIt] at h
    rw [tdIt]
    exact ⟨by have := h.2.1.1; omega, SmBl.td bl h.2.2.2.2.2.2.2⟩
theorem SmIs.td : ∀ l : List It, SmIs l → tdIs l
  | [] => fun _ => by rw [tdIs]; trivial
  | x :: r => fun h => by rw [SmIs] at h; rw [tdIs]; exact ⟨SmIt.td x h.1, SmIs.td r h.2⟩
theorem SmBl.td : ∀ l : List (List It), SmBl l → tdBl l
  | [] => fun _ => by rw [tdBl]; trivial
  | x :: r => fun h => by rw [SmBl] at h; rw [tdBl]; exact ⟨SmIs.td x h.1, SmBl.td r h.2⟩
end
theorem SmPr.gq {p : Pr} (h : SmPr p) : GQ p :=
  ⟨by have := h.rl; omega, by have := h.ml; omega, fun m hm => ⟨by have := (h.ms m hm).fl; omega, by have := (h.ms m hm).wl; omega⟩, SmIs.td _ h.bd, by have := h.bn; omega⟩
theorem vB_gq {l : List Pr} (h : vB l = true) : (∀ p ∈ l, GQ p) ∧ l.length ≤ 10 := by
  unfold vB at h
  rw [Bool.and_eq_true] at h
  have h1 := vall_sm h.1
  have h2 := al_iff h.1
  exact ⟨fun p hp => (h1.1 p hp).gq, by omega⟩
/- Layer 10: the protocols of two sources, one behind the other, plainly. -/
open Go.RowKit

/-- What an answer of Parse without an error says. -/
theorem parse_ok {l : Bs} {ps : List Pr} {a : Nat} (h : parseB l = (ps, a, 0)) : (full l).2.2 = 0 ∧ (sourceP l.length ⟨(full l).1, 0, 0⟩).2.e = 0 ∧ (sourceP l.length ⟨(full l).1, 0, 0⟩).1 = ps ∧ vB ps = true := by
  unfold parseB at h
  split at h
  · rename_i h1
    simp only [Prod.mk.injEq] at h
    exact absurd h.2.2 h1
  · rename_i h1
    have h1 : (full l).2.2 = 0 := Classical.byContradiction h1
    split at h
    · rename_i h2
      simp only [Prod.mk.injEq] at h
      exact absurd h.2.2 h2
    · rename_i h2
      have h2 : (sourceP l.length ⟨(full l).1, 0, 0⟩).2.e = 0 := Classical.byContradiction h2
      split at h
      · rename_i h3
        simp only [Prod.mk.injEq] at h
        exact ⟨h1, h2, h.1, by rw [← h.1]; exact h3⟩
      · simp only [Prod.mk.injEq] at h
        have := h.2.2
        cases this
theorem parse_mk {l : Bs} {ps : List Pr} (h1 : (full l).2.2 = 0) (h2 : (sourceP l.length ⟨(full l).1, 0, 0⟩).2.e = 0) (h3 : (sourceP l.length ⟨(full l).1, 0, 0⟩).1 = ps) : parseB l = if vB ps = true then (ps, 0, 0) else ([], 0, 6) := by
  unfold parseB
  rw [if_neg (by rw [h1]; simp), if_neg (by rw [h2]; simp), h3]
theorem al_app {α : Type} {q : α → Bool} {hi : Int} {l m : List α} (hl : alB q 0 hi l = true) (hm : alB q 0 hi m = true) : alB q 0 hi (l ++ m) = decide (((l.length + m.length : Nat) : Int) ≤ hi) := by
  have h1 := al_iff hl
  have h2 := al_iff hm
  unfold alB
  rw [List.all_append, List.all_eq_true.2 h1.2.2, List.all_eq_true.2 h2.2.2, Bool.and_self, Bool.and_true, List.length_append, frB]
  simp
  omega
theorem vB_app {l m : List Pr} (hl : vB l = true) (hm : vB m = true) : vB (l ++ m) = (decide (l.length + m.length ≤ 10) && decide ((canonB l).length + (canonB m).length ≤ 8000)) := by
  unfold vB at hl hm ⊢
  rw [Bool.and_eq_true] at hl hm
  rw [al_app hl.1 hm.1]
  have hc : canonB (l ++ m) = canonB l ++ canonB m := by unfold canonB; exact List.flatMap_append
  rw [hc, List.length_append]
  congr 1
  rw [decide_eq_decide]
  omega
theorem tkv_sh (d : Nat) (r : List Tok) : (r.map fun t => (⟨t.k, t.t, t.v, t.p + d⟩ : Tok)).map tkv = r.map tkv := by
  rw [List.map_map]
  rfl
/-- What Parse answers for two sources with a line feed in between. -/
theorem parts_law {a b : Bs} {l m : List Pr} {x y : Nat} (ha : a.length ≤ 1500) (hb : b.length ≤ 1500) (h1 : parseB a = (l, x, 0)) (h2 : parseB b = (m, y, 0)) :
    vB l = true ∧ vB m = true ∧ parseB (a ++ 10 :: b) = if l.length + m.length ≤ 10 ∧ (canonB l).length + (canonB m).length ≤ 8000 then (l ++ m, 0, 0) else ([], 0, 6) := by
  obtain ⟨a1, a2, a3, a4⟩ := parse_ok h1
  obtain ⟨b1, b2, b3, b4⟩ := parse_ok h2
  refine ⟨a4, b4, ?_⟩
  have ef : full (a ++ 10 :: b) = ((full a).1 ++ ((full b).1.map fun t => (⟨t.k, t.t, t.v, t.p + (a.length + 1)⟩ : Tok)), 0, 0) := by
    rw [full_small (l := a) (by omega)] at a1 ⊢
    rw [full_small (l := b) (by omega)] at b1 ⊢
    rw [full_small (l := a ++ 10 :: b) (by simp; omega), lxs_parts, if_pos a1]
    have hsh : lxs (0 + a.length + 1) b = sh (a.length + 1) (lxs 0 b) := by
      rw [← lxs_shift, show 0 + a.length + 1 = 0 + (a.length + 1) by omega]
    rw [hsh]
    have hb1 := (lxs_bad 0 b).2 b1
    simp [prep, sh, b1, hb1]
  obtain ⟨k1, k2⟩ := source_parts (E1 := a.length) (E2 := (a ++ 10 :: b).length) (E3 := b.length) (ra := (full a).1) (rb := (full b).1) (ra' := (full a).1) (rb' := (full b).1.map fun t => (⟨t.k, t.t, t.v, t.p + (a.length + 1)⟩ : Tok)) rfl (tkv_sh _ _) a2
  rw [parse_mk (l := a ++ 10 :: b) (ps := l ++ m) (by rw [ef]) (by rw [ef]; rw [k2]; exact b2) (by rw [ef]; rw [k1, a3, b3]), vB_app a4 b4]
  by_cases h : l.length + m.length ≤ 10 ∧ (canonB l).length + (canonB m).length ≤ 8000
  · rw [if_pos h, if_pos (by simp [h.1, h.2])]
  · rw [if_neg h, if_neg (by simp; omega)]
/- Layer 10: the example of the document, plainly. -/
open Go.RowKit

def awS : Bs := [112, 114, 111, 116, 111, 99, 111, 108, 32, 80, 40, 65, 44, 66, 41, 123, 109, 101, 115, 115, 97, 103, 101, 32, 109, 40, 120, 58, 105, 110, 116, 32, 49, 46, 46, 53, 41, 119, 104, 101, 114, 101, 32, 120, 60, 110, 46, 121, 43, 49, 59, 65, 45, 62, 66, 58, 109, 59, 125]
def awP : Pr := ⟨[80], [[65], [66]], [⟨[109], [⟨[120], 1, 1, 5⟩], [⟨⟨2, [], [120], 0⟩, [60], ⟨2, [110], [121], 1⟩⟩]⟩], [.mk 1 [65] [[66]] [109] [] 0 []]⟩
def awC : Bs := [112, 114, 111, 116, 111, 99, 111, 108, 32, 80, 40, 65, 44, 32, 66, 41, 32, 123, 10, 9, 109, 101, 115, 115, 97, 103, 101, 32, 109, 40, 120, 58, 32, 105, 110, 116, 32, 49, 46, 46, 53, 41, 32, 119, 104, 101, 114, 101, 32, 120, 32, 60, 32, 110, 46, 121, 32, 43, 32, 49, 59, 10, 9, 65, 32, 45, 62, 32, 66, 58, 32, 109, 59, 10, 125, 10]
def awT : List Tok := (full awS).1
set_option maxRecDepth 100000 in
theorem aw_tok : (full awS).2 = (0, 0) := by kernel_rfl
set_option maxRecDepth 100000 in
theorem aw_src : sourceP awS.length ⟨(full awS).1, 0, 0⟩ = ([awP], ⟨[], 0, 0⟩) := by kernel_rfl
set_option maxRecDepth 100000 in
theorem aw_canon : canonB [awP] = awC := by kernel_rfl
set_option maxRecDepth 100000 in
theorem aw_all : alB vpB 0 10 [awP] = true := by kernel_rfl
theorem aw_valid : vB [awP] = true := by
  unfold vB; rw [aw_all, aw_canon]; rfl
theorem aw_parse : parseB awS = ([awP], 0, 0) := by
  unfold parseB
  rw [show (full awS).2.2 = 0 by rw [aw_tok]]
  rw [aw_src, aw_valid]
  rfl
/- Layer 10: the contract of awake. -/
open Go.RowKit

section
variable {w w' : World} {S : Nat → Prop}
theorem aw_p (ht : Tb w) (hg : gT < w.heap.size) : Calls Tryz.prog 14 #[.string ⟨#[112, 114, 111, 116, 111, 99, 111, 108, 32, 80, 40, 65, 44, 66, 41, 123, 109, 101, 115, 115, 97, 103, 101, 32, 109, 40, 120, 58, 105, 110, 116, 32, 49, 46, 46, 53, 41, 119, 104, 101, 114, 101, 32, 120, 60, 110, 46, 121, 43, 49, 59, 65, 45, 62, 66, 58, 109, 59, 125]⟩] w fun e w' => ∃ ad c, e = .returned (.tuple #[.slice (some ad) 1 c, .int .i64 0, .int .i64 0]) ∧ Lies w' (fun k => w.heap.size ≤ k) (.slice (some ad) 1 c) (.s 4 ([awP].flatMap dP)) ∧ Below w.heap.size w w' := by
  have h := parse_any ht hg awS
  rw [aw_parse] at h
  refine Calls.mono (show Calls Tryz.prog 14 #[.string ⟨#[112, 114, 111, 116, 111, 99, 111, 108, 32, 80, 40, 65, 44, 66, 41, 123, 109, 101, 115, 115, 97, 103, 101, 32, 109, 40, 120, 58, 105, 110, 116, 32, 49, 46, 46, 53, 41, 119, 104, 101, 114, 101, 32, 120, 60, 110, 46, 121, 43, 49, 59, 65, 45, 62, 66, 58, 109, 59, 125]⟩] w (ParsePost w ([awP], 0, 0)) from h) ?_
  rintro e w' ⟨v, rfl, L, hb⟩
  obtain ⟨b, o, n, c, rfl, hn, -⟩ := sl_cell L (by intro h; have := congrArg List.length h; simp [dP] at this)
  have : n = 1 := by simp [dP] at hn; omega
  subst this
  exact ⟨_, c, rfl, L, hb⟩
theorem aw_q (ht : Tb w) (hg : gT < w.heap.size) (v : Value) (L : Lies w S v (.s 4 ([awP].flatMap dP))) : Calls Tryz.prog 20 #[v] w fun e w' => e = .returned (.tuple #[.string (ofL awC), .int .i64 0]) ∧ Below w.heap.size w w' := by
  refine (print_any ht hg [awP] v L).mono ?_
  rintro e w' ⟨rfl, hb⟩
  exact ⟨by rw [aw_valid, aw_canon]; rfl, hb⟩
set_option maxRecDepth 20000 in
set_option maxHeartbeats 4000000 in
theorem awake_any (ht : Tb w) (hg : gT < w.heap.size) : Calls Tryz.prog 13 #[] w fun e w' => e = .returned (.bool true) ∧ Below w.heap.size w w' := by
  have HT := Lib.hid ht
  have HG := Lib.hid hg
  clear ht hg
  go_enter Tryz.func13, Tryz.ntmps13
  go_wp2_with fail
  refine (aw_p HT.out HG.out).mono ?_; rintro e w3 ⟨ad, c, rfl, L3, hb3⟩
  have B3 := Lib.hid hb3
  have M3 := Lib.hid L3
  clear hb3 L3
  go_wp2_with fail
  refine (aw_q (HT.out.below B3.out) (Nat.lt_of_lt_of_le HG.out B3.out.size) _ M3.out).mono ?_; rintro e w4 ⟨rfl, hb4⟩
  have B4 := Lib.hid (B3.out.trans (hb4.mono B3.out.size))
  have M4 := Lib.hid (M3.out.belowT hb4)
  clear hb4
  have htl : (ofL awC).toList = [112, 114, 111, 116, 111, 99, 111, 108, 32, 80, 40, 65, 44, 32, 66, 41, 32, 123, 10, 9, 109, 101, 115, 115, 97, 103, 101, 32, 109, 40, 120, 58, 32, 105, 110, 116, 32, 49, 46, 46, 53, 41, 32, 119, 104, 101, 114, 101, 32, 120, 32, 60, 32, 110, 46, 121, 32, 43, 32, 49, 59, 10, 9, 65, 32, 45, 62, 32, 66, 58, 32, 109, 59, 10, 125, 10] := ofL_toList awC
  go_wp2_with fail
  refine (valid_any (HT.out.below B4.out) (Nat.lt_of_lt_of_le HG.out B4.out.size) [awP] _ M4.out).mono ?_; rintro e w5 ⟨rfl, hb5⟩; rw [aw_valid]
  have B5 := Lib.hid (B4.out.trans (hb5.mono B4.out.size))
  have M5 := Lib.hid (M4.out.belowT hb5)
  clear hb5
  go_wp2_with fail
  refine (equal_any [awP] [awP] _ _ M5.out M5.out (vB_gq aw_valid).1 (vB_gq aw_valid).1 (by decide)).mono ?_; rintro e w6 ⟨rfl, hb6⟩; rw [eqL_prw.2 rfl]
  have B6 := Lib.hid (B5.out.trans (hb6.mono B5.out.size))
  clear hb6
  go_wp2_with fail
  go_ret
  exact ⟨rfl, B6.out⟩
end
/- What the laws of layer 10 are handed: the table of powers of ten, as the row's condition says it. -/
open Go.RowKit

theorem gPowType : ∀ g, Tryz.prog.globalNamed "internal/strconv.uint64pow10" = some g → (Tryz.prog.globals[g]?).map (·.type) = some 299 := by
  intro g hg
  obtain rfl := Option.some.inj ((show Tryz.prog.globalNamed "internal/strconv.uint64pow10" = some 3 by kernel_rfl).symm.trans hg)
  kernel_rfl
set_option maxRecDepth 100000 in
theorem tb_of_laid {W : World} (h : laidMetH Tryz.prog Rows.syntaxFirstRow.laid W) : Tb W := by
  rw [MakeChecks.laidMetH_plain _ _ _ (by kernel_rfl)] at h
  obtain ⟨ps, hl, -⟩ := h
  obtain ⟨_, _, _, _, _, q1, -, -, -, -, hl1, -⟩ := hl
  obtain ⟨_, _, _, _, _, q2, -, -, -, -, hl2, -⟩ := hl1
  obtain ⟨g, t, cs, fuel, p, q, hg, ht, hv, hd, -, -⟩ := hl2
  have ht2 := gPowType g hg
  obtain rfl := Option.some.inj (ht2.symm.trans ht)
  have hc := Lib.cells_of_tab (k := .u64) (zs := Lib.pow10Tab) (n := 20) (e := 293) (by kernel_rfl) (by kernel_rfl) (by kernel_rfl) (by kernel_rfl) hd
  show W.var? Tryz.prog "internal/strconv.uint64pow10" = _
  rw [hv, ← hc]
end Go.Proofs.YtekpefcggikcbaaGreatDoor
