/- Layer 10: the contract of the printer's blocks, given what block writes. -/
import Derived.Test.YtekpefcggikcbaaGreatDoorMSynU
import Derived.Test.YtekpefcggikcbaaGreatDoorMSynL
import Derived.Deep.LoopGhost
import Derived.Test.YtekpefcggikcbaaGreatDoorMSvD
namespace Go.Proofs.YtekpefcggikcbaaGreatDoor
/- Layer 10: the contract of the printer's blocks, given what block writes. -/
open Go.RowKit

mutual
def nIt : It → Nat
 | .mk _ _ _ _ _ _ bl => nBl bl + 1
def nIs : List It → Nat
 | [] => 0
 | x :: r => nIt x + nIs r + 1
def nBl : List (List It) → Nat
 | [] => 0
 | b :: r => nIs b + nBl r + 1
end
mutual
/-- Items that are small enough. -/
def SmIt : It → Prop
 | .mk _ fr to nm al tk bl => fr.length ≤ 1000 ∧ (to.length ≤ 100 ∧ ∀ x ∈ to, x.length ≤ 1000) ∧ nm.length ≤ 1000 ∧ al.length ≤ 1000 ∧ 0 ≤ tk ∧ tk ≤ 999999 ∧ bl.length ≤ 1000 ∧ SmBl bl
def SmIs : List It → Prop
 | [] => True
 | x :: r => SmIt x ∧ SmIs r
def SmBl : List (List It) → Prop
 | [] => True
 | b :: r => SmIs b ∧ SmBl r
end
theorem SmBl.at : ∀ {bl : List (List It)} {i : Nat} {b : List It}, SmBl bl → bl[i]? = some b → SmIs b
 | [], i, b, _, h => by simp at h
 | a :: r, 0, b, h, hb => by simp at hb; subst hb; exact h.1
 | a :: r, i + 1, b, h, hb => SmBl.at (bl := r) (i := i) h.2 (by simpa using hb)
theorem nBl_at : ∀ {bl : List (List It)} {i : Nat} {b : List It}, bl[i]? = some b → nIs b < nBl bl
 | [], i, b, h => by simp at h
 | a :: r, 0, b, hb => by simp at hb; subst hb; rw [nBl]; omega
 | a :: r, i + 1, b, hb => by have := nBl_at (bl := r) (i := i) (b := b) (by simpa using hb); rw [nBl]; omega
theorem Bx.pk {g B : Nat} {w w' : World} {b T : Nat} {cs : Array Value} (h : Bx w b T cs) (hk : Pk g B w w') (hT : T ≠ 5) (hb : b ≠ g) : Bx w' b T cs :=
 (hk.block b h.lt hb (.inr fun cs' fr hc => by
  unfold Bx at h
  rw [h] at hc
  simp only [Option.some.injEq, Obj.cells.injEq] at hc
  exact hT hc.2.1)).trans h
/-- block keeps its contract for items of a size below n. -/
def BlkOK (n : Nat) : Prop := ∀ (w : World) (B g d : Nat) (l : Bs) (its : List It) (v : Value) (S : Nat → Prop), nIs its < n → Pt w B g d l → Lies w S v (dB its) → (∀ k, S k → k < g) → SmIs its → (l ++ itsB (d + 1) its).length ≤ 1000000000 → d + nIs its ≤ 1000000000 →
 Calls Tryz.prog 159 #[.pointer (some ⟨g, 0, none⟩), v] w (PtGot B g d (l ++ itsB (d + 1) its) (.tuple #[]) w)
def bkHead (d : Nat) (head kw : Bs) (tk : Int) (n i : Nat) : Bs := if i = 0 then lineB d [head, [32, 123]] else if 0 < tk ∧ i + 1 = n then lineB d [[125, 32, 101, 108, 115, 101, 32, 123]] else lineB d [[125, 32], kw, [32, 123]]
theorem blksB_cons (d : Nat) (head kw : Bs) (tk : Int) (n i : Nat) (b : List It) (r : List (List It)) : blksB d head kw tk n i (b :: r) = bkHead d head kw tk n i ++ itsB (d + 1) b ++ blksB d head kw tk n (i + 1) r := by
 rw [blksB]; rfl
theorem blksB_nil (d : Nat) (head kw : Bs) (tk : Int) (n i : Nat) : blksB d head kw tk n i [] = lineB d [[125]] := by rw [blksB]
def BkRel (W0 : World) (B g d bx : Nat) (S : Nat → Prop) (cells : Array Value) (head kw : Bs) (tk : Int) (bl : List (List It)) (blv : Value) (tot : Bs) (gk : Nat) (v : Value) (wr : World) : Prop :=
 ∃ (i : Nat) (cur : Bs), v = .int .i64 (i : Int) ∧ i ≤ bl.length ∧ bl.length ≤ gk + i ∧ Hid (Pt wr B g d cur) ∧ Hid (Pk g B W0 wr) ∧ Hid (Bx wr bx 70 cells) ∧ Hid (Lies wr S blv (.s 1 (dBl bl))) ∧ Hid (tot = cur ++ blksB d head kw tk bl.length i (bl.drop i))
section
variable {w w' : World} {g B d n : Nat} {l : Bs} {S : Nat → Prop}
set_option maxRecDepth 20000 in
set_option maxHeartbeats 8000000 in
theorem blocks_any (HB : BlkOK n) (h : Pt w B g d l) (head kw : Bs) (k tk : Int) (fr nm al : Bs) (bl : List (List It)) (At Ab : Option Addr) (nt ct cb : Nat) (hn : nBl bl ≤ n) (hL : Lies w S (.slice Ab bl.length cb) (.s 1 (dBl bl))) (hS : ∀ k, S k → k < g) (hsm : SmBl bl)
  (hbl : bl.length ≤ 1000) (hl : (l ++ blksB d head kw tk bl.length 0 bl).length ≤ 1000000000) (hd : d + nBl bl ≤ 1000000000) :
  Calls Tryz.prog 237 #[.pointer (some ⟨g, 0, none⟩), .string (ofL head), .string (ofL kw), .agg #[.int .i64 k, .string (ofL fr), .slice At nt ct, .string (ofL nm), .string (ofL al), .int .i64 tk, .slice Ab bl.length cb]] w (PtGot B g d (l ++ blksB d head kw tk bl.length 0 bl) (.tuple #[]) w) := by
 have hgB := h.gB
 have hlt := h.lt
 obtain ⟨tot, htot⟩ : ∃ tot, l ++ blksB d head kw tk bl.length 0 bl = tot := ⟨_, rfl⟩
 rw [htot] at hl ⊢
 have HT := Lib.hid htot
 have HL := Lib.hid hl
 obtain ⟨W0, hW0⟩ : ∃ W0, w.alloc (.cells #[.int .i64 k, .string (ofL fr), .slice At nt ct, .string (ofL nm), .string (ofL al), .int .i64 tk, .slice Ab bl.length cb] 70) = W0 := ⟨_, rfl⟩
 have B0 := Lib.hid (show Below w.heap.size w W0 by rw [← hW0]; exact (Below.refl _ w).alloc (Nat.le_refl _) _)
 have X0 := Lib.hid (show Bx W0 w.heap.size 70 #[.int .i64 k, .string (ofL fr), .slice At nt ct, .string (ofL nm), .string (ofL al), .int .i64 tk, .slice Ab bl.length cb] by rw [← hW0]; exact Bx.new _ _ _)
 have P0 := Lib.hid (h.below B0.out)
 have L0 := Lib.hid (hL.belowT B0.out)
 have HSM := Lib.hid hsm
 have HBK := Lib.hid HB
 have HS := Lib.hid hS
 have HD := Lib.hid hd
 have HN := Lib.hid hn
 have k6 := X0.out.cell 6
 clear h hL htot hl hsm HB hS hd hn
 go_enter Tryz.func237, Tryz.ntmps237
 go_wp2_with fail
 clear k6
 go_loopg [8, 9, 13, 14, 15, 16, 17, 18, 19, 20, 21, 22, 23, 24, 25, 26, 27, 28, 29, 30, 31, 32, 33, 34, 35, 36, 37, 38, 39] bl.length (fun gk _ _ vi _ _ _ _ _ _ _ _ _ _ _ _ _ _ _ _ _ _ _ _ _ _ _ _ _ _ wr => BkRel W0 B g d w.heap.size S #[.int .i64 k, .string (ofL fr), .slice At nt ct, .string (ofL nm), .string (ofL al), .int .i64 tk, .slice Ab bl.length cb] head kw tk bl (.slice Ab bl.length cb) tot gk vi wr)
 case atStart => exact ⟨0, l, rfl, by omega, by omega, P0, Pk.refl _ _ _, X0, L0, HT.out.symm⟩
 case round =>
  obtain ⟨i, cur, rfl, hi, hgk, PT, PK, BX, LL, HE⟩ := hrel
  by_cases hie : i = bl.length
  ·have hc : ¬ ((i : Int) < (bl.length : Int)) := by omega
   have HF := Lib.hid (show tot = cur ++ lineB d [[125]] by have := HE.out; rw [hie, List.drop_length, blksB_nil] at this; exact this)
   have PA := Lib.hid (PT.out.alloc (.cells #[.string { data := #[125] }] 9))
   clear hie
   go_wp2_with fail
   refine (line_any (ps := [[125]]) PA.out (heap_alloc_new wr _) (by have := PT.out.lt; omega) (by simp) (by rw [← HF.out]; exact HL.out)).mono ?_
   rintro e w4 ⟨rfl, P4, K4⟩
   have P4' := Lib.hid P4
   have K4' := Lib.hid (((((Pk.refl g B w).below B0.out).trans PK.out).alloc _).trans K4)
   clear P4 K4
   go_wp2_with fail
   exact bodyPost_end (v := .tuple #[]) (by simp [results, Tryz.results237, go_sem]) rfl ⟨rfl, by rw [HF.out]; exact P4'.out, K4'.out⟩
  ·have hc : (i : Int) < (bl.length : Int) := by omega
   have hlt2 : i < bl.length := by omega
   obtain ⟨b, hb⟩ : ∃ b, bl[i]? = some b := ⟨bl[i], List.getElem?_eq_getElem hlt2⟩
   have HSB := Lib.hid (SmBl.at HSM.out hb)
   have HNB := Lib.hid (show nIs b < n by have := nBl_at hb; have := HN.out; omega)
   have HDB := Lib.hid (show d + nIs b ≤ 1000000000 by have := nBl_at hb; have := HD.out; omega)
   have HE2 := Lib.hid (show tot = cur ++ bkHead d head kw tk bl.length i ++ itsB (d + 1) b ++ blksB d head kw tk bl.length (i + 1) (bl.drop (i + 1)) by
    have := HE.out
    rw [List.drop_eq_getElem_cons hlt2, blksB_cons, (List.getElem?_eq_some_iff.1 hb).2] at this
    rw [this]; simp only [List.append_assoc])
   obtain ⟨bb, o, n', c', he, hn', -, hbl2, hcell⟩ := sl_cell LL.out (by rw [dBl_map]; intro e0; have := congrArg List.length e0; rw [fm1, List.length_map, List.length_nil] at this; omega)
   simp only [Value.slice.injEq] at he
   obtain ⟨rfl, -, rfl⟩ := he
   obtain ⟨u, hu, hLu⟩ := hcell i (dB b) (by rw [dBl_map, fm1, List.getElem?_map, hb]; rfl)
   obtain ⟨Au, nu, cu, rfl, -⟩ := hLu.slc
   have HLU := Lib.hid hLu
   have hz : (cur ++ bkHead d head kw tk bl.length i ++ itsB (d + 1) b).length ≤ 1000000000 := by
    have h1 := HL.out
    rw [HE2.out, List.length_append] at h1
    omega
   have HZ := Lib.hid hz
   have HZ1 := Lib.hid (show (cur ++ bkHead d head kw tk bl.length i).length ≤ 1000000000 by rw [List.length_append] at hz; omega)
   clear hz hb hcell hLu hbl2 HE hie
   by_cases hi0 : i = 0
   ·subst hi0
    rw [Nat.add_zero] at hu
    have HH := Lib.hid (show bkHead d head kw tk bl.length 0 = lineB d [head, [32, 123]] by unfold bkHead; rw [if_pos rfl])
    rw [HH.out] at HE2 HZ HZ1
    have PA := Lib.hid (PT.out.alloc (.cells #[.string (ofL head), .string { data := #[32, 123] }] 9))
    go_wp2_with fail
    refine (line_any (ps := [head, [32, 123]]) PA.out (heap_alloc_new wr _) (by have := PT.out.lt; omega) (by simp) HZ1.out).mono ?_; rintro e w4 ⟨rfl, P4, K4⟩
    have KA := Lib.hid (((Pk.refl g B wr).alloc _).trans K4)
    have P4' := Lib.hid P4
    have K4' := Lib.hid (PK.out.trans KA.out)
    have X4' := Lib.hid (BX.out.pk KA.out (by decide) (by omega))
    have L4' := Lib.hid (LL.out.pk KA.out fun q hq => by have := HS.out q hq; omega)
    have U4' := Lib.hid (HLU.out.pk KA.out fun q hq => by have := HS.out q hq; omega)
    clear P4 K4
    go_wp2_with fail
    refine (HBK.out _ _ _ _ _ b _ _ HNB.out P4'.out U4'.out HS.out HSB.out HZ.out HDB.out).mono ?_; rintro e w5 ⟨rfl, P5, K5⟩
    have P5' := Lib.hid P5
    have K5' := Lib.hid (K4'.out.trans K5)
    have X5' := Lib.hid (X4'.out.pk K5 (by decide) (by omega))
    have L5' := Lib.hid (L4'.out.pk K5 fun q hq => by have := HS.out q hq; omega)
    clear P5 K5
    go_wp2_with fail
    go_roundg (gk - 1)
    case rel => exact ⟨1, _, by simp, by omega, by omega, P5', K5', X5', L5', HE2.out⟩
    case measure => omega
   ·have e0 : ((i : Int) == 0) = false := by simp; omega
    by_cases hel : 0 < tk ∧ i + 1 = bl.length
    ·have hE := Lib.hid (show (decide (0 < tk) && decide (i + 1 = bl.length)) = true by simp [hel])
     have HH := Lib.hid (show bkHead d head kw tk bl.length i = lineB d [[125, 32, 101, 108, 115, 101, 32, 123]] by unfold bkHead; rw [if_neg hi0, if_pos hel])
     rw [HH.out] at HE2 HZ HZ1
     clear hel hi0
     have x0 := BX.out.cell 0
     have x1 := BX.out.cell 1
     have x2 := BX.out.cell 2
     have x3 := BX.out.cell 3
     have x4 := BX.out.cell 4
     have x5 := BX.out.cell 5
     have x6 := BX.out.cell 6
     go_wp2_with fail
     refine (isElse_any k tk fr nm al (.slice At nt ct) (some ⟨bb, o, none⟩) bl.length cb i (by omega)).mono ?_; rintro e w7 ⟨rfl, hb7⟩; rw [hE.out]
     have PT7 := Lib.hid (PT.out.below hb7)
     have PK7 := Lib.hid (PK.out.below hb7)
     have BX7 := Lib.hid (BX.out.below hb7)
     have LL7 := Lib.hid (LL.out.belowT hb7)
     have LU7 := Lib.hid (HLU.out.belowT hb7)
     clear hb7 x0 x1 x2 x3 x4 x5 x6
     have PA := Lib.hid (PT7.out.alloc (.cells #[.string { data := #[125, 32, 101, 108, 115, 101, 32, 123] }] 9))
     go_wp2_with fail
     refine (line_any (ps := [[125, 32, 101, 108, 115, 101, 32, 123]]) PA.out (heap_alloc_new w7 _) (by have := PT7.out.lt; omega) (by simp) HZ1.out).mono ?_; rintro e w4 ⟨rfl, P4, K4⟩
     have KA := Lib.hid (((Pk.refl g B w7).alloc _).trans K4)
     have P4' := Lib.hid P4
     have K4' := Lib.hid (PK7.out.trans KA.out)
     have X4' := Lib.hid (BX7.out.pk KA.out (by decide) (by omega))
     have L4' := Lib.hid (LL7.out.pk KA.out fun q hq => by have := HS.out q hq; omega)
     have U4' := Lib.hid (LU7.out.pk KA.out fun q hq => by have := HS.out q hq; omega)
     clear P4 K4
     go_wp2_with fail
     refine (HBK.out _ _ _ _ _ b _ _ HNB.out P4'.out U4'.out HS.out HSB.out HZ.out HDB.out).mono ?_; rintro e w5 ⟨rfl, P5, K5⟩
     have P5' := Lib.hid P5
     have K5' := Lib.hid (K4'.out.trans K5)
     have X5' := Lib.hid (X4'.out.pk K5 (by decide) (by omega))
     have L5' := Lib.hid (L4'.out.pk K5 fun q hq => by have := HS.out q hq; omega)
     clear P5 K5
     go_wp2_with fail
     go_roundg (gk - 1)
     case rel => exact ⟨i + 1, _, by simp, by omega, by omega, P5', K5', X5', L5', HE2.out⟩
     case measure => omega
    ·have hE := Lib.hid (show (decide (0 < tk) && decide (i + 1 = bl.length)) = false by simpa using hel)
     have HH := Lib.hid (show bkHead d head kw tk bl.length i = lineB d [[125, 32], kw, [32, 123]] by unfold bkHead; rw [if_neg hi0, if_neg hel])
     rw [HH.out] at HE2 HZ HZ1
     clear hel hi0
     have x0 := BX.out.cell 0
     have x1 := BX.out.cell 1
     have x2 := BX.out.cell 2
     have x3 := BX.out.cell 3
     have x4 := BX.out.cell 4
     have x5 := BX.out.cell 5
     have x6 := BX.out.cell 6
     go_wp2_with fail
     refine (isElse_any k tk fr nm al (.slice At nt ct) (some ⟨bb, o, none⟩) bl.length cb i (by omega)).mono ?_; rintro e w7 ⟨rfl, hb7⟩; rw [hE.out]
     have PT7 := Lib.hid (PT.out.below hb7)
     have PK7 := Lib.hid (PK.out.below hb7)
     have BX7 := Lib.hid (BX.out.below hb7)
     have LL7 := Lib.hid (LL.out.belowT hb7)
     have LU7 := Lib.hid (HLU.out.belowT hb7)
     clear hb7 x0 x1 x2 x3 x4 x5 x6
     have PA := Lib.hid (PT7.out.alloc (.cells #[.string { data := #[125, 32] }, .string (ofL kw), .string { data := #[32, 123] }] 9))
     go_wp2_with fail
     refine (line_any (ps := [[125, 32], kw, [32, 123]]) PA.out (heap_alloc_new w7 _) (by have := PT7.out.lt; omega) (by simp) HZ1.out).mono ?_; rintro e w4 ⟨rfl, P4, K4⟩
     have KA := Lib.hid (((Pk.refl g B w7).alloc _).trans K4)
     have P4' := Lib.hid P4
     have K4' := Lib.hid (PK7.out.trans KA.out)
     have X4' := Lib.hid (BX7.out.pk KA.out (by decide) (by omega))
     have L4' := Lib.hid (LL7.out.pk KA.out fun q hq => by have := HS.out q hq; omega)
     have U4' := Lib.hid (LU7.out.pk KA.out fun q hq => by have := HS.out q hq; omega)
     clear P4 K4
     go_wp2_with fail
     refine (HBK.out _ _ _ _ _ b _ _ HNB.out P4'.out U4'.out HS.out HSB.out HZ.out HDB.out).mono ?_; rintro e w5 ⟨rfl, P5, K5⟩
     have P5' := Lib.hid P5
     have K5' := Lib.hid (K4'.out.trans K5)
     have X5' := Lib.hid (X4'.out.pk K5 (by decide) (by omega))
     have L5' := Lib.hid (L4'.out.pk K5 fun q hq => by have := HS.out q hq; omega)
     clear P5 K5
     go_wp2_with fail
     go_roundg (gk - 1)
     case rel => exact ⟨i + 1, _, by simp, by omega, by omega, P5', K5', X5', L5', HE2.out⟩
     case measure => omega
end
/- Layer 10: the contract of sameHead. -/
open Go.RowKit

def shB (k1 : Int) (fr1 : Bs) (to1 : List Bs) (nm1 al1 : Bs) (tk1 : Int) (n1 : Nat) (k2 : Int) (fr2 : Bs) (to2 : List Bs) (nm2 al2 : Bs) (tk2 : Int) (n2 : Nat) : Bool :=
 decide (k1 = k2) && (decide (fr1 = fr2) && (decide (to1 = to2) && (decide (nm1 = nm2) && (decide (al1 = al2) && (decide (tk1 = tk2) && decide (n1 = n2))))))
section
variable {w w' : World} {S T : Nat → Prop}
set_option maxHeartbeats 8000000 in
theorem sameHead_any (k1 tk1 k2 tk2 : Int) (fr1 nm1 al1 fr2 nm2 al2 : Bs) (to1 to2 : List Bs) (v1 v2 : Value) (A1 A2 : Option Addr) (n1 c1 n2 c2 : Nat) (L1 : Lies w S v1 (dL to1)) (L2 : Lies w T v2 (dL to2)) (hn : to1.length = to2.length → to1.length ≤ 1000000000) :
  Calls Tryz.prog 168 #[.agg #[.int .i64 k1, .string (ofL fr1), v1, .string (ofL nm1), .string (ofL al1), .int .i64 tk1, .slice A1 n1 c1], .agg #[.int .i64 k2, .string (ofL fr2), v2, .string (ofL nm2), .string (ofL al2), .int .i64 tk2, .slice A2 n2 c2]] w
   (Tells w (.bool (shB k1 fr1 to1 nm1 al1 tk1 n1 k2 fr2 to2 nm2 al2 tk2 n2))) := by
 obtain ⟨At1, m1, ct1, rfl, -⟩ := L1.slc
 obtain ⟨At2, m2, ct2, rfl, -⟩ := L2.slc
 obtain ⟨W0, hW0⟩ : ∃ W, (w.alloc (.cells #[.int .i64 k1, .string (ofL fr1), .slice At1 m1 ct1, .string (ofL nm1), .string (ofL al1), .int .i64 tk1, .slice A1 n1 c1] 70)).alloc (.cells #[.int .i64 k2, .string (ofL fr2), .slice At2 m2 ct2, .string (ofL nm2), .string (ofL al2), .int .i64 tk2, .slice A2 n2 c2] 70) = W := ⟨_, rfl⟩
 have B1 := Lib.hid (show Below w.heap.size w W0 by rw [← hW0]; exact ((Below.refl _ w).alloc (Nat.le_refl _) _).alloc (by simp) _)
 have X1 := Lib.hid (show W0.heap[w.heap.size]? = some (.cells #[.int .i64 k1, .string (ofL fr1), .slice At1 m1 ct1, .string (ofL nm1), .string (ofL al1), .int .i64 tk1, .slice A1 n1 c1] 70 (0, 0)) by rw [← hW0]; exact (Below.heap_alloc _ _ _ (by simp)).trans (heap_alloc_new w _))
 have X2 := Lib.hid (show W0.heap[w.heap.size + 1]? = some (.cells #[.int .i64 k2, .string (ofL fr2), .slice At2 m2 ct2, .string (ofL nm2), .string (ofL al2), .int .i64 tk2, .slice A2 n2 c2] 70 (0, 0)) by rw [← hW0]; have := heap_alloc_new (w.alloc (.cells #[.int .i64 k1, .string (ofL fr1), .slice At1 m1 ct1, .string (ofL nm1), .string (ofL al1), .int .i64 tk1, .slice A1 n1 c1] 70)) (.cells #[.int .i64 k2, .string (ofL fr2), .slice At2 m2 ct2, .string (ofL nm2), .string (ofL al2), .int .i64 tk2, .slice A2 n2 c2] 70); rw [World.size_alloc] at this; exact this)
 have QX := Lib.hid (show ∀ W : World, Below W0.heap.size W0 W → W.heap[w.heap.size]? = some (.cells #[.int .i64 k1, .string (ofL fr1), .slice At1 m1 ct1, .string (ofL nm1), .string (ofL al1), .int .i64 tk1, .slice A1 n1 c1] 70 (0, 0)) from fun W hW => (hW.block _ (World.block_lt_of_cell? _ _ (cell_of_row W0 _ 0 _ _ _ X1.out))).trans X1.out)
 have QY := Lib.hid (show ∀ W : World, Below W0.heap.size W0 W → W.heap[w.heap.size + 1]? = some (.cells #[.int .i64 k2, .string (ofL fr2), .slice At2 m2 ct2, .string (ofL nm2), .string (ofL al2), .int .i64 tk2, .slice A2 n2 c2] 70 (0, 0)) from fun W hW => (hW.block _ (World.block_lt_of_cell? _ _ (cell_of_row W0 _ 0 _ _ _ X2.out))).trans X2.out)
 have p0 : W0.cell? ⟨w.heap.size, 0, none⟩ = some (.int .i64 k1) := cell_of_row W0 _ 0 _ _ _ X1.out
 have q0 : W0.cell? ⟨w.heap.size + 1, 0, none⟩ = some (.int .i64 k2) := cell_of_row W0 _ 0 _ _ _ X2.out
 have p1 : W0.cell? ⟨w.heap.size, 1, none⟩ = some (.string (ofL fr1)) := cell_of_row W0 _ 1 _ _ _ X1.out
 have q1 : W0.cell? ⟨w.heap.size + 1, 1, none⟩ = some (.string (ofL fr2)) := cell_of_row W0 _ 1 _ _ _ X2.out
 have p2 : W0.cell? ⟨w.heap.size, 2, none⟩ = some (.slice At1 m1 ct1) := cell_of_row W0 _ 2 _ _ _ X1.out
 have q2 : W0.cell? ⟨w.heap.size + 1, 2, none⟩ = some (.slice At2 m2 ct2) := cell_of_row W0 _ 2 _ _ _ X2.out
 have M1 := Lib.hid (L1.belowT B1.out)
 have M2 := Lib.hid (L2.belowT B1.out)
 clear L1 L2
 have hfr1 : (ofL fr1).toList = fr1 := ofL_toList fr1
 have hfr2 : (ofL fr2).toList = fr2 := ofL_toList fr2
 have hnm1 : (ofL nm1).toList = nm1 := ofL_toList nm1
 have hnm2 : (ofL nm2).toList = nm2 := ofL_toList nm2
 have hal1 : (ofL al1).toList = al1 := ofL_toList al1
 have hal2 : (ofL al2).toList = al2 := ofL_toList al2
 have HN := Lib.hid hn
 clear hn
 by_cases gk : k1 = k2
 rotate_left
 ·have H := Lib.hid (show false = shB k1 fr1 to1 nm1 al1 tk1 n1 k2 fr2 to2 nm2 al2 tk2 n2 by unfold shB; simp [gk])
  have ek : (k1 == k2) = false := by rw [beq_eq_false_iff_ne]; exact gk
  clear gk
  go_enter Tryz.func168, Tryz.ntmps168
  go_wp2_with fail
  go_ret
  exact ⟨by rw [H.out]; rfl, B1.out⟩
 by_cases gfr : fr1 = fr2
 rotate_left
 ·have H := Lib.hid (show false = shB k1 fr1 to1 nm1 al1 tk1 n1 k2 fr2 to2 nm2 al2 tk2 n2 by unfold shB; simp [gfr])
  have ek : (k1 == k2) = true := by rw [beq_iff_eq]; exact gk
  have efr : (fr1 == fr2) = false := by rw [beq_eq_false_iff_ne]; exact gfr
  clear gk gfr
  go_enter Tryz.func168, Tryz.ntmps168
  go_wp2_with fail
  go_ret
  exact ⟨by rw [H.out]; rfl, B1.out⟩
 by_cases gto : to1 = to2
 rotate_left
 ·have H := Lib.hid (show false = shB k1 fr1 to1 nm1 al1 tk1 n1 k2 fr2 to2 nm2 al2 tk2 n2 by unfold shB; simp [gto])
  have ek : (k1 == k2) = true := by rw [beq_iff_eq]; exact gk
  have efr : (fr1 == fr2) = true := by rw [beq_iff_eq]; exact gfr
  have HT := Lib.hid (show decide (to1 = to2) = false by exact decide_eq_false gto)
  clear gk gfr gto
  go_enter Tryz.func168, Tryz.ntmps168
  go_wp2_with fail
  refine (strsEq_any to1 to2 _ _ M1.out M2.out HN.out).mono ?_; rintro e w3 ⟨rfl, hb3⟩; rw [HT.out]
  have B3 := Lib.hid (B1.out.trans (hb3.mono B1.out.size))
  clear hb3
  go_wp2_with fail
  go_ret
  exact ⟨by rw [H.out]; rfl, B3.out⟩
 by_cases gnm : nm1 = nm2
 rotate_left
 ·have H := Lib.hid (show false = shB k1 fr1 to1 nm1 al1 tk1 n1 k2 fr2 to2 nm2 al2 tk2 n2 by unfold shB; simp [gnm])
  have ek : (k1 == k2) = true := by rw [beq_iff_eq]; exact gk
  have efr : (fr1 == fr2) = true := by rw [beq_iff_eq]; exact gfr
  have HT := Lib.hid (show decide (to1 = to2) = true by exact decide_eq_true gto)
  have enm : (nm1 == nm2) = false := by rw [beq_eq_false_iff_ne]; exact gnm
  clear gk gfr gto gnm
  go_enter Tryz.func168, Tryz.ntmps168
  go_wp2_with fail
  refine (strsEq_any to1 to2 _ _ M1.out M2.out HN.out).mono ?_; rintro e w3 ⟨rfl, hb3⟩; rw [HT.out]
  have B3 := Lib.hid (B1.out.trans (hb3.mono B1.out.size))
  have Y1 := QX.out _ hb3
  have Y2 := QY.out _ hb3
  have p3 : w3.cell? ⟨w.heap.size, 3, none⟩ = some (.string (ofL nm1)) := cell_of_row _ _ 3 _ _ _ Y1
  have q3 : w3.cell? ⟨w.heap.size + 1, 3, none⟩ = some (.string (ofL nm2)) := cell_of_row _ _ 3 _ _ _ Y2
  clear Y1 Y2
  clear hb3
  go_wp2_with fail
  go_ret
  exact ⟨by rw [H.out]; rfl, B3.out⟩
 by_cases gal : al1 = al2
 rotate_left
 ·have H := Lib.hid (show false = shB k1 fr1 to1 nm1 al1 tk1 n1 k2 fr2 to2 nm2 al2 tk2 n2 by unfold shB; simp [gal])
  have ek : (k1 == k2) = true := by rw [beq_iff_eq]; exact gk
  have efr : (fr1 == fr2) = true := by rw [beq_iff_eq]; exact gfr
  have HT := Lib.hid (show decide (to1 = to2) = true by exact decide_eq_true gto)
  have enm : (nm1 == nm2) = true := by rw [beq_iff_eq]; exact gnm
  have eal : (al1 == al2) = false := by rw [beq_eq_false_iff_ne]; exact gal
  clear gk gfr gto gnm gal
  go_enter Tryz.func168, Tryz.ntmps168
  go_wp2_with fail
  refine (strsEq_any to1 to2 _ _ M1.out M2.out HN.out).mono ?_; rintro e w3 ⟨rfl, hb3⟩; rw [HT.out]
  have B3 := Lib.hid (B1.out.trans (hb3.mono B1.out.size))
  have Y1 := QX.out _ hb3
  have Y2 := QY.out _ hb3
  have p3 : w3.cell? ⟨w.heap.size, 3, none⟩ = some (.string (ofL nm1)) := cell_of_row _ _ 3 _ _ _ Y1
  have q3 : w3.cell? ⟨w.heap.size + 1, 3, none⟩ = some (.string (ofL nm2)) := cell_of_row _ _ 3 _ _ _ Y2
  have p4 : w3.cell? ⟨w.heap.size, 4, none⟩ = some (.string (ofL al1)) := cell_of_row _ _ 4 _ _ _ Y1
  have q4 : w3.cell? ⟨w.heap.size + 1, 4, none⟩ = some (.string (ofL al2)) := cell_of_row _ _ 4 _ _ _ Y2
  clear Y1 Y2
  clear hb3
  go_wp2_with fail
  go_ret
  exact ⟨by rw [H.out]; rfl, B3.out⟩
 by_cases gtk : tk1 = tk2
 rotate_left
 ·have H := Lib.hid (show false = shB k1 fr1 to1 nm1 al1 tk1 n1 k2 fr2 to2 nm2 al2 tk2 n2 by unfold shB; simp [gtk])
  have ek : (k1 == k2) = true := by rw [beq_iff_eq]; exact gk
  have efr : (fr1 == fr2) = true := by rw [beq_iff_eq]; exact gfr
  have HT := Lib.hid (show decide (to1 = to2) = true by exact decide_eq_true gto)
  have enm : (nm1 == nm2) = true := by rw [beq_iff_eq]; exact gnm
  have eal : (al1 == al2) = true := by rw [beq_iff_eq]; exact gal
  have etk : (tk1 == tk2) = false := by rw [beq_eq_false_iff_ne]; exact gtk
  clear gk gfr gto gnm gal gtk
  go_enter Tryz.func168, Tryz.ntmps168
  go_wp2_with fail
  refine (strsEq_any to1 to2 _ _ M1.out M2.out HN.out).mono ?_; rintro e w3 ⟨rfl, hb3⟩; rw [HT.out]
  have B3 := Lib.hid (B1.out.trans (hb3.mono B1.out.size))
  have Y1 := QX.out _ hb3
  have Y2 := QY.out _ hb3
  have p3 : w3.cell? ⟨w.heap.size, 3, none⟩ = some (.string (ofL nm1)) := cell_of_row _ _ 3 _ _ _ Y1
  have q3 : w3.cell? ⟨w.heap.size + 1, 3, none⟩ = some (.string (ofL nm2)) := cell_of_row _ _ 3 _ _ _ Y2
  have p4 : w3.cell? ⟨w.heap.size, 4, none⟩ = some (.string (ofL al1)) := cell_of_row _ _ 4 _ _ _ Y1
  have q4 : w3.cell? ⟨w.heap.size + 1, 4, none⟩ = some (.string (ofL al2)) := cell_of_row _ _ 4 _ _ _ Y2
  have p5 : w3.cell? ⟨w.heap.size, 5, none⟩ = some (.int .i64 tk1) := cell_of_row _ _ 5 _ _ _ Y1
  have q5 : w3.cell? ⟨w.heap.size + 1, 5, none⟩ = some (.int .i64 tk2) := cell_of_row _ _ 5 _ _ _ Y2
  clear Y1 Y2
  clear hb3
  go_wp2_with fail
  go_ret
  exact ⟨by rw [H.out]; rfl, B3.out⟩
 by_cases gn : n1 = n2
 rotate_left
 ·have H := Lib.hid (show false = shB k1 fr1 to1 nm1 al1 tk1 n1 k2 fr2 to2 nm2 al2 tk2 n2 by unfold shB; simp [gn])
  have ek : (k1 == k2) = true := by rw [beq_iff_eq]; exact gk
  have efr : (fr1 == fr2) = true := by rw [beq_iff_eq]; exact gfr
  have HT := Lib.hid (show decide (to1 = to2) = true by exact decide_eq_true gto)
  have enm : (nm1 == nm2) = true := by rw [beq_iff_eq]; exact gnm
  have eal : (al1 == al2) = true := by rw [beq_iff_eq]; exact gal
  have etk : (tk1 == tk2) = true := by rw [beq_iff_eq]; exact gtk
  have en : ((n1 : Int) == (n2 : Int)) = false := by rw [beq_eq_false_iff_ne]; omega
  clear gk gfr gto gnm gal gtk gn
  go_enter Tryz.func168, Tryz.ntmps168
  go_wp2_with fail
  refine (strsEq_any to1 to2 _ _ M1.out M2.out HN.out).mono ?_; rintro e w3 ⟨rfl, hb3⟩; rw [HT.out]
  have B3 := Lib.hid (B1.out.trans (hb3.mono B1.out.size))
  have Y1 := QX.out _ hb3
  have Y2 := QY.out _ hb3
  have p3 : w3.cell? ⟨w.heap.size, 3, none⟩ = some (.string (ofL nm1)) := cell_of_row _ _ 3 _ _ _ Y1
  have q3 : w3.cell? ⟨w.heap.size + 1, 3, none⟩ = some (.string (ofL nm2)) := cell_of_row _ _ 3 _ _ _ Y2
  have p4 : w3.cell? ⟨w.heap.size, 4, none⟩ = some (.string (ofL al1)) := cell_of_row _ _ 4 _ _ _ Y1
  have q4 : w3.cell? ⟨w.heap.size + 1, 4, none⟩ = some (.string (ofL al2)) := cell_of_row _ _ 4 _ _ _ Y2
  have p5 : w3.cell? ⟨w.heap.size, 5, none⟩ = some (.int .i64 tk1) := cell_of_row _ _ 5 _ _ _ Y1
  have q5 : w3.cell? ⟨w.heap.size + 1, 5, none⟩ = some (.int .i64 tk2) := cell_of_row _ _ 5 _ _ _ Y2
  have p6 : w3.cell? ⟨w.heap.size, 6, none⟩ = some (.slice A1 n1 c1) := cell_of_row _ _ 6 _ _ _ Y1
  have q6 : w3.cell? ⟨w.heap.size + 1, 6, none⟩ = some (.slice A2 n2 c2) := cell_of_row _ _ 6 _ _ _ Y2
  clear Y1 Y2
  clear hb3
  go_wp2_with fail
  go_ret
  exact ⟨by rw [H.out]; rfl, B3.out⟩
 have H := Lib.hid (show true = shB k1 fr1 to1 nm1 al1 tk1 n1 k2 fr2 to2 nm2 al2 tk2 n2 by unfold shB; simp [gk, gfr, gto, gnm, gal, gtk, gn])
 have ek : (k1 == k2) = true := by rw [beq_iff_eq]; exact gk
 have efr : (fr1 == fr2) = true := by rw [beq_iff_eq]; exact gfr
 have HT := Lib.hid (show decide (to1 = to2) = true by exact decide_eq_true gto)
 have enm : (nm1 == nm2) = true := by rw [beq_iff_eq]; exact gnm
 have eal : (al1 == al2) = true := by rw [beq_iff_eq]; exact gal
 have etk : (tk1 == tk2) = true := by rw [beq_iff_eq]; exact gtk
 have en : ((n1 : Int) == (n2 : Int)) = true := by rw [beq_iff_eq]; omega
 clear gk gfr gto gnm gal gtk gn
 go_enter Tryz.func168, Tryz.ntmps168
 go_wp2_with fail
 refine (strsEq_any to1 to2 _ _ M1.out M2.out HN.out).mono ?_; rintro e w3 ⟨rfl, hb3⟩; rw [HT.out]
 have B3 := Lib.hid (B1.out.trans (hb3.mono B1.out.size))
 have Y1 := QX.out _ hb3
 have Y2 := QY.out _ hb3
 have p3 : w3.cell? ⟨w.heap.size, 3, none⟩ = some (.string (ofL nm1)) := cell_of_row _ _ 3 _ _ _ Y1
 have q3 : w3.cell? ⟨w.heap.size + 1, 3, none⟩ = some (.string (ofL nm2)) := cell_of_row _ _ 3 _ _ _ Y2
 have p4 : w3.cell? ⟨w.heap.size, 4, none⟩ = some (.string (ofL al1)) := cell_of_row _ _ 4 _ _ _ Y1
 have q4 : w3.cell? ⟨w.heap.size + 1, 4, none⟩ = some (.string (ofL al2)) := cell_of_row _ _ 4 _ _ _ Y2
 have p5 : w3.cell? ⟨w.heap.size, 5, none⟩ = some (.int .i64 tk1) := cell_of_row _ _ 5 _ _ _ Y1
 have q5 : w3.cell? ⟨w.heap.size + 1, 5, none⟩ = some (.int .i64 tk2) := cell_of_row _ _ 5 _ _ _ Y2
 have p6 : w3.cell? ⟨w.heap.size, 6, none⟩ = some (.slice A1 n1 c1) := cell_of_row _ _ 6 _ _ _ Y1
 have q6 : w3.cell? ⟨w.heap.size + 1, 6, none⟩ = some (.slice A2 n2 c2) := cell_of_row _ _ 6 _ _ _ Y2
 clear Y1 Y2
 clear hb3
 go_wp2_with fail
 go_ret
 exact ⟨by rw [H.out]; rfl, B3.out⟩
end
end Go.Proofs.YtekpefcggikcbaaGreatDoor
