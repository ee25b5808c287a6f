/- Layer 10: the contracts of the printer's item and block, for items of any depth. -/
import Derived.Test.YtekpefcggikcbaaGreatDoorPtIs
import Derived.Test.YtekpefcggikcbaaGreatDoorPtIc
import Derived.Test.YtekpefcggikcbaaGreatDoorPtIh
import Derived.Deep.LoopGhost
import Derived.Test.YtekpefcggikcbaaGreatDoorPtMp
import Derived.Deep.RegionWith
import Derived.Test.YtekpefcggikcbaaGreatDoorMSvD
namespace Go.Proofs.YtekpefcggikcbaaGreatDoor
/- Layer 10: the contracts of the printer's item and block, for items of any depth. -/
open Go.RowKit

section
variable {w w' : World} {g B d n : Nat} {l : Bs} {S : Nat → Prop}
theorem item2_any (hB : BlkOK n) (h : Pt w B g d l) (k tk : Int) (fr nm al : Bs) (to : List Bs) (bl : List (List It)) (At Ab : Option Addr) (ct cb : Nat) (hI : ItIn w S to bl At Ab ct cb) (hsm : SmIt (.mk k fr to nm al tk bl)) (hn : nBl bl ≤ n) (hS : ∀ k, S k → k < g)
  (hl : (l ++ itB d (.mk k fr to nm al tk bl)).length ≤ 1000000000) (hd : d + nBl bl ≤ 1000000000) :
  Calls Tryz.prog 210 #[.pointer (some ⟨g, 0, none⟩), .agg #[.int .i64 k, .string (ofL fr), .slice At to.length ct, .string (ofL nm), .string (ofL al), .int .i64 tk, .slice Ab bl.length cb]] w (PtGot B g d (l ++ itB d (.mk k fr to nm al tk bl)) (.tuple #[]) w) := by
 rw [itB] at hl ⊢
 by_cases h1 : k = 1
 ·rw [if_pos h1] at hl ⊢
  exact itSend_any h k tk fr nm al to bl At Ab ct cb h1 hI hsm hl
 rw [if_neg h1] at hl ⊢
 by_cases h2 : k = 2
 ·rw [if_pos h2] at hl ⊢
  exact itChoice_any hB h k tk fr nm al to bl At Ab ct cb h2 hI hsm hl hn hS hd
 rw [if_neg h2] at hl ⊢
 by_cases h3 : k = 3
 ·rw [if_pos h3] at hl ⊢
  exact itLoop_any hB h k tk fr nm al to bl At Ab ct cb h3 hI hsm hl hn hS hd
 rw [if_neg h3] at hl ⊢
 by_cases h4 : k = 4
 ·rw [if_pos h4] at hl ⊢
  exact itAgain_any h k tk fr nm al to bl At Ab ct cb h4 hI hsm hl
 rw [if_neg h4] at hl ⊢
 by_cases h5 : k = 5
 ·rw [if_pos h5] at hl ⊢
  exact itPar_any hB h k tk fr nm al to bl At Ab ct cb h5 hI hsm hl hn hS hd
 rw [if_neg h5] at hl ⊢
 by_cases h6 : k = 6
 ·rw [if_pos h6] at hl ⊢
  exact itCall_any h k tk fr nm al to bl At Ab ct cb h6 hI hsm hl
 rw [if_neg h6] at hl ⊢
 exact itNone_any h k tk fr nm al to bl At Ab ct cb ⟨h1, h2, h3, h4, h5, h6⟩ hI hsm hl
theorem dIt_len (x : It) : (dIt x).length = 7 := by cases x; rfl
theorem SmIs.at : ∀ {its : List It} {i : Nat} {x : It}, SmIs its → its[i]? = some x → SmIt x
 | [], i, b, _, h => by simp at h
 | a :: r, 0, b, h, hb => by simp at hb; subst hb; exact h.1
 | a :: r, i + 1, b, h, hb => SmIs.at (its := r) (i := i) h.2 (by simpa using hb)
theorem nIs_at : ∀ {its : List It} {i : Nat} {x : It}, its[i]? = some x → nIt x < nIs its
 | [], i, b, h => by simp at h
 | a :: r, 0, b, hb => by simp at hb; subst hb; rw [nIs]; omega
 | a :: r, i + 1, b, hb => by have := nIs_at (its := r) (i := i) (x := b) (by simpa using hb); rw [nIs]; omega
theorem it_cells {b o i : Nat} {its : List It} {k tk : Int} {fr nm al : Bs} {to : List Bs} {bl : List (List It)} (h : ∀ (i : Nat) d, (dIs its)[i]? = some d → ∃ u, w.cell? ⟨b, o + i, none⟩ = some u ∧ Lies w S u d) (hi : its[i]? = some (.mk k fr to nm al tk bl)) :
  ∃ At ct Ab cb, w.cell? ⟨b, o + i * 7, none⟩ = some (.int .i64 k) ∧ w.cell? ⟨b, o + i * 7 + 1, none⟩ = some (.string (ofL fr)) ∧ w.cell? ⟨b, o + i * 7 + 2, none⟩ = some (.slice At to.length ct) ∧ w.cell? ⟨b, o + i * 7 + 3, none⟩ = some (.string (ofL nm)) ∧
   w.cell? ⟨b, o + i * 7 + 4, none⟩ = some (.string (ofL al)) ∧ w.cell? ⟨b, o + i * 7 + 5, none⟩ = some (.int .i64 tk) ∧ w.cell? ⟨b, o + i * 7 + 6, none⟩ = some (.slice Ab bl.length cb) ∧ ItIn w S to bl At Ab ct cb := by
 have g : ∀ (r : Nat) d, (dIt (.mk k fr to nm al tk bl))[r]? = some d → r < 7 → ∃ u, w.cell? ⟨b, o + i * 7 + r, none⟩ = some u ∧ Lies w S u d := fun r d hd hr => by
  have := h (i * 7 + r) d (by rw [dIs_map, flat_get dIt_len its i r _ hi hr]; exact hd)
  rwa [← Nat.add_assoc] at this
 obtain ⟨u0, h0, l0⟩ := g 0 _ rfl (by omega)
 obtain ⟨u1, h1, l1⟩ := g 1 _ rfl (by omega)
 obtain ⟨u2, h2, l2⟩ := g 2 (dL to) rfl (by omega)
 obtain ⟨u3, h3, l3⟩ := g 3 _ rfl (by omega)
 obtain ⟨u4, h4, l4⟩ := g 4 _ rfl (by omega)
 obtain ⟨u5, h5, l5⟩ := g 5 _ rfl (by omega)
 obtain ⟨u6, h6, l6⟩ := g 6 _ rfl (by omega)
 rw [l0.cell_eq] at h0
 rw [l1.cell_eq] at h1
 rw [l3.cell_eq] at h3
 rw [l4.cell_eq] at h4
 rw [l5.cell_eq] at h5
 obtain ⟨At, nt, ct, rfl, hnt⟩ := Lies.slc (show Lies w S u2 (.s 1 (to.flatMap fun x => [dS x])) from l2)
 obtain ⟨Ab, nb, cb, rfl, hnb⟩ := l6.slc
 rw [fm1, List.length_map, Nat.mul_one] at hnt
 rw [dBl_map, fm1, List.length_map, Nat.mul_one] at hnb
 subst hnt; subst hnb
 exact ⟨At, ct, Ab, cb, h0, h1, h2, h3, h4, h5, h6, l2, l6⟩
theorem itsB_cons (d : Nat) (x : It) (r : List It) : itsB d (x :: r) = itB d x ++ itsB d r := by rw [itsB]
theorem itsB_nil (d : Nat) : itsB d [] = [] := by rw [itsB]
def BlRel (W0 : World) (B g d : Nat) (S : Nat → Prop) (its : List It) (v0 : Value) (tot : Bs) (gk : Nat) (v : Value) (wr : World) : Prop :=
 ∃ (i : Nat) (cur : Bs), v = .int .i64 (i : Int) ∧ i ≤ its.length ∧ its.length ≤ gk + i ∧ Hid (Pt wr B g (d + 1) cur) ∧ Hid (Pk g B W0 wr) ∧ Hid (Lies wr S v0 (dB its)) ∧ Hid (tot = cur ++ itsB (d + 1) (its.drop i))
theorem nIs_len : ∀ its : List It, its.length ≤ nIs its
 | [] => by simp
 | x :: r => by have := nIs_len r; rw [nIs]; simp only [List.length_cons]; omega
set_option maxRecDepth 20000 in
set_option maxHeartbeats 8000000 in
theorem block2_any (hB : BlkOK n) : BlkOK (n + 1) := by
 intro w B g d l its v S hn h hL hS hsm hl hd
 have hgB := h.gB
 have hlt := h.lt
 obtain ⟨tot, htot⟩ : ∃ tot, l ++ itsB (d + 1) its = tot := ⟨_, rfl⟩
 rw [htot] at hl ⊢
 have HT := Lib.hid htot
 have HL := Lib.hid hl
 obtain ⟨A, m, c, rfl, hm⟩ := Lies.slc (show Lies w S v (.s 7 (dIs its)) from hL)
 have hm' : m = its.length := by rw [dIs_map, flat_len dIt_len] at hm; omega
 subst hm'
 have c2 : w.cell? ⟨g, 2, none⟩ = some (.int .i64 (d : Int)) := by
  obtain ⟨a, v, _, h2, _⟩ := h.blk
  exact cell_of_row w g 2 _ _ _ h2
 have f2 : w.frozen? ⟨g, 2, none⟩ = false := by
  obtain ⟨a, v, _, h2, _⟩ := h.blk
  simp [World.frozen?, h2]
 obtain ⟨W0, hW0⟩ : ∃ W0, w.setCell ⟨g, 2, none⟩ (.int .i64 ((d : Int) + 1)) = W0 := ⟨_, rfl⟩
 have K00 : Pk g B w W0 := by rw [← hW0]; exact (Pk.refl g B w).set 2 (.int .i64 ((d : Int) + 1))
 have K0 := Lib.hid K00
 have ec : ((d + 1 : Nat) : Int) = (d : Int) + 1 := by omega
 have P00 := h.depth (d + 1)
 rw [ec, hW0] at P00
 have P0 := Lib.hid P00
 have L0 := Lib.hid (hL.pk K0.out fun k hk => by have := hS k hk; omega)
 have HSM := Lib.hid hsm
 have HBK := Lib.hid hB
 have HS := Lib.hid hS
 have HD := Lib.hid hd
 have HN := Lib.hid hn
 have hwr : wrap64 ((d : Int) + 1) = (d : Int) + 1 := by unfold wrap64; omega
 have hwd : wrap64 (d : Int) = (d : Int) := by unfold wrap64; omega
 have hil : its.length ≤ 1000000000 := Nat.le_trans (nIs_len its) (Nat.le_trans (Nat.le_add_left _ d) hd)
 clear h hL htot hl hsm hB hS hd hn hm K00 P00
 go_enter Tryz.func159, Tryz.ntmps159
 go_wp2_with fail
 clear c2 f2
 rw [hwr]
 clear hW0
 go_loopg [5, 15, 16, 17, 18, 19, 20, 21, 22] its.length (fun gk _ vi _ _ _ _ _ _ _ wr => BlRel W0 B g d S its (.slice A its.length c) tot gk vi wr)
 case atStart => exact ⟨0, l, rfl, by omega, by omega, P0, Pk.refl _ _ _, L0, HT.out.symm⟩
 case round =>
  obtain ⟨i, cur, rfl, hi, hgk, PT, PK, LL, HE⟩ := hrel
  by_cases hie : i = its.length
  ·have hc : ¬ ((i : Int) < (its.length : Int)) := by omega
   have HF := Lib.hid (show tot = cur by have := HE.out; rw [hie, List.drop_length, itsB_nil, List.append_nil] at this; exact this)
   have c2 : wr.cell? ⟨g, 2, none⟩ = some (.int .i64 ((d + 1 : Nat) : Int)) := by
    obtain ⟨a, v, _, h2, _⟩ := PT.out.blk
    exact cell_of_row wr g 2 _ _ _ h2
   rw [ec] at c2
   have f2 : wr.frozen? ⟨g, 2, none⟩ = false := by
    obtain ⟨a, v, _, h2, _⟩ := PT.out.blk
    simp [World.frozen?, h2]
   clear hie
   go_wp2_with fail
   exact bodyPost_end (v := .tuple #[]) (by simp [results, Tryz.results159, go_sem]) rfl ⟨rfl, by rw [HF.out]; exact PT.out.depth d, (K0.out.trans PK.out).set 2 _⟩
  ·have hc : (i : Int) < (its.length : Int) := by omega
   have hlt2 : i < its.length := by omega
   obtain ⟨x, hx⟩ : ∃ x, its[i]? = some x := ⟨its[i], List.getElem?_eq_getElem hlt2⟩
   have HSB := Lib.hid (SmIs.at HSM.out hx)
   have HE2 := Lib.hid (show tot = cur ++ itB (d + 1) x ++ itsB (d + 1) (its.drop (i + 1)) by
    have := HE.out
    rw [List.drop_eq_getElem_cons hlt2, itsB_cons, (List.getElem?_eq_some_iff.1 hx).2] at this
    rw [this]; simp only [List.append_assoc])
   have hz : (cur ++ itB (d + 1) x).length ≤ 1000000000 := by
    have h1 := HL.out
    rw [HE2.out, List.length_append] at h1
    omega
   have HZ := Lib.hid hz
   have hnx := nIs_at hx
   obtain ⟨k, fr, to, nm, al, tk, bl⟩ := x
   have HNB := Lib.hid (show nBl bl ≤ n by have := HN.out; rw [nIt] at hnx; omega)
   have HDB := Lib.hid (show d + 1 + nBl bl ≤ 1000000000 by have := HD.out; rw [nIt] at hnx; omega)
   obtain ⟨bb, o, n', c', he, hn', -, hbl2, hcell⟩ := sl_cell LL.out (by rw [dIs_map]; intro e0; have := congrArg List.length e0; rw [flat_len dIt_len, List.length_nil] at this; omega)
   simp only [Value.slice.injEq] at he
   obtain ⟨rfl, -, rfl⟩ := he
   obtain ⟨At, ct, Ab, cb, u0, u1, u2, u3, u4, u5, u6, hI⟩ := it_cells hcell hx
   have HI := Lib.hid hI
   clear hz hx hcell hbl2 HE hie hI hnx
   have HA := Lib.hid ((Below.refl wr.heap.size wr).alloc (Nat.le_refl _) (.cells #[.int .i64 k, .string (ofL fr), .slice At to.length ct, .string (ofL nm), .string (ofL al), .int .i64 tk, .slice Ab bl.length cb] 70))
   go_wp2_with fail
   refine (item2_any HBK.out (PT.out.below HA.out) k tk fr nm al to bl At Ab ct cb ⟨HI.out.1.belowT HA.out, HI.out.2.belowT HA.out⟩ HSB.out HNB.out HS.out HZ.out HDB.out).mono ?_; rintro e w4 ⟨rfl, P4, K4⟩
   have KA := Lib.hid (((Pk.refl g B wr).below HA.out).trans K4)
   have P4' := Lib.hid P4
   have K4' := Lib.hid (PK.out.trans KA.out)
   have L4' := Lib.hid (LL.out.pk KA.out fun q hq => by have := HS.out q hq; omega)
   clear P4 K4 u0 u1 u2 u3 u4 u5 u6
   go_wp2_with fail
   go_roundg (gk - 1)
   case rel => exact ⟨i + 1, _, by simp, by omega, by omega, P4', K4', L4', HE2.out⟩
   case measure => omega
theorem blkOK : ∀ n, BlkOK n
 | 0 => fun _ _ _ _ _ _ _ _ hn => absurd hn (Nat.not_lt_zero _)
 | n + 1 => block2_any (blkOK n)
end
/- Layer 10: the contract of the printer's protocol. -/
open Go.RowKit

/-- A protocol that is small enough. -/
structure SmPr (p : Pr) : Prop where
 nm : p.nm.length ≤ 1000
 rl : p.rs.length ≤ 100
 rs : ∀ r ∈ p.rs, r.length ≤ 1000
 ml : p.ms.length ≤ 1000
 ms : ∀ m ∈ p.ms, SmMs m
 bd : SmIs p.bd
 bn : nIs p.bd ≤ 100000
theorem dM_len (m : Ms) : (dM m).length = 3 := rfl
theorem ms_cells {w : World} {S : Nat → Prop} {b o : Nat} {ms : List Ms} {i : Nat} {m : Ms} (h : ∀ (i : Nat) d, (ms.flatMap dM)[i]? = some d → ∃ u, w.cell? ⟨b, o + i, none⟩ = some u ∧ Lies w S u d) (hi : ms[i]? = some m) :
  ∃ A1 n1 c1 A2 n2 c2, w.cell? ⟨b, o + i * 3, none⟩ = some (.string (ofL m.nm)) ∧ w.cell? ⟨b, o + i * 3 + 1, none⟩ = some (.slice A1 n1 c1) ∧ w.cell? ⟨b, o + i * 3 + 2, none⟩ = some (.slice A2 n2 c2) ∧ Lies w S (.slice A1 n1 c1) (.s 4 (m.fs.flatMap dF)) ∧ Lies w S (.slice A2 n2 c2) (.s 9 (m.wh.flatMap dA)) := by
 have g : ∀ (r : Nat) d, (dM m)[r]? = some d → r < 3 → ∃ u, w.cell? ⟨b, o + i * 3 + r, none⟩ = some u ∧ Lies w S u d := fun r d hd hr => by
  have := h (i * 3 + r) d (by rw [flat_get dM_len ms i r m hi hr]; exact hd)
  rwa [← Nat.add_assoc] at this
 obtain ⟨u0, h0, l0⟩ := g 0 _ rfl (by omega)
 obtain ⟨u1, h1, l1⟩ := g 1 _ rfl (by omega)
 obtain ⟨u2, h2, l2⟩ := g 2 _ rfl (by omega)
 rw [l0.cell_eq] at h0
 obtain ⟨A1, n1, c1, rfl, -⟩ := l1.slc
 obtain ⟨A2, n2, c2, rfl, -⟩ := l2.slc
 exact ⟨A1, n1, c1, A2, n2, c2, h0, h1, h2, l1, l2⟩
def PrRel (W0 : World) (B g bx : Nat) (S : Nat → Prop) (cells : Array Value) (ms : List Ms) (bd : List It) (v2 v3 : Value) (tot : Bs) (gk : Nat) (v : Value) (wr : World) : Prop :=
 ∃ (i : Nat) (cur : Bs), v = .int .i64 (i : Int) ∧ i ≤ ms.length ∧ ms.length ≤ gk + i ∧ Hid (Pt wr B g 1 cur) ∧ Hid (Pk g B W0 wr) ∧ Hid (Bx wr bx 59 cells) ∧ Hid (Lies wr S v2 (.s 3 (ms.flatMap dM))) ∧ Hid (Lies wr S v3 (dB bd)) ∧ Hid (tot = cur ++ ((ms.drop i).flatMap (msgB 1) ++ itsB 1 bd ++ lineB 0 [[125]]))
section
variable {g B : Nat} {l : Bs} {w w' : World} {S : Nat → Prop}
set_option maxRecDepth 20000 in
set_option maxHeartbeats 4000000 in
theorem proto_any (h : Pt w B g 0 l) (p : Pr) (hp : SmPr p) (v1 v2 v3 : Value) (L1 : Lies w S v1 (dL p.rs)) (L2 : Lies w S v2 (.s 3 (p.ms.flatMap dM))) (L3 : Lies w S v3 (dB p.bd)) (hS : ∀ k, S k → k < g) (hl : (l ++ prB p).length ≤ 1000000000) :
  Calls Tryz.prog 92 #[.pointer (some ⟨g, 0, none⟩), .agg #[.string (ofL p.nm), v1, v2, v3]] w (PtGot B g 0 (l ++ prB p) (.tuple #[]) w) := by
 have hgB := h.gB
 have hlt := h.lt
 obtain ⟨nm, rs, ms, bd⟩ := p
 obtain ⟨tot, htot⟩ : ∃ tot, l ++ prB ⟨nm, rs, ms, bd⟩ = tot := ⟨_, rfl⟩
 rw [htot] at hl ⊢
 have HT := Lib.hid htot
 have HL := Lib.hid hl
 obtain ⟨W0, hW0⟩ : ∃ W0, w.alloc (.cells #[.string (ofL nm), v1, v2, v3] 59) = W0 := ⟨_, rfl⟩
 have HW0 := Lib.hid hW0
 have B0 := Lib.hid (show Below w.heap.size w W0 by rw [← hW0]; exact (Below.refl _ w).alloc (Nat.le_refl _) _)
 have X0 := Lib.hid (show Bx W0 w.heap.size 59 #[.string (ofL nm), v1, v2, v3] by rw [← hW0]; exact Bx.new _ _ _)
 have P0 := Lib.hid (h.below B0.out)
 have LR := Lib.hid (L1.belowT B0.out)
 have LM := Lib.hid (L2.belowT B0.out)
 have LB := Lib.hid (L3.belowT B0.out)
 have HM := Lib.hid hp
 have HS := Lib.hid hS
 have hrl : rs.length ≤ 100 := HM.out.rl
 have HLN := Lib.hid (show rs.length ≤ 10000 by omega)
 have HLJ := Lib.hid (show (joinB [44, 32] rs).length ≤ 100000000 by
  have h1 := joinB_len [44, 32] 1000 rs HM.out.rs
  have h2 : rs.length * (1000 + 2) ≤ 100 * 1002 := Nat.mul_le_mul hrl (Nat.le_refl _)
  exact Nat.le_trans h1 (Nat.le_trans h2 (by omega)))
 have HTX := Lib.hid (show tot = l ++ lineB 0 [[112, 114, 111, 116, 111, 99, 111, 108, 32], nm, listedB rs, [32, 123]] ++ (ms.flatMap (msgB 1) ++ itsB 1 bd ++ lineB 0 [[125]]) by
  rw [← HT.out]; unfold prB; simp only [List.append_assoc])
 have HLL := Lib.hid (show (l ++ lineB 0 [[112, 114, 111, 116, 111, 99, 111, 108, 32], nm, listedB rs, [32, 123]]).length ≤ 1000000000 by
  have h1 := HL.out
  rw [HTX.out, List.length_append] at h1
  omega)
 have HPT := Lib.hid (show Pt W0.drew B g 0 l from P0.out.below (Below.refl _ _).drew)
 have HLR := Lib.hid (show Lies W0.drew S v1 (dL rs) from Lies.keep (w := W0) (Nat.le_refl _) (fun _ _ _ => rfl) LR.out)
 have HK0 := Lib.hid (show Below w.heap.size w W0.drew from B0.out.trans ((Below.refl _ _).drew))
 have HK1 := Lib.hid (show Below W0.drew.heap.size W0 W0.drew from (Below.refl _ _).drew)
 have HSN := Lib.hid (show w.heap.size < W0.heap.size from X0.out.lt)
 have kz : W0.drew.cell? ⟨w.heap.size, 0, none⟩ = some (.string (ofL nm)) := X0.out.cell 0
 have k1 : W0.drew.cell? ⟨w.heap.size, 1, none⟩ = some v1 := X0.out.cell 1
 obtain ⟨A1, n1, c1, rfl, -⟩ := Lies.slc (show Lies W0.drew S v1 (.s 1 _) from HLR.out)
 clear htot hl L1 L2 L3 hp hS h
 go_enter Tryz.func92, Tryz.ntmps92
 go_wp2_with fail
 clear hW0 HW0
 go_region_with (first
  | (go_at_call 157; go_loud (refine (listed_any rs HLR.out HLN.out HLJ.out).mono ?_; rintro e w20 ⟨rfl, hb20⟩; have kz2 := (hb20.cell (p := ⟨w.heap.size, 0, none⟩) (by have := HSN.out; exact this)).trans kz; have P20 := Lib.hid (HPT.out.below hb20); have K20 := Lib.hid hb20; clear hb20))
  | (go_at_call 156; refine (line_any (ps := [[112, 114, 111, 116, 111, 99, 111, 108, 32], nm, listedB rs, [32, 123]]) (P20.out.alloc _) (heap_alloc_new w20 _) (by have := P20.out.lt; omega) (by simp) HLL.out).mono ?_; rintro e w21 ⟨rfl, P21, K21⟩; have P22 := Lib.hid P21; have K22 := Lib.hid K21; clear P21 K21))
 all_goals
  have KK := Lib.hid ((((Pk.refl g B W0.drew).below K20.out).alloc _).trans K22.out)
  have X21 := Lib.hid ((X0.out.below HK1.out).pk KK.out (by decide) (by omega))
  have LM21 := Lib.hid ((LM.out.belowT HK1.out).pk KK.out fun q hq => by have := HS.out q hq; omega)
  have LB21 := Lib.hid ((LB.out.belowT HK1.out).pk KK.out fun q hq => by have := HS.out q hq; omega)
  have c2 : w21.cell? ⟨g, 2, none⟩ = some (.int .i64 ((0 : Nat) : Int)) := by
   obtain ⟨a, v, _, h2, _⟩ := P22.out.blk
   exact cell_of_row w21 g 2 _ _ _ h2
  rw [show ((0 : Nat) : Int) = 0 from rfl] at c2
  have f2 : w21.frozen? ⟨g, 2, none⟩ = false := by
   obtain ⟨a, v, _, h2, _⟩ := P22.out.blk
   simp [World.frozen?, h2]
  obtain ⟨W2, hW2⟩ : ∃ W2, w21.setCell ⟨g, 2, none⟩ (.int .i64 1) = W2 := ⟨_, rfl⟩
  have P2 := P22.out.depth 1
  rw [show ((1 : Nat) : Int) = 1 from rfl, hW2] at P2
  have K2 : Pk g B w21 W2 := by rw [← hW2]; exact (Pk.refl g B w21).set 2 _
  have HP2 := Lib.hid P2
  have X2 := Lib.hid (X21.out.pk K2 (by decide) (by omega))
  have LM2 := Lib.hid (LM21.out.pk K2 fun q hq => by have := HS.out q hq; omega)
  have LB2 := Lib.hid (LB21.out.pk K2 fun q hq => by have := HS.out q hq; omega)
  have KW := Lib.hid (((Pk.refl g B w).below HK0.out).trans (KK.out.trans K2))
  have k2 : W2.cell? ⟨w.heap.size, 2, none⟩ = some v2 := X2.out.cell 2
  have hw1 : wrap64 1 = 1 := by unfold wrap64; omega
  clear P2 K2 kz k1 kz2
  obtain ⟨A2, n2, c2', rfl, hn2⟩ := LM2.out.slc
  go_wp2_with fail
  clear c2 f2 k2 hw1
  obtain rfl : n2 = ms.length := by have : n2 * 3 = (ms.flatMap dM).length := hn2; rw [flat_len dM_len] at this; omega
  have hml : ms.length ≤ 1000 := HM.out.ml
  obtain ⟨A3, n3, c3, rfl, -⟩ := Lies.slc (show Lies W2 S v3 (.s 7 (dIs bd)) from LB2.out)
  clear LM LB LM21 LB21 X21 LR HLR hn2 hW2
  go_loopg [5, 24, 25, 26, 27, 28, 29, 30, 31] ms.length (fun gk _ vi _ _ _ _ _ _ _ wr => PrRel W2 B g w.heap.size S #[.string (ofL nm), .slice A1 n1 c1, .slice A2 ms.length c2', .slice A3 n3 c3] ms bd (.slice A2 ms.length c2') (.slice A3 n3 c3) tot gk vi wr)
  case atStart => exact ⟨0, _, rfl, by omega, by omega, HP2, Pk.refl _ _ _, X2, LM2, LB2, HTX.out⟩
  case round =>
   obtain ⟨i, cur, rfl, hi, hgk, PT, PK, BX, LL, LB, HE⟩ := hrel
   by_cases hie : i = ms.length
   ·have hc : ¬ ((i : Int) < (ms.length : Int)) := by omega
    have HF := Lib.hid (show tot = cur ++ itsB 1 bd ++ lineB 0 [[125]] by
     have := HE.out
     rw [hie, List.drop_length, List.flatMap_nil, List.nil_append, ← List.append_assoc] at this
     exact this)
    have HFL := Lib.hid (show (cur ++ itsB 1 bd).length ≤ 1000000000 by
     have h1 := HL.out
     rw [HF.out, List.length_append] at h1
     omega)
    have c2 : wr.cell? ⟨g, 2, none⟩ = some (.int .i64 ((1 : Nat) : Int)) := by
     obtain ⟨a, v, _, h2, _⟩ := PT.out.blk
     exact cell_of_row wr g 2 _ _ _ h2
    rw [show ((1 : Nat) : Int) = 1 from rfl] at c2
    have f2 : wr.frozen? ⟨g, 2, none⟩ = false := by
     obtain ⟨a, v, _, h2, _⟩ := PT.out.blk
     simp [World.frozen?, h2]
    obtain ⟨W3, hW3⟩ : ∃ W3, wr.setCell ⟨g, 2, none⟩ (.int .i64 0) = W3 := ⟨_, rfl⟩
    have P3 := PT.out.depth 0
    rw [show ((0 : Nat) : Int) = 0 from rfl, hW3] at P3
    have K3 : Pk g B wr W3 := by rw [← hW3]; exact (Pk.refl g B wr).set 2 _
    have HP3 := Lib.hid P3
    have X3 := Lib.hid (BX.out.pk K3 (by decide) (by omega))
    have LB3 := Lib.hid (LB.out.pk K3 fun q hq => by have := HS.out q hq; omega)
    have K3' := Lib.hid (PK.out.trans K3)
    have k3 : W3.cell? ⟨w.heap.size, 3, none⟩ = some (.slice A3 n3 c3) := X3.out.cell 3
    have hw0 : wrap64 0 = 0 := by unfold wrap64; omega
    have HB1 := Lib.hid (show 0 + nIs bd ≤ 1000000000 by have h : nIs bd ≤ 100000 := HM.out.bn; omega)
    clear hie P3 K3 HE
    go_wp2_with fail
    refine (blkOK (nIs bd + 1) W3 B g 0 cur bd _ S (Nat.lt_succ_self _) HP3.out LB3.out HS.out HM.out.bd HFL.out HB1.out).mono ?_
    rintro e w5 ⟨rfl, P5, K5⟩
    have P5' := Lib.hid (show Pt w5 B g 0 (cur ++ itsB 1 bd) from P5)
    have K5' := Lib.hid (K3'.out.trans K5)
    clear P5 K5 c2 f2 k3 hW3
    have PA := Lib.hid (P5'.out.alloc (.cells #[.string { data := #[125] }] 9))
    go_wp2_with fail
    refine (line_any (ps := [[125]]) PA.out (heap_alloc_new w5 _) (by have := P5'.out.lt; omega) (by simp) (by rw [← HF.out]; exact HL.out)).mono ?_
    rintro e w6 ⟨rfl, P6, K6⟩
    have P6' := Lib.hid P6
    have K6' := Lib.hid (((KW.out.trans K5'.out).alloc _).trans K6)
    clear P6 K6
    go_wp2_with fail
    exact bodyPost_end (v := .tuple #[]) (by simp [results, Tryz.results92, go_sem]) rfl ⟨rfl, by rw [HF.out]; exact P6'.out, K6'.out⟩
   ·have hc : (i : Int) < (ms.length : Int) := by omega
    have hlt2 : i < ms.length := by omega
    obtain ⟨x, hx⟩ : ∃ x, ms[i]? = some x := ⟨ms[i], List.getElem?_eq_getElem hlt2⟩
    have HSB := Lib.hid (HM.out.ms x (List.mem_of_getElem? hx))
    have HE2 := Lib.hid (show tot = cur ++ msgB 1 x ++ ((ms.drop (i + 1)).flatMap (msgB 1) ++ itsB 1 bd ++ lineB 0 [[125]]) by
     have := HE.out
     rw [List.drop_eq_getElem_cons hlt2, List.flatMap_cons, (List.getElem?_eq_some_iff.1 hx).2] at this
     rw [this]; simp only [List.append_assoc])
    have hz : (cur ++ msgB 1 x).length ≤ 1000000000 := by
     have h1 := HL.out
     rw [HE2.out, List.length_append] at h1
     omega
    have HZ := Lib.hid hz
    obtain ⟨bb, o, n', c', he, hn', -, hbl2, hcell⟩ := sl_cell LL.out (by intro e0; have := congrArg List.length e0; rw [flat_len dM_len, List.length_nil] at this; omega)
    simp only [Value.slice.injEq] at he
    obtain ⟨rfl, -, rfl⟩ := he
    obtain ⟨A5, n5, c5, A6, n6, c6, u0, u1, u2, hl1, hl2⟩ := ms_cells hcell hx
    have HA := Lib.hid ((Below.refl wr.heap.size wr).alloc (Nat.le_refl _) (.cells #[.string (ofL x.nm), .slice A5 n5 c5, .slice A6 n6 c6] 74))
    have HL1 := Lib.hid hl1
    have HL2 := Lib.hid hl2
    clear hz hx hcell hbl2 HE hie hl1 hl2
    go_wp2_with fail
    refine (pmsg_any (PT.out.below HA.out) x HSB.out _ _ (HL1.out.belowT HA.out) (HL2.out.belowT HA.out) HZ.out).mono ?_; rintro e w4 ⟨rfl, P4, K4⟩
    have KA := Lib.hid (((Pk.refl g B wr).below HA.out).trans K4)
    have P4' := Lib.hid P4
    have K4' := Lib.hid (PK.out.trans KA.out)
    have X4' := Lib.hid (BX.out.pk KA.out (by decide) (by omega))
    have L4' := Lib.hid (LL.out.pk KA.out fun q hq => by have := HS.out q hq; omega)
    have B4' := Lib.hid (LB.out.pk KA.out fun q hq => by have := HS.out q hq; omega)
    clear P4 K4 u0 u1 u2
    go_wp2_with fail
    go_roundg (gk - 1)
    case rel => exact ⟨i + 1, _, by simp, by omega, by omega, P4', K4', X4', L4', B4', HE2.out⟩
    case measure => omega
end
/- Layer 10: the contract of canonical. -/
open Go.RowKit

theorem dP_len (p : Pr) : (dP p).length = 4 := rfl
theorem pr_cells {w : World} {S : Nat → Prop} {b o : Nat} {ps : List Pr} {i : Nat} {p : Pr} (h : ∀ (i : Nat) d, (ps.flatMap dP)[i]? = some d → ∃ u, w.cell? ⟨b, o + i, none⟩ = some u ∧ Lies w S u d) (hi : ps[i]? = some p) :
  ∃ A1 n1 c1 A2 n2 c2 A3 n3 c3, w.cell? ⟨b, o + i * 4, none⟩ = some (.string (ofL p.nm)) ∧ w.cell? ⟨b, o + i * 4 + 1, none⟩ = some (.slice A1 n1 c1) ∧ w.cell? ⟨b, o + i * 4 + 2, none⟩ = some (.slice A2 n2 c2) ∧ w.cell? ⟨b, o + i * 4 + 3, none⟩ = some (.slice A3 n3 c3) ∧
   Lies w S (.slice A1 n1 c1) (dL p.rs) ∧ Lies w S (.slice A2 n2 c2) (.s 3 (p.ms.flatMap dM)) ∧ Lies w S (.slice A3 n3 c3) (dB p.bd) := by
 have g : ∀ (r : Nat) d, (dP p)[r]? = some d → r < 4 → ∃ u, w.cell? ⟨b, o + i * 4 + r, none⟩ = some u ∧ Lies w S u d := fun r d hd hr => by
  have := h (i * 4 + r) d (by rw [flat_get dP_len ps i r p hi hr]; exact hd)
  rwa [← Nat.add_assoc] at this
 obtain ⟨u0, h0, l0⟩ := g 0 _ rfl (by omega)
 obtain ⟨u1, h1, l1⟩ := g 1 (dL p.rs) rfl (by omega)
 obtain ⟨u2, h2, l2⟩ := g 2 _ rfl (by omega)
 obtain ⟨u3, h3, l3⟩ := g 3 (dB p.bd) rfl (by omega)
 rw [l0.cell_eq] at h0
 obtain ⟨A1, n1, c1, rfl, -⟩ := Lies.slc (show Lies w S u1 (.s 1 (p.rs.flatMap fun x => [dS x])) from l1)
 obtain ⟨A2, n2, c2, rfl, -⟩ := l2.slc
 obtain ⟨A3, n3, c3, rfl, -⟩ := Lies.slc (show Lies w S u3 (.s 7 (dIs p.bd)) from l3)
 exact ⟨A1, n1, c1, A2, n2, c2, A3, n3, c3, h0, h1, h2, h3, l1, l2, l3⟩
def CnRel (W0 : World) (B g : Nat) (S : Nat → Prop) (ps : List Pr) (v0 : Value) (tot : Bs) (gk : Nat) (v : Value) (wr : World) : Prop :=
 ∃ (i : Nat) (cur : Bs), v = .int .i64 (i : Int) ∧ i ≤ ps.length ∧ ps.length ≤ gk + i ∧ Hid (Pt wr B g 0 cur) ∧ Hid (Pk g B W0 wr) ∧ Hid (Lies wr S v0 (.s 4 (ps.flatMap dP))) ∧ Hid (tot = cur ++ (ps.drop i).flatMap prB)
section
variable {w w' : World} {S : Nat → Prop}
set_option maxRecDepth 20000 in
set_option maxHeartbeats 4000000 in
theorem canon_any (ht : Tb w) (hg : gT < w.heap.size) (ps : List Pr) (hp : ∀ p ∈ ps, SmPr p) (v : Value) (L : Lies w S v (.s 4 (ps.flatMap dP))) (hS : ∀ k, S k → k < w.heap.size) (hn : ps.length ≤ 10000) (hl : (canonB ps).length ≤ 1000000000) :
  Calls Tryz.prog 49 #[v] w (Tells w (.string (ofL (canonB ps)))) := by
 obtain ⟨A, m, c, rfl, hm⟩ := L.slc
 obtain rfl : m = ps.length := by have : m * 4 = (ps.flatMap dP).length := hm; rw [flat_len dP_len] at this; omega
 obtain ⟨tot, htot⟩ : ∃ tot, canonB ps = tot := ⟨_, rfl⟩
 rw [htot] at hl ⊢
 have HT := Lib.hid htot
 have HL := Lib.hid hl
 have HM := Lib.hid hp
 have HS := Lib.hid hS
 obtain ⟨W0, hW0⟩ : ∃ W0, w.alloc (.cells #[.pointer none, .slice none 0 0, .int .i64 0] 170) = W0 := ⟨_, rfl⟩
 have B0 := Lib.hid (show Below w.heap.size w W0 by rw [← hW0]; exact (Below.refl _ w).alloc (Nat.le_refl _) _)
 have hs0 : W0.heap.size = w.heap.size + 1 := by rw [← hW0]; simp
 have P0 := Lib.hid (show Pt W0 (w.heap.size + 1) w.heap.size 0 [] from
  ⟨⟨.pointer none, .slice none 0 0, .inl rfl, by rw [← hW0]; exact heap_alloc_new w _, World.ownsRow_nil _ _ _ _, fun _ => rfl⟩, Nat.lt_succ_self _, by rw [hs0]; exact Nat.le_refl _, ht.below B0.out, hg⟩)
 have L0 := Lib.hid (L.belowT B0.out)
 clear htot hl hp hS hm hs0 L ht
 go_enter Tryz.func49, Tryz.ntmps49
 go_wp2_with fail
 clear hW0
 go_loopg [5, 10, 11, 12, 13, 14, 15, 16, 17] ps.length (fun gk _ vi _ _ _ _ _ _ _ wr => CnRel W0 (w.heap.size + 1) w.heap.size S ps (.slice A ps.length c) tot gk vi wr)
 case atStart => exact ⟨0, [], rfl, by omega, by omega, P0, Pk.refl _ _ _, L0, HT.out.symm⟩
 case round =>
  obtain ⟨i, cur, rfl, hi, hgk, PT, PK, LL, HE⟩ := hrel
  by_cases hie : i = ps.length
  ·have hc : ¬ ((i : Int) < (ps.length : Int)) := by omega
   have HF := Lib.hid (show tot = cur by have := HE.out; rw [hie, List.drop_length, List.flatMap_nil, List.append_nil] at this; exact this)
   clear hie
   go_wp2_with fail
   refine (bstring_any PT.out).mono ?_
   rintro e w5 ⟨rfl, hb5⟩
   have HB := Lib.hid (show Below w.heap.size w w5 from ⟨hb5.os.trans (PK.out.os.trans B0.out.os), hb5.tape.trans (PK.out.tape.trans B0.out.tape), hb5.output.trans (PK.out.output.trans B0.out.output), Nat.le_trans B0.out.size (Nat.le_trans PK.out.size hb5.size), fun k hk => by
    have h1 := B0.out.block k hk
    have h2 := PK.out.block k (Nat.lt_of_lt_of_le hk B0.out.size) (by omega) (.inl (by omega))
    have h3 := hb5.block k (by omega)
    rw [h3, h2, h1]⟩)
   clear hb5
   go_wp2_with fail
   exact bodyPost_end (v := .string (ofL cur)) (by simp [results, Tryz.results49, go_sem]) rfl ⟨by rw [HF.out], HB.out⟩
  ·have hc : (i : Int) < (ps.length : Int) := by omega
   have hlt2 : i < ps.length := by omega
   obtain ⟨x, hx⟩ : ∃ x, ps[i]? = some x := ⟨ps[i], List.getElem?_eq_getElem hlt2⟩
   have HSB := Lib.hid (HM.out x (List.mem_of_getElem? hx))
   have HE2 := Lib.hid (show tot = cur ++ prB x ++ (ps.drop (i + 1)).flatMap prB by
    have := HE.out
    rw [List.drop_eq_getElem_cons hlt2, List.flatMap_cons, (List.getElem?_eq_some_iff.1 hx).2] at this
    rw [this]; simp only [List.append_assoc])
   have hz : (cur ++ prB x).length ≤ 1000000000 := by
    have h1 := HL.out
    rw [HE2.out, List.length_append] at h1
    omega
   have HZ := Lib.hid hz
   obtain ⟨bb, o, n', c', he, hn', -, hbl2, hcell⟩ := sl_cell LL.out (by intro e0; have := congrArg List.length e0; rw [flat_len dP_len, List.length_nil] at this; omega)
   simp only [Value.slice.injEq] at he
   obtain ⟨rfl, -, rfl⟩ := he
   obtain ⟨A5, n5, c5, A6, n6, c6, A7, n7, c7, u0, u1, u2, u3, hl1, hl2, hl3⟩ := pr_cells hcell hx
   have HA := Lib.hid ((Below.refl wr.heap.size wr).alloc (Nat.le_refl _) (.cells #[.string (ofL x.nm), .slice A5 n5 c5, .slice A6 n6 c6, .slice A7 n7 c7] 59))
   have HL1 := Lib.hid hl1
   have HL2 := Lib.hid hl2
   have HL3 := Lib.hid hl3
   clear hz hx hcell hbl2 HE hie hl1 hl2 hl3
   go_wp2_with fail
   refine (proto_any (PT.out.below HA.out) x HSB.out _ _ _ (HL1.out.belowT HA.out) (HL2.out.belowT HA.out) (HL3.out.belowT HA.out) HS.out HZ.out).mono ?_; rintro e w4 ⟨rfl, P4, K4⟩
   have KA := Lib.hid (((Pk.refl w.heap.size (w.heap.size + 1) wr).below HA.out).trans K4)
   have P4' := Lib.hid P4
   have K4' := Lib.hid (PK.out.trans KA.out)
   have L4' := Lib.hid (LL.out.pk KA.out fun q hq => by have := HS.out q hq; omega)
   clear P4 K4 u0 u1 u2 u3
   go_wp2_with fail
   go_roundg (gk - 1)
   case rel => exact ⟨i + 1, _, by simp, by omega, by omega, P4', K4', L4', HE2.out⟩
   case measure => omega
end
/- Layer 10: what Valid asks: the contracts of all at messages and protocols. -/
open Go.RowKit

section
variable {w w' : World} {S : Nat → Prop}
set_option maxHeartbeats 2000000 in
theorem allM_any (K : Nat) (q : Ms → Bool) (hK : IsQ K q (RMs S)) (lo hi : Int) (l : List Ms) (v : Value) (L : Lies w S v (.s 3 (l.flatMap dM))) (hh : hi ≤ 1000000000) :
  Calls Tryz.prog 89 #[v, .int .i64 lo, .int .i64 hi, .func (.func K) #[] #[]] w (Tells w (.bool (alB q lo hi l))) := by
 obtain ⟨A, m, c, rfl, hm⟩ := L.slc
 obtain rfl : m = l.length := by have : m * 3 = (l.flatMap dM).length := hm; rw [flat_len dM_len] at this; omega
 have LL := Lib.hid L
 have hE := hK.1
 have hK2 := Lib.hid hK.2
 clear L hK hm
 cases hb : frB (l.length : Int) lo hi with
 | false =>
  have H := Lib.hid (show false = alB q lo hi l by unfold alB; rw [hb]; rfl)
  have HB := Lib.hid hb
  clear hb
  go_enter Tryz.func89, Tryz.ntmps89
  go_wp2_with fail
  refine (isFrom_any _ _ _).mono ?_; rintro e w2 ⟨rfl, rfl⟩; rw [HB.out]
  go_wp2_with fail
  go_ret
  exact ⟨by rw [H.out]; rfl, Below.refl _ _⟩
 | true =>
  have H := Lib.hid (show l.all q = alB q lo hi l by unfold alB; rw [hb]; rfl)
  have HB := Lib.hid hb
  have hn : l.length ≤ 1000000000 := by have := (fr_iff hb).2; omega
  clear hb
  go_enter Tryz.func89, Tryz.ntmps89
  go_wp2_with fail
  refine (isFrom_any _ _ _).mono ?_; rintro e w2 ⟨rfl, rfl⟩; rw [HB.out]
  go_wp2_with fail
  go_loopg [10, 19, 20, 21, 22, 23, 24, 25, 26] l.length (fun gk _ vi _ _ _ _ _ _ _ wr => AlRel w q l gk vi wr)
  case atStart => exact ⟨0, rfl, by omega, by omega, rfl, Below.refl _ _⟩
  case round =>
   obtain ⟨i, rfl, hil, hgk, hq, HR⟩ := hrel
   by_cases hie : i = l.length
   ·have hc : ¬ ((i : Int) < (l.length : Int)) := by omega
    have HF := Lib.hid (show true = alB q lo hi l by rw [← H.out, ← hq, hie, List.take_length])
    clear hie
    go_wp2_with fail
    go_ret
    exact ⟨by rw [← HF.out]; rfl, HR.out⟩
   ·have hc : (i : Int) < (l.length : Int) := by omega
    have hlt2 : i < l.length := by omega
    obtain ⟨x, hx⟩ : ∃ x, l[i]? = some x := ⟨l[i], List.getElem?_eq_getElem hlt2⟩
    have LW := Lib.hid (LL.out.belowT HR.out)
    obtain ⟨bb, o, n', c', he, hn', -, hbl2, hcell⟩ := sl_cell LW.out (by intro e0; have := congrArg List.length e0; rw [flat_len dM_len, List.length_nil] at this; omega)
    simp only [Value.slice.injEq] at he
    obtain ⟨rfl, -, rfl⟩ := he
    obtain ⟨A1, n1, c1, A2, n2, c2, u0, u1, u2, hl1, hl2⟩ := ms_cells hcell hx
    have HL1 := Lib.hid hl1
    have HL2 := Lib.hid hl2
    clear hl1 hl2
    have HB5 := Lib.hid ((Below.refl wr.heap.size wr).alloc (Nat.le_refl _) (.cells #[.string (ofL x.nm), .slice A1 n1 c1, .slice A2 n2 c2] 74))
    have HA := Lib.hid (HR.out.alloc HR.out.size (.cells #[.string (ofL x.nm), .slice A1 n1 c1, .slice A2 n2 c2] 74))
    have HX := Lib.hid hx
    have HQ := Lib.hid hq
    clear hx hcell hbl2 hie hq
    go_wp2_with fail
    refine (hK2.out _ x _ (show RMs S _ x _ from ⟨_, _, rfl, HL1.out.belowT (HB5.out), HL2.out.belowT (HB5.out)⟩)).mono ?_; rintro e w4 ⟨rfl, hb4⟩
    have H4 := Lib.hid (HA.out.trans (hb4.mono HA.out.size))
    clear hb4 u0 u1 u2
    cases hqx : q x with
    | false =>
     have HF := Lib.hid (show false = alB q lo hi l by
      rw [← H.out]
      exact (List.all_eq_false.2 ⟨x, List.mem_of_getElem? HX.out, by simp [hqx]⟩).symm)
     clear hqx
     go_wp2_with fail
     go_ret
     exact ⟨by rw [← HF.out]; rfl, H4.out⟩
    | true =>
     have HF := Lib.hid (show (l.take (i + 1)).all q = true by
      rw [List.take_add_one, List.all_append, HQ.out, HX.out]
      simp [hqx])
     clear hqx
     go_wp2_with fail
     go_roundg (gk - 1)
     case rel => exact ⟨i + 1, by simp, by omega, by omega, HF.out, H4⟩
     case measure => omega
set_option maxHeartbeats 2000000 in
theorem allP_any (K : Nat) (q : Pr → Bool) (hK : IsQ K q (RPr S)) (lo hi : Int) (l : List Pr) (v : Value) (L : Lies w S v (.s 4 (l.flatMap dP))) (hh : hi ≤ 1000000000) :
  Calls Tryz.prog 47 #[v, .int .i64 lo, .int .i64 hi, .func (.func K) #[] #[]] w (Tells w (.bool (alB q lo hi l))) := by
 obtain ⟨A, m, c, rfl, hm⟩ := L.slc
 obtain rfl : m = l.length := by have : m * 4 = (l.flatMap dP).length := hm; rw [flat_len dP_len] at this; omega
 have LL := Lib.hid L
 have hE := hK.1
 have hK2 := Lib.hid hK.2
 clear L hK hm
 cases hb : frB (l.length : Int) lo hi with
 | false =>
  have H := Lib.hid (show false = alB q lo hi l by unfold alB; rw [hb]; rfl)
  have HB := Lib.hid hb
  clear hb
  go_enter Tryz.func47, Tryz.ntmps47
  go_wp2_with fail
  refine (isFrom_any _ _ _).mono ?_; rintro e w2 ⟨rfl, rfl⟩; rw [HB.out]
  go_wp2_with fail
  go_ret
  exact ⟨by rw [H.out]; rfl, Below.refl _ _⟩
 | true =>
  have H := Lib.hid (show l.all q = alB q lo hi l by unfold alB; rw [hb]; rfl)
  have HB := Lib.hid hb
  have hn : l.length ≤ 1000000000 := by have := (fr_iff hb).2; omega
  clear hb
  go_enter Tryz.func47, Tryz.ntmps47
  go_wp2_with fail
  refine (isFrom_any _ _ _).mono ?_; rintro e w2 ⟨rfl, rfl⟩; rw [HB.out]
  go_wp2_with fail
  go_loopg [10, 19, 20, 21, 22, 23, 24, 25, 26] l.length (fun gk _ vi _ _ _ _ _ _ _ wr => AlRel w q l gk vi wr)
  case atStart => exact ⟨0, rfl, by omega, by omega, rfl, Below.refl _ _⟩
  case round =>
   obtain ⟨i, rfl, hil, hgk, hq, HR⟩ := hrel
   by_cases hie : i = l.length
   ·have hc : ¬ ((i : Int) < (l.length : Int)) := by omega
    have HF := Lib.hid (show true = alB q lo hi l by rw [← H.out, ← hq, hie, List.take_length])
    clear hie
    go_wp2_with fail
    go_ret
    exact ⟨by rw [← HF.out]; rfl, HR.out⟩
   ·have hc : (i : Int) < (l.length : Int) := by omega
    have hlt2 : i < l.length := by omega
    obtain ⟨x, hx⟩ : ∃ x, l[i]? = some x := ⟨l[i], List.getElem?_eq_getElem hlt2⟩
    have LW := Lib.hid (LL.out.belowT HR.out)
    obtain ⟨bb, o, n', c', he, hn', -, hbl2, hcell⟩ := sl_cell LW.out (by intro e0; have := congrArg List.length e0; rw [flat_len dP_len, List.length_nil] at this; omega)
    simp only [Value.slice.injEq] at he
    obtain ⟨rfl, -, rfl⟩ := he
    obtain ⟨A1, n1, c1, A2, n2, c2, A3, n3, c3, u0, u1, u2, u3, hl1, hl2, hl3⟩ := pr_cells hcell hx
    have HL1 := Lib.hid hl1
    have HL2 := Lib.hid hl2
    have HL3 := Lib.hid hl3
    clear hl1 hl2 hl3
    have HB5 := Lib.hid ((Below.refl wr.heap.size wr).alloc (Nat.le_refl _) (.cells #[.string (ofL x.nm), .slice A1 n1 c1, .slice A2 n2 c2, .slice A3 n3 c3] 59))
    have HA := Lib.hid (HR.out.alloc HR.out.size (.cells #[.string (ofL x.nm), .slice A1 n1 c1, .slice A2 n2 c2, .slice A3 n3 c3] 59))
    have HX := Lib.hid hx
    have HQ := Lib.hid hq
    clear hx hcell hbl2 hie hq
    go_wp2_with fail
    refine (hK2.out _ x _ (show RPr S _ x _ from ⟨_, _, _, rfl, HL1.out.belowT (HB5.out), HL2.out.belowT (HB5.out), HL3.out.belowT (HB5.out)⟩)).mono ?_; rintro e w4 ⟨rfl, hb4⟩
    have H4 := Lib.hid (HA.out.trans (hb4.mono HA.out.size))
    clear hb4 u0 u1 u2 u3
    cases hqx : q x with
    | false =>
     have HF := Lib.hid (show false = alB q lo hi l by
      rw [← H.out]
      exact (List.all_eq_false.2 ⟨x, List.mem_of_getElem? HX.out, by simp [hqx]⟩).symm)
     clear hqx
     go_wp2_with fail
     go_ret
     exact ⟨by rw [← HF.out]; rfl, H4.out⟩
    | true =>
     have HF := Lib.hid (show (l.take (i + 1)).all q = true by
      rw [List.take_add_one, List.all_append, HQ.out, HX.out]
      simp [hqx])
     clear hqx
     go_wp2_with fail
     go_roundg (gk - 1)
     case rel => exact ⟨i + 1, by simp, by omega, by omega, HF.out, H4⟩
     case measure => omega
end
end Go.Proofs.YtekpefcggikcbaaGreatDoor
