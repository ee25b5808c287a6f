/- Layer 10: the contract of the printer's message. -/
import Derived.Test.YtekpefcggikcbaaGreatDoorMSynU
import Derived.Test.YtekpefcggikcbaaGreatDoorMSynQ
import Derived.Deep.LoopGhost
import Derived.Deep.RegionWith
namespace Go.Proofs.YtekpefcggikcbaaGreatDoor
open Go.RowKit

/-- A message that is small enough. -/
structure SmMs (m : Ms) : Prop where
 nm : m.nm.length ≤ 1000
 fl : m.fs.length ≤ 100
 fs : ∀ f ∈ m.fs, SmFd f
 wl : m.wh.length ≤ 100
 wh : ∀ a ∈ m.wh, SmAm a
theorem dF_len (f : Fd) : (dF f).length = 4 := rfl
theorem dA_len (a : Am) : (dA a).length = 9 := rfl
theorem fd_cells {w : World} {S : Nat → Prop} {b o : Nat} {fs : List Fd} {i : Nat} {f : Fd} (h : ∀ (i : Nat) d, (fs.flatMap dF)[i]? = some d → ∃ u, w.cell? ⟨b, o + i, none⟩ = some u ∧ Lies w S u d) (hi : fs[i]? = some f) :
  w.cell? ⟨b, o + i * 4, none⟩ = some (.string (ofL f.nm)) ∧ w.cell? ⟨b, o + i * 4 + 1, none⟩ = some (.int .i64 f.k) ∧ w.cell? ⟨b, o + i * 4 + 2, none⟩ = some (.int .i64 f.lo) ∧ w.cell? ⟨b, o + i * 4 + 3, none⟩ = some (.int .i64 f.hi) := by
 have g : ∀ (r : Nat) d, (dF f)[r]? = some d → r < 4 → ∃ u, w.cell? ⟨b, o + i * 4 + r, none⟩ = some u ∧ Lies w S u d := fun r d hd hr => by
  have := h (i * 4 + r) d (by rw [flat_get dF_len fs i r f hi hr]; exact hd)
  rwa [← Nat.add_assoc] at this
 obtain ⟨u0, h0, l0⟩ := g 0 _ rfl (by omega)
 obtain ⟨u1, h1, l1⟩ := g 1 _ rfl (by omega)
 obtain ⟨u2, h2, l2⟩ := g 2 _ rfl (by omega)
 obtain ⟨u3, h3, l3⟩ := g 3 _ rfl (by omega)
 rw [l0.cell_eq] at h0
 rw [l1.cell_eq] at h1
 rw [l2.cell_eq] at h2
 rw [l3.cell_eq] at h3
 exact ⟨h0, h1, h2, h3⟩
theorem am_cells {w : World} {S : Nat → Prop} {b o : Nat} {wh : List Am} {i : Nat} {a : Am} (h : ∀ (i : Nat) d, (wh.flatMap dA)[i]? = some d → ∃ u, w.cell? ⟨b, o + i, none⟩ = some u ∧ Lies w S u d) (hi : wh[i]? = some a) :
  w.cell? ⟨b, o + i * 9, none⟩ = some (.int .i64 a.l.k) ∧ w.cell? ⟨b, o + i * 9 + 1, none⟩ = some (.string (ofL a.l.m)) ∧ w.cell? ⟨b, o + i * 9 + 2, none⟩ = some (.string (ofL a.l.f)) ∧ w.cell? ⟨b, o + i * 9 + 3, none⟩ = some (.int .i64 a.l.n) ∧ w.cell? ⟨b, o + i * 9 + 4, none⟩ = some (.string (ofL a.op)) ∧
  w.cell? ⟨b, o + i * 9 + 5, none⟩ = some (.int .i64 a.r.k) ∧ w.cell? ⟨b, o + i * 9 + 6, none⟩ = some (.string (ofL a.r.m)) ∧ w.cell? ⟨b, o + i * 9 + 7, none⟩ = some (.string (ofL a.r.f)) ∧ w.cell? ⟨b, o + i * 9 + 8, none⟩ = some (.int .i64 a.r.n) := by
 have g : ∀ (r : Nat) v, (dA a)[r]? = some (.c v) → r < 9 → w.cell? ⟨b, o + i * 9 + r, none⟩ = some v := fun r v hd hr => by
  obtain ⟨u, hu, hl⟩ := h (i * 9 + r) _ (by rw [flat_get dA_len wh i r a hi hr]; exact hd)
  rw [← Nat.add_assoc] at hu
  rw [hu, hl.cell_eq]
 exact ⟨g 0 _ rfl (by omega), g 1 _ rfl (by omega), g 2 _ rfl (by omega), g 3 _ rfl (by omega), g 4 _ rfl (by omega), g 5 _ rfl (by omega), g 6 _ rfl (by omega), g 7 _ rfl (by omega), g 8 _ rfl (by omega)⟩
theorem info_str : (Tryz.prog.info? 9).map (fun i => (i.zero, i.size, i.bytes)) = some (some (.string ⟨#[]⟩), 1, 16) := by kernel_rfl
theorem rel_all {α : Type} {wr : World} {B1 : Nat} {xs : List α} {f : α → Bs} {u : Value} (h : Bld wr B1 9 1 u xs.length ((xs.take xs.length).flatMap fun x => [dS (f x)])) : Lies wr (fun k => B1 ≤ k) u (dL (xs.map f)) := by
 have h2 := h.lies
 rw [List.take_length] at h2
 unfold dL
 rw [fm1] at h2 ⊢
 rw [List.map_map]
 exact h2
def MsRel {α : Type} (W0 : World) (B1 : Nat) (xs : List α) (f : α → Bs) (gk : Nat) (u : Value) (v : Value) (wr : World) : Prop :=
 ∃ i : Nat, v = .int .i64 (i : Int) ∧ i ≤ xs.length ∧ xs.length ≤ gk + i ∧ Hid (Bld wr B1 9 1 u i ((xs.take i).flatMap fun x => [dS (f x)])) ∧ Hid (Below B1 W0 wr)
section
variable {g B d : Nat} {l : Bs} {w w' : World} {S : Nat → Prop}
set_option maxRecDepth 20000 in
set_option maxHeartbeats 4000000 in
theorem pmsg_any (h : Pt w B g d l) (m : Ms) (hm : SmMs m) (v1 v2 : Value) (L1 : Lies w S v1 (.s 4 (m.fs.flatMap dF))) (L2 : Lies w S v2 (.s 9 (m.wh.flatMap dA))) (hl : (l ++ msgB d m).length ≤ 1000000000) :
  Calls Tryz.prog 158 #[.pointer (some ⟨g, 0, none⟩), .agg #[.string (ofL m.nm), v1, v2]] w (PtGot B g d (l ++ msgB d m) (.tuple #[]) w) := by
 obtain ⟨nm, fs, wh⟩ := m
 obtain ⟨A1, n1, c1, rfl, hn1⟩ := L1.slc
 obtain ⟨A2, n2, c2, rfl, hn2⟩ := L2.slc
 rw [flat_len dF_len] at hn1
 rw [flat_len dA_len] at hn2
 obtain rfl : n1 = fs.length := by have : n1 * 4 = fs.length * 4 := hn1; omega
 obtain rfl : n2 = wh.length := by have : n2 * 9 = wh.length * 9 := hn2; omega
 have hfl : fs.length ≤ 100 := hm.fl
 have hwl : wh.length ≤ 100 := hm.wl
 have HM := Lib.hid hm
 have HH := Lib.hid h
 have HL := Lib.hid hl
 obtain ⟨W0, hW0⟩ : ∃ W0, w.alloc (.cells #[.string (ofL nm), .slice A1 fs.length c1, .slice A2 wh.length c2] 74) = W0 := ⟨_, rfl⟩
 have HW0 := Lib.hid hW0
 have B0 := Lib.hid (show Below w.heap.size w W0 by rw [← hW0]; exact (Below.refl _ w).alloc (Nat.le_refl _) _)
 have hs0 : W0.heap.size = w.heap.size + 1 := by rw [← hW0]; simp
 have X0 := Lib.hid (show Bx W0 w.heap.size 74 #[.string (ofL nm), .slice A1 fs.length c1, .slice A2 wh.length c2] by rw [← hW0]; exact Bx.new _ _ _)
 have LF := Lib.hid (L1.belowT B0.out)
 have LW := Lib.hid (L2.belowT B0.out)
 have k0 := X0.out.cell 0
 have k1 := X0.out.cell 1
 have k2 := X0.out.cell 2
 have HS0 := Lib.hid hs0
 clear h hm L1 L2 hl hn1 hn2 hs0
 go_enter Tryz.func158, Tryz.ntmps158
 go_wp2_with fail
 go_loopg [4, 7, 14, 15, 16, 17, 18, 19, 20, 21, 22, 23] fs.length (fun gk v _ vi _ _ _ _ _ _ _ _ _ wr => MsRel W0 W0.heap.size fs showFieldB gk v vi wr)
 case atStart => exact ⟨0, rfl, by omega, by omega, Bld.nil _ _ _ _, Below.refl _ _⟩
 case round =>
  obtain ⟨i, rfl, hi, hgk, HR, HB⟩ := hrel
  by_cases hie : i = fs.length
  ·have hlt : ¬ ((i : Int) < (fs.length : Int)) := by omega
   have LR1 := Lib.hid (rel_all (f := showFieldB) (xs := fs) (hie ▸ HR.out))
   have B1 := Lib.hid (B0.out.trans (HB.out.mono B0.out.size))
   have X1 := Lib.hid (show Bx wr _ _ _ from (HB.out.block _ (by have := HS0.out; omega)).trans X0.out)
   have LW1 := Lib.hid (LW.out.belowT HB.out)
   have kk0 := X1.out.cell 0
   have kk2 := X1.out.cell 2
   clear LF HB HR hie k0 k1 k2
   obtain ⟨W1, hW1⟩ : ∃ W1, W1 = wr := ⟨_, rfl⟩
   subst hW1
   go_wp2_with fail
   go_loopg [5, 9, 27, 28, 29, 30, 31, 32, 33, 34, 35, 36] wh.length (fun gk v _ vi _ _ _ _ _ _ _ _ _ wr => MsRel W1 W1.heap.size wh showAtomB gk v vi wr)
   case atStart => exact ⟨0, rfl, by omega, by omega, Bld.nil _ _ _ _, Below.refl _ _⟩
   case round =>
    obtain ⟨i, rfl, hi, hgk, HR, HB⟩ := hrel
    by_cases hie : i = wh.length
    ·have hlt : ¬ ((i : Int) < (wh.length : Int)) := by omega
     have LA := Lib.hid (rel_all (f := showAtomB) (xs := wh) (hie ▸ HR.out))
     have LRN' := Lib.hid (LR1.out.belowT HB.out)
     have XN' := Lib.hid (show Bx wr _ _ _ from (HB.out.block _ (by have := X1.out.lt; exact this)).trans X1.out)
     have BN' := Lib.hid (B1.out.trans (HB.out.mono B1.out.size))
     have HLN := Lib.hid (show (fs.map showFieldB).length ≤ 10000 by rw [List.length_map]; omega)
     have HLJ := Lib.hid (show (joinB [44, 32] (fs.map showFieldB)).length ≤ 100000000 by
      have h1 := joinB_len [44, 32] 2000 (fs.map showFieldB) (fun x hx => by obtain ⟨f, hf, rfl⟩ := List.mem_map.1 hx; exact showField_len f (HM.out.fs f hf))
      have h2 : (fs.map showFieldB).length * (2000 + 2) ≤ 100 * 2002 := Nat.mul_le_mul (by rw [List.length_map]; omega) (Nat.le_refl _)
      exact Nat.le_trans h1 (Nat.le_trans h2 (by omega)))
     clear HB HR hie LR1 X1 kk0 kk2
     obtain ⟨A5, n5, c5, rfl, hn5⟩ := LA.out.slc
     have hn5' : n5 = wh.length := by have : n5 * 1 = ((wh.map showAtomB).flatMap fun x => [dS x]).length := hn5; rw [fm1, List.length_map, List.length_map] at this; omega
     subst hn5'
     by_cases hw : wh = []
     ·have hc : ¬ 0 < (wh.length : Int) := by rw [hw]; simp
      have HWW := Lib.hid (show whereB wh = [] by unfold whereB; rw [if_pos hw])
      obtain ⟨WN, hWN⟩ : ∃ WN, WN = wr := ⟨_, rfl⟩
      subst hWN
      have LRN := LRN'
      have XN := XN'
      have BN := BN'
      have HSN := Lib.hid (show w.heap.size < WN.heap.size from XN.out.lt)
      clear hw
      go_wp2_with fail
      have HWS := Lib.hid (show whereB wh = [] from HWW.out)
      have HPT := Lib.hid (show Pt WN.drew B g d l from (HH.out.below BN.out).below (Below.refl _ _).drew)
      have HLR := Lib.hid (show Lies WN.drew (fun k => W0.heap.size ≤ k) u4 (dL (fs.map showFieldB)) from Lies.keep (w := WN) (Nat.le_refl _) (fun _ _ _ => rfl) LRN.out)
      have kz : WN.drew.cell? ⟨w.heap.size, 0, none⟩ = some (.string (ofL nm)) := XN.out.cell 0
      have HTX := Lib.hid (show lineB d [[109, 101, 115, 115, 97, 103, 101, 32], nm, listedB (fs.map showFieldB), [], [59]] = msgB d ⟨nm, fs, wh⟩ by unfold msgB; rw [HWS.out])
      have HK0 := Lib.hid (show Below w.heap.size w WN.drew from BN.out.trans ((Below.refl _ _).drew))
      clear LRN XN BN
      go_region_with (first
       | (go_at_call 157; refine (listed_any (fs.map showFieldB) HLR.out HLN.out HLJ.out).mono ?_; rintro e w20 ⟨rfl, hb20⟩; have kz2 := (hb20.cell (p := ⟨w.heap.size, 0, none⟩) (by have := HSN.out; exact this)).trans kz; have P20 := Lib.hid (HPT.out.below hb20); have K20 := Lib.hid (HK0.out.trans (hb20.mono HK0.out.size)); clear hb20)
       | (go_at_call 156; refine (line_any (ps := [[109, 101, 115, 115, 97, 103, 101, 32], nm, listedB (fs.map showFieldB), [], [59]]) (P20.out.alloc _) (heap_alloc_new w20 _) (by have := P20.out.lt; omega) (by simp) (by rw [HTX.out]; exact HL.out)).mono ?_; rintro e w21 ⟨rfl, P21, K21⟩; have P22 := Lib.hid P21; have K22 := Lib.hid K21; clear P21 K21))
      all_goals
       have HF := Lib.hid (show PtGot B g d (l ++ msgB d ⟨nm, fs, wh⟩) (.tuple #[]) w (.returned (.tuple #[])) w21 from ⟨rfl, by rw [← HTX.out]; exact P22.out, (((Pk.refl g B w).below K20.out).alloc _).trans K22.out⟩)
       go_wp2
       exact bodyPost_end (v := .tuple #[]) (by simp [results, Tryz.results158, go_sem]) rfl HF.out
     ·have hwp := List.length_pos_iff.2 hw
      have hc : 0 < (wh.length : Int) := by omega
      obtain ⟨y, hy⟩ : ∃ y, joinB [32, 97, 110, 100, 32] (wh.map showAtomB) = y := ⟨_, rfl⟩
      have HJA := Lib.hid (show (joinB [32, 97, 110, 100, 32] (wh.map showAtomB)).length ≤ 100000000 by
       have h1 := joinB_len [32, 97, 110, 100, 32] 6000 (wh.map showAtomB) (fun x hx => by obtain ⟨a, ha, rfl⟩ := List.mem_map.1 hx; exact showAtom_len a (HM.out.wh a ha))
       have h2 : (wh.map showAtomB).length * (6000 + 5) ≤ 100 * 6005 := Nat.mul_le_mul (by rw [List.length_map]; omega) (Nat.le_refl _)
       exact Nat.le_trans h1 (Nat.le_trans h2 (by omega)))
      have hz : (ofL y).size ≤ 100000000 := by rw [ofL_size, ← hy]; exact HJA.out
      obtain ⟨ws, hws⟩ : ∃ ws : Bs, ws = [32, 119, 104, 101, 114, 101, 32] ++ y := ⟨_, rfl⟩
      have HWW := Lib.hid (show whereB wh = ws by unfold whereB; rw [if_neg hw, hws, hy])
      have HWA := Lib.hid (show (⟨#[32, 119, 104, 101, 114, 101, 32]⟩ : ByteArray) ++ ofL y = ofL ws by rw [hws]; exact ofL_append _ _)
      have HY := Lib.hid hy
      have HLA := Lib.hid (show (wh.map showAtomB).length ≤ 10000 by rw [List.length_map]; omega)
      clear hw hwp hy hws
      go_wp2_with fail
      refine (join_any (wh.map showAtomB) [32, 97, 110, 100, 32] LA.out HLA.out HJA.out).mono ?_; rintro e WN ⟨rfl, hb16⟩
      rw [HY.out]
      have LRN := Lib.hid (LRN'.out.belowT hb16)
      have XN := Lib.hid (XN'.out.below hb16)
      have BN := Lib.hid (BN'.out.trans (hb16.mono BN'.out.size))
      have HSN := Lib.hid (show w.heap.size < WN.heap.size from XN.out.lt)
      clear hb16
      go_wp2_with fail
      rw [HWA.out]
      have HWS := Lib.hid (show whereB wh = ws from HWW.out)
      have HPT := Lib.hid (show Pt WN.drew B g d l from (HH.out.below BN.out).below (Below.refl _ _).drew)
      have HLR := Lib.hid (show Lies WN.drew (fun k => W0.heap.size ≤ k) u4 (dL (fs.map showFieldB)) from Lies.keep (w := WN) (Nat.le_refl _) (fun _ _ _ => rfl) LRN.out)
      have kz : WN.drew.cell? ⟨w.heap.size, 0, none⟩ = some (.string (ofL nm)) := XN.out.cell 0
      have HTX := Lib.hid (show lineB d [[109, 101, 115, 115, 97, 103, 101, 32], nm, listedB (fs.map showFieldB), ws, [59]] = msgB d ⟨nm, fs, wh⟩ by unfold msgB; rw [HWS.out])
      have HK0 := Lib.hid (show Below w.heap.size w WN.drew from BN.out.trans ((Below.refl _ _).drew))
      clear LRN XN BN
      go_region_with (first
       | (go_at_call 157; refine (listed_any (fs.map showFieldB) HLR.out HLN.out HLJ.out).mono ?_; rintro e w20 ⟨rfl, hb20⟩; have kz2 := (hb20.cell (p := ⟨w.heap.size, 0, none⟩) (by have := HSN.out; exact this)).trans kz; have P20 := Lib.hid (HPT.out.below hb20); have K20 := Lib.hid (HK0.out.trans (hb20.mono HK0.out.size)); clear hb20)
       | (go_at_call 156; refine (line_any (ps := [[109, 101, 115, 115, 97, 103, 101, 32], nm, listedB (fs.map showFieldB), ws, [59]]) (P20.out.alloc _) (heap_alloc_new w20 _) (by have := P20.out.lt; omega) (by simp) (by rw [HTX.out]; exact HL.out)).mono ?_; rintro e w21 ⟨rfl, P21, K21⟩; have P22 := Lib.hid P21; have K22 := Lib.hid K21; clear P21 K21))
      all_goals
       have HF := Lib.hid (show PtGot B g d (l ++ msgB d ⟨nm, fs, wh⟩) (.tuple #[]) w (.returned (.tuple #[])) w21 from ⟨rfl, by rw [← HTX.out]; exact P22.out, (((Pk.refl g B w).below K20.out).alloc _).trans K22.out⟩)
       go_wp2
       exact bodyPost_end (v := .tuple #[]) (by simp [results, Tryz.results158, go_sem]) rfl HF.out
    ·have hlt : (i : Int) < (wh.length : Int) := by omega
     have hlt2 : i < wh.length := by omega
     obtain ⟨x, hx⟩ : ∃ x, wh[i]? = some x := ⟨wh[i], List.getElem?_eq_getElem hlt2⟩
     have HSM := Lib.hid (HM.out.wh x (List.mem_of_getElem? hx))
     obtain ⟨b, of, n', c', he, -, -, hbl, hcell⟩ := sl_cell LW1.out (by intro e0; have := congrArg List.length e0; rw [flat_len dA_len] at this; simp at this; omega)
     simp only [Value.slice.injEq] at he
     obtain ⟨rfl, -, rfl⟩ := he
     obtain ⟨q0, q1, q2, q3, q4, q5, q6, q7, q8⟩ := am_cells hcell hx
     have c0 : wr.cell? ⟨b, of + i * 9, none⟩ = _ := (HB.out.cell (p := ⟨b, of + i * 9, none⟩) hbl).trans q0
     have c1 : wr.cell? ⟨b, of + i * 9 + 1, none⟩ = _ := (HB.out.cell (p := ⟨b, of + i * 9 + 1, none⟩) hbl).trans q1
     have c2 : wr.cell? ⟨b, of + i * 9 + 2, none⟩ = _ := (HB.out.cell (p := ⟨b, of + i * 9 + 2, none⟩) hbl).trans q2
     have c3 : wr.cell? ⟨b, of + i * 9 + 3, none⟩ = _ := (HB.out.cell (p := ⟨b, of + i * 9 + 3, none⟩) hbl).trans q3
     have c4 : wr.cell? ⟨b, of + i * 9 + 4, none⟩ = _ := (HB.out.cell (p := ⟨b, of + i * 9 + 4, none⟩) hbl).trans q4
     have c5 : wr.cell? ⟨b, of + i * 9 + 5, none⟩ = _ := (HB.out.cell (p := ⟨b, of + i * 9 + 5, none⟩) hbl).trans q5
     have c6 : wr.cell? ⟨b, of + i * 9 + 6, none⟩ = _ := (HB.out.cell (p := ⟨b, of + i * 9 + 6, none⟩) hbl).trans q6
     have c7 : wr.cell? ⟨b, of + i * 9 + 7, none⟩ = _ := (HB.out.cell (p := ⟨b, of + i * 9 + 7, none⟩) hbl).trans q7
     have c8 : wr.cell? ⟨b, of + i * 9 + 8, none⟩ = _ := (HB.out.cell (p := ⟨b, of + i * 9 + 8, none⟩) hbl).trans q8
     have HX := Lib.hid hx
     have HQ := Lib.hid (show Below W1.heap.size W1 (wr.alloc (.cells #[.int .i64 x.l.k, .string (ofL x.l.m), .string (ofL x.l.f), .int .i64 x.l.n, .string (ofL x.op), .int .i64 x.r.k, .string (ofL x.r.m), .string (ofL x.r.f), .int .i64 x.r.n] 100)) from HB.out.alloc HB.out.size _)
     have HTB := Lib.hid (show Tb (wr.alloc (.cells #[.int .i64 x.l.k, .string (ofL x.l.m), .string (ofL x.l.f), .int .i64 x.l.n, .string (ofL x.op), .int .i64 x.r.k, .string (ofL x.r.m), .string (ofL x.r.f), .int .i64 x.r.n] 100)) from HH.out.tb.below (B1.out.trans (HQ.out.mono B1.out.size)))
     have HR2 := Lib.hid (show Bld (wr.alloc (.cells #[.int .i64 x.l.k, .string (ofL x.l.m), .string (ofL x.l.f), .int .i64 x.l.n, .string (ofL x.op), .int .i64 x.r.k, .string (ofL x.r.m), .string (ofL x.r.f), .int .i64 x.r.n] 100)) _ _ _ _ _ _ from HR.out.keep (by simp) fun k hk _ => Below.heap_alloc _ _ k hk)
     clear hx hcell hbl hie q0 q1 q2 q3 q4 q5 q6 q7 q8
     go_wp2_with fail
     refine (show Calls _ _ #[vA x] _ _ from (showAtom_any HTB.out x HSM.out).mono ?_); rintro e w3 ⟨rfl, hb3⟩
     have HR3 := Lib.hid (HR2.out.keep hb3.size fun k hk _ => hb3.block k hk)
     have HQ3 := Lib.hid (HQ.out.trans (hb3.mono HQ.out.size))
     have hsz3 : W1.heap.size ≤ w3.heap.size := HQ3.out.size
     have hby : (i + 1) * 16 ≤ 140737488355328 := by omega
     clear hb3 c0 c1 c2 c3 c4 c5 c6 c7 c8
     go_wp2_with (at_builtin; refine appD rfl _ _ 45 rfl 9 _ 1 16 info_str rfl (by decide) Tryz.underlying45 W1.heap.size u5 _ _ rfl HR3.out _ [dS (showAtomB x)] rfl rfl (LiesL.cons (.c _ rfl) (LiesL.nil _ _)) hby hsz3 ?_ (by decide); intro v' w8 hown8 hg8; have hV8 := Lib.hid hown8; have hF8 := Lib.hid (grown_below HR3.out hg8 hsz3); clear hown8 hg8)
     go_roundg (gk - 1)
     case rel =>
      refine ⟨i + 1, by simp, by omega, by omega, ?_, HQ3.out.trans hF8.out⟩
      have := hV8.out
      unfold Hid
      rw [List.take_add_one, HX.out, List.flatMap_append]
      exact this
     case measure => omega
  ·have hlt : (i : Int) < (fs.length : Int) := by omega
   have hlt2 : i < fs.length := by omega
   obtain ⟨x, hx⟩ : ∃ x, fs[i]? = some x := ⟨fs[i], List.getElem?_eq_getElem hlt2⟩
   have HSM := Lib.hid (HM.out.fs x (List.mem_of_getElem? hx))
   obtain ⟨b, of, n', c', he, -, -, hbl, hcell⟩ := sl_cell LF.out (by intro e0; have := congrArg List.length e0; rw [flat_len dF_len] at this; simp at this; omega)
   simp only [Value.slice.injEq] at he
   obtain ⟨rfl, -, rfl⟩ := he
   obtain ⟨q0, q1, q2, q3⟩ := fd_cells hcell hx
   have c0 : wr.cell? ⟨b, of + i * 4, none⟩ = _ := (HB.out.cell (p := ⟨b, of + i * 4, none⟩) hbl).trans q0
   have c1 : wr.cell? ⟨b, of + i * 4 + 1, none⟩ = _ := (HB.out.cell (p := ⟨b, of + i * 4 + 1, none⟩) hbl).trans q1
   have c2 : wr.cell? ⟨b, of + i * 4 + 2, none⟩ = _ := (HB.out.cell (p := ⟨b, of + i * 4 + 2, none⟩) hbl).trans q2
   have c3 : wr.cell? ⟨b, of + i * 4 + 3, none⟩ = _ := (HB.out.cell (p := ⟨b, of + i * 4 + 3, none⟩) hbl).trans q3
   have HX := Lib.hid hx
   have HQ := Lib.hid (show Below W0.heap.size W0 (wr.alloc (.cells #[.string (ofL x.nm), .int .i64 x.k, .int .i64 x.lo, .int .i64 x.hi] 158)) from HB.out.alloc HB.out.size _)
   have HTB := Lib.hid (show Tb (wr.alloc (.cells #[.string (ofL x.nm), .int .i64 x.k, .int .i64 x.lo, .int .i64 x.hi] 158)) from HH.out.tb.below (B0.out.trans (HQ.out.mono B0.out.size)))
   have HR2 := Lib.hid (show Bld (wr.alloc (.cells #[.string (ofL x.nm), .int .i64 x.k, .int .i64 x.lo, .int .i64 x.hi] 158)) _ _ _ _ _ _ from HR.out.keep (by simp) fun k hk _ => Below.heap_alloc _ _ k hk)
   clear hx hcell hbl hie q0 q1 q2 q3
   go_wp2_with fail
   refine (show Calls _ _ #[vF x] _ _ from (showField_any HTB.out x HSM.out).mono ?_); rintro e w3 ⟨rfl, hb3⟩
   have HR3 := Lib.hid (HR2.out.keep hb3.size fun k hk _ => hb3.block k hk)
   have HQ3 := Lib.hid (HQ.out.trans (hb3.mono HQ.out.size))
   have hsz3 : W0.heap.size ≤ w3.heap.size := HQ3.out.size
   have hby : (i + 1) * 16 ≤ 140737488355328 := by omega
   clear hb3 c0 c1 c2 c3
   go_wp2_with (at_builtin; refine appD rfl _ _ 45 rfl 9 _ 1 16 info_str rfl (by decide) Tryz.underlying45 W0.heap.size u4 _ _ rfl HR3.out _ [dS (showFieldB x)] rfl rfl (LiesL.cons (.c _ rfl) (LiesL.nil _ _)) hby hsz3 ?_ (by decide); intro v' w8 hown8 hg8; have hV8 := Lib.hid hown8; have hF8 := Lib.hid (grown_below HR3.out hg8 hsz3); clear hown8 hg8)
   go_roundg (gk - 1)
   case rel =>
    refine ⟨i + 1, by simp, by omega, by omega, ?_, HQ3.out.trans hF8.out⟩
    have := hV8.out
    unfold Hid
    rw [List.take_add_one, HX.out, List.flatMap_append]
    exact this
   case measure => omega
end
end Go.Proofs.YtekpefcggikcbaaGreatDoor
